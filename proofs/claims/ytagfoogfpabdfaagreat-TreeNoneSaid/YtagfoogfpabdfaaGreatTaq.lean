/- Texts of the proof. -/
import Derived.Test.YtagfoogfpabdfaaGreatTap
import Derived.Test.YtagfoogfpabdfaaGreatTal
import Derived.Lib.SliceRun
import Derived.Test.YtagfoogfpabdfaaGreatTan
import Derived.Great.BuildSlice
set_option maxRecDepth 100000
set_option maxHeartbeats 16000000
namespace Go.Proofs.YtagfoogfpabdfaaGreat
section
open Go.RowKit Go.Maps
open Dk (av aa)
open Ii (Ino)
open Dm (Ent Has)
theorem eZ (l:List UInt8):(strOf l).toList=l:=by rw [Lib.toList_data];rfl
theorem ER {e:Ent} (h:Nm.bL e.1 e.2=true) (hu:Dm.used e=false):e=(0,[]):=by
 unfold Dm.used at hu
 have h0:e.1=0:=by simpa using hu
 rcases Nm.nS h with ⟨h1,h2⟩ | ⟨h1,_⟩
 ·exact Prod.ext h1 h2
 ·omega
theorem ly {e:Ent} (h:Nm.bL e.1 e.2=true) (w:World):Calls Tryz.prog 129 #[.agg (dr e).toArray] w fun r w'=>r=.returned (.bool (!Dm.used e))∧Below w.heap.size w w':=by
 obtain ⟨n,s⟩:=e
 have HB:Hid (Below w.heap.size w (w.alloc (.cells #[.int .i64 n,.string (strOf s)] 66))):=Lib.hid ((Below.refl _ _).alloc (Nat.le_refl _) _)
 change Calls Tryz.prog _ #[.agg #[.int .i64 n,.string (strOf s)]] w _
 cases hu:Dm.used (n,s) with
 |
  true=>
  have hn:n≠0:=by unfold Dm.used at hu;simpa using hu
  have g0:(n == 0)=false:=by simpa using hn
  clear h hu
  go_enter Tryz.func129,Tryz.ntmps129
  go_wp2
  go_ret
  exact ⟨rfl,HB.out⟩
 |
  false=>
  have he:=ER h hu
  injection he with h1 h2
  subst h1 h2
  have hs:(strOf ([]:List UInt8)).toList=[]:=eZ []
  clear h hu
  go_enter Tryz.func129,Tryz.ntmps129
  go_wp2
  go_ret
  exact ⟨rfl,HB.out⟩
theorem GJ (w:World) (n:Int) (s:ByteArray):(w.alloc (.cells #[.int .i64 n,.string s] 66)).cell? ⟨w.heap.size,1,none⟩=some (.string s)∧au (w.alloc (.cells #[.int .i64 n,.string s] 66)) w.heap.size [.int .i64 n,.string s]:=by
 have r0:au (w.alloc (.cells #[.int .i64 n,.string s] 66)) w.heap.size [.int .i64 n,.string s]:=((Lo.start (L:=[]) w (by simp)).alloc _ rfl [.int .i64 n,.string s] _).get 0 _ rfl
 exact ⟨r0.cell 1 _ rfl,r0⟩
theorem Jz {e:Ent} (h:Nm.bL e.1 e.2=true) (s:List UInt8) (X:Nat) (w:World) (hX:au w X [.string (strOf s)]):Calls Tryz.prog 191 #[.agg (dr e).toArray,.pointer (some ⟨X,0,none⟩)] w fun r w'=>r=.returned (.bool (Dm.LW s e))∧Below w.heap.size w w':=by
 have HE:=Lib.hid (fun W=>ly h W)
 obtain ⟨n,r⟩:=e
 have HB:Hid (Below w.heap.size w (w.alloc (.cells #[.int .i64 n,.string (strOf r)] 66))):=Lib.hid ((Below.refl _ _).alloc (Nat.le_refl _) _)
 have HX:=Lib.hid (hX.step HB.out)
 have HR:=Lib.hid (GJ w n (strOf r)).2
 change Hid (∀ W,Calls Tryz.prog _ #[.agg #[.int .i64 n,.string (strOf r)]] W _) at HE
 change Calls Tryz.prog _ #[.agg #[.int .i64 n,.string (strOf r)],_] w _
 unfold Dm.LW
 clear hX h
 cases hu:Dm.used (n,r) with
 |
  true=>
  rw [hu] at HE
  by_cases hs:r=s
  ·have g0:((strOf r).toList == (strOf s).toList)=true:=by rw [eZ,eZ];simpa using hs
   rw [show decide (((n,r):Ent).2=s)=true from decide_eq_true hs]
   clear hs hu
   go_enter Tryz.func191,Tryz.ntmps191
   go_wp2_with (go_at_call 129;refine (HE.out _).mono ?_;rintro e w1 ⟨rfl,hb⟩;have HB1:=Lib.hid (HB.out.trans (hb.mono HB.out.size));have c1:=(HR.out.step hb).cell 1 _ rfl;have c2:=(HX.out.step hb).cell 0 _ rfl;clear hb)
   go_ret
   exact ⟨rfl,HB1.out⟩
  ·have g0:((strOf r).toList == (strOf s).toList)=false:=by rw [eZ,eZ];simpa using hs
   rw [show decide (((n,r):Ent).2=s)=false from decide_eq_false hs]
   clear hs hu
   go_enter Tryz.func191,Tryz.ntmps191
   go_wp2_with (go_at_call 129;refine (HE.out _).mono ?_;rintro e w1 ⟨rfl,hb⟩;have HB1:=Lib.hid (HB.out.trans (hb.mono HB.out.size));have c1:=(HR.out.step hb).cell 1 _ rfl;have c2:=(HX.out.step hb).cell 0 _ rfl;clear hb)
   go_ret
   exact ⟨rfl,HB1.out⟩
 |
  false=>
  rw [hu] at HE
  clear hu
  go_enter Tryz.func191,Tryz.ntmps191
  go_wp2_with (go_at_call 129;refine (HE.out _).mono ?_;rintro e w1 ⟨rfl,hb⟩;have HB1:=Lib.hid (HB.out.trans (hb.mono HB.out.size));clear hb)
  go_ret
  exact ⟨rfl,HB1.out⟩
def uX:Option Nat→Int
 | none=>-1
 | some i=>(i:Int)
theorem GB {p:Ent→Bool} {E:List Ent} {k:Nat} {e:Ent} (he:E[k]?=some e) (hp:p e=true) (hb:∀ j x,j<k→E[j]?=some x→p x=false):E.findIdx? p=some k:=by
 obtain ⟨hk1,hk2⟩:=(List.getElem?_eq_some_iff.1 he)
 rw [List.findIdx?_eq_some_iff_getElem]
 refine ⟨hk1,by rw [hk2];exact hp,fun j hj=>?_⟩
 have:=hb j _ hj (List.getElem?_eq_getElem (by omega))
 simpa using this
theorem DK {p:Ent→Bool} {E:List Ent} (hb:∀ j x,j<E.length→E[j]?=some x→p x=false):E.findIdx? p=none:=by
 rw [List.findIdx?_eq_none_iff]
 intro x hx
 obtain ⟨i,hi,he⟩:=List.getElem_of_mem hx
 exact hb i x hi (by rw [List.getElem?_eq_getElem hi,he])
theorem wu (p:Ent→Bool) (g:FuncId) (lb:Array Value) (eg:∀ args w,(callFunc g args).run Tryz.prog w=.ok (.enter g args) w) (A:Option Addr) (n c:Nat) (E:List Ent) (w:World) (hr:eA w A n E) (hn:n≤5000)
  (hp:∀ W e,e∈E→Below w.heap.size w W→Calls Tryz.prog g (#[.agg (dr e).toArray]++lb) W fun r w'=>r=.returned (.bool (p e))∧Below W.heap.size W w'):
  Calls Tryz.prog 184 #[.slice A n c,.func (.func g) #[] lb] w fun e w'=>e=.returned (.int .i64 (uX (E.findIdx? p)))∧Below w.heap.size w w':=by
 have HR:=Lib.hid hr
 have HP:=Lib.hid hp
 have HLN:=Lib.hid hr.len
 clear hr hp
 go_enter Tryz.func184,Tryz.ntmps184
 go_wp2_with fail
 go_loopw [5,8] (fun _ i wr=>∃ (k:Nat),k≤n∧i=.int .i64 k∧Hid (Below w.heap.size w wr)∧Hid (∀ j x,j<k→E[j]?=some x→p x=false)) (fun _ i _=>n - (intOf i).toNat)
 case atStart=>exact ⟨0,Nat.zero_le _,rfl,Lib.hid (Below.refl _ _),Lib.hid (fun j x hj=>absurd hj (Nat.not_lt_zero _))⟩
 case round=>
  obtain ⟨k,hk,rfl,HB,HN⟩:=hrel
  rename World=>wr
  by_cases hlt:k<n
  ·obtain ⟨e,he⟩:∃ e,E[k]?=some e:=⟨_,List.getElem?_eq_getElem (by rw [HLN.out];exact hlt)⟩
   have HR2:=Lib.hid (HR.out.below HB.out)
   obtain ⟨pb,poff,rfl,hpb,hpr⟩:=HR2.out.cells (by omega)
   have HPE:Hid (wr.rangeAt pb (poff+k*2) (dr e)):=Lib.hid (hpr k e he)
   have HC:=Lib.hid (HP.out wr e (List.mem_of_getElem? he) HB.out)
   have HE:=Lib.hid he
   clear hpr hpb he
   have hlz:(k:Int)<(n:Int):=by omega
   go_wp2_with (with_reducible refine wpList_load_mid rfl 66 (.tmp 14) rfl pb (poff+k*2) rfl (dr e) _ HPE.out Tryz.underlying66 rfl (by kernel_rfl) ?_)
   refine HC.out.mono ?_
   rintro r w1 ⟨rfl,hb⟩
   have HB1:=Lib.hid (HB.out.trans (hb.mono HB.out.size))
   clear hb HC
   cases hpe:p e with
   |
    true=>
    go_wp2_with fail
    go_ret
    rw [GB HE.out hpe HN.out]
    exact ⟨rfl,HB1.out⟩
   |
    false=>
    have HN1:Hid (∀ j x,j<k+1→E[j]?=some x→p x=false):=Lib.hid (fun j x hj hx=>by
     rcases Nat.lt_or_ge j k with q | q
     ·exact HN.out j x q hx
     ·obtain rfl:j=k:=by omega
      rw [HE.out] at hx
      injection hx with hx
      rw [← hx];exact hpe)
    clear hpe HE HN
    go_wp2_with fail
    go_roundw
    case rel=>exact ⟨k+1,by omega,by go_num,HB1,HN1⟩
    case measure=>simp [intOf];omega
  ·obtain rfl:k=n:=by omega
   have hlz:¬ (k:Int)<(k:Int):=by omega
   go_wp2_with fail
   go_ret
   rw [DK (fun j x hj hx=>HN.out j x (by rw [HLN.out] at hj;exact hj) hx)]
   exact ⟨rfl,HB.out⟩
theorem BW (w:World) (A1:Option Addr) (n1 c1:Nat) (A2:Option Addr) (n2 c2:Nat) (s:ByteArray):Lo [] w [(w.heap.size,iS A1 n1 c1 A2 n2 c2),(w.heap.size+1,[.string s])] ((w.alloc (.cells #[.slice A1 n1 c1,.slice A2 n2 c2] 169)).alloc (.cells #[.string s] 9)):=
 ((Lo.start (L:=[]) w (by simp)).alloc _ rfl (iS A1 n1 c1 A2 n2 c2) _).alloc (w.heap.size+1) (by simp) [.string s] _
theorem BS (w:World) (A1:Option Addr) (n1 c1:Nat) (A2:Option Addr) (n2 c2:Nat):Lo [] w [(w.heap.size,iS A1 n1 c1 A2 n2 c2)] (w.alloc (.cells #[.slice A1 n1 c1,.slice A2 n2 c2] 169)):=
 (Lo.start (L:=[]) w (by simp)).alloc _ rfl (iS A1 n1 c1 A2 n2 c2) _
theorem GC (A1:Option Addr) (n1 c1:Nat) (A2:Option Addr) (n2 c2:Nat) (s:List UInt8) (E:List Ent) (w:World) (hr:eA w A2 n2 E) (hn:n2≤5000) (hst:∀ e∈E,Nm.bL e.1 e.2=true):
  Calls Tryz.prog 135 #[Bh A1 n1 c1 A2 n2 c2,.string (strOf s)] w fun e w'=>e=.returned (.int .i64 (uX (Dm.spot E s)))∧Below w.heap.size w w':=by
 have hmf:∀ (fn:Fn) (first cap:Array Value) (w:World),(Instr.makeFunc fn first cap).run Tryz.prog w=.ok (.func fn first cap) w:=fun _ _ _ _=>rfl
 have S:=Lib.hid (BW w A1 n1 c1 A2 n2 c2 (strOf s))
 have c1':=(S.out.get 0 _ rfl).cell 1 _ rfl
 have HI:Hid (∀ W,Lo [] w [(w.heap.size,iS A1 n1 c1 A2 n2 c2),(w.heap.size+1,[.string (strOf s)])] W→Calls Tryz.prog 184 #[.slice A2 n2 c2,.func (.func 191) #[] #[.pointer (some ⟨w.heap.size+1,0,none⟩)]] W fun e w'=>e=.returned (.int .i64 (uX (Dm.spot E s)))∧Below W.heap.size W w'):=Lib.hid (fun W hl=>by
  have h1:=hr.below hl.bel
  exact wu (Dm.LW s) _ _ (fun args w=>by simp [go_sem]) A2 n2 c2 E W h1 hn (fun W2 e he hb=>Jz (hst e he) s _ W2 ((hl.get 1 _ rfl).step hb)))
 clear hr hst
 go_enter Tryz.func135,Tryz.ntmps135
 go_wp2_with (go_at_call 184;refine (HI.out _ S.out).mono ?_;rintro e w1 ⟨rfl,hb⟩;replace S:=Lib.hid (S.out.below hb);clear hb)
 go_ret
 exact ⟨rfl,S.out.bel⟩
def KN (n:Nat) (o:Option Nat):Int:=match o with
 | none=>(n:Int)
 | some i=>(i:Int)
theorem Fx (A1:Option Addr) (n1 c1:Nat) (A2:Option Addr) (n2 c2:Nat) (E:List Ent) (w:World) (hr:eA w A2 n2 E) (hn:n2≤5000) (hst:∀ e∈E,Nm.bL e.1 e.2=true):
  Calls Tryz.prog 138 #[Bh A1 n1 c1 A2 n2 c2] w fun e w'=>e=.returned (.int .i64 (KN n2 (Dm.room E)))∧Below w.heap.size w w':=by
 have S:=Lib.hid (BS w A1 n1 c1 A2 n2 c2)
 have c1':=(S.out.get 0 _ rfl).cell 1 _ rfl
 have HI:Hid (∀ W,Lo [] w [(w.heap.size,iS A1 n1 c1 A2 n2 c2)] W→Calls Tryz.prog 184 #[.slice A2 n2 c2,.func (.func 129) #[] #[]] W fun e w'=>e=.returned (.int .i64 (uX (Dm.room E)))∧Below W.heap.size W w'):=Lib.hid (fun W hl=>by
  have h1:=hr.below hl.bel
  exact wu (fun e=>!Dm.used e) _ _ (fun args w=>by simp [go_sem]) A2 n2 c2 E W h1 hn (fun W2 e he hb=>ly (hst e he) W2))
 clear hr hst
 cases hq:Dm.room E with
 |
  none=>
  rw [hq] at HI
  simp only [uX] at HI
  clear hq
  go_enter Tryz.func138,Tryz.ntmps138
  go_wp2_with (go_at_call 184;refine (HI.out _ S.out).mono ?_;rintro e w1 ⟨rfl,hb⟩;replace S:=Lib.hid (S.out.below hb);have c2':=(S.out.get 0 _ rfl).cell 1 _ rfl;clear hb)
  go_ret
  exact ⟨rfl,S.out.bel⟩
 |
  some i=>
  rw [hq] at HI
  simp only [uX] at HI
  clear hq
  have g0:(0:Int)≤(i:Int):=by omega
  go_enter Tryz.func138,Tryz.ntmps138
  go_wp2_with (go_at_call 184;refine (HI.out _ S.out).mono ?_;rintro e w1 ⟨rfl,hb⟩;replace S:=Lib.hid (S.out.below hb);clear hb)
  go_ret
  exact ⟨rfl,S.out.bel⟩
theorem AI (s:List UInt8) (i:Int) (w:World) (hm:(strOf s).size≤maxLen):Calls Tryz.prog 136 #[.string (strOf s),.int .i64 i] w fun e w'=>e=.returned (.int .i64 (kb s i))∧Below w.heap.size w w':=by
 have HC:Hid (∀ W,Calls Tryz.prog 113 #[.string (strOf s)] W fun e w'=>e=.returned (.int .i64 (Nm.chk s))∧Below W.heap.size W w'):=Lib.hid (fun W=>by have:=pA (strOf s) W hm;rw [eU] at this;exact this)
 have HR:Hid (∀ W,Calls Tryz.prog 192 #[.agg #[.int .i64 i,.string (strOf s)]] W fun e w'=>e=.returned (.bool (Nm.aA i s))∧Below W.heap.size W w'):=Lib.hid (fun W=>by have:=qy i (strOf s) W hm;rw [eU] at this;exact this)
 clear hm
 unfold kb
 by_cases c:Nm.chk s=0
 ·rw [c] at HC ⊢
  rw [if_neg (by decide)]
  cases r:Nm.aA i s with
  |
   true=>
   rw [r] at HR
   clear c r
   go_enter Tryz.func136,Tryz.ntmps136
   go_wp2_with (first
    | (go_at_call 113;refine (HC.out _).mono ?_;rintro e w1 ⟨rfl,hb⟩;have HB:=Lib.hid hb;clear hb)
    | (go_at_call 192;refine (HR.out _).mono ?_;rintro e w2 ⟨rfl,hb⟩;have HB2:=Lib.hid (HB.out.trans (hb.mono HB.out.size));clear hb))
   go_ret
   exact ⟨rfl,HB2.out⟩
  |
   false=>
   rw [r] at HR
   clear c r
   go_enter Tryz.func136,Tryz.ntmps136
   go_wp2_with (first
    | (go_at_call 113;refine (HC.out _).mono ?_;rintro e w1 ⟨rfl,hb⟩;have HB:=Lib.hid hb;clear hb)
    | (go_at_call 192;refine (HR.out _).mono ?_;rintro e w2 ⟨rfl,hb⟩;have HB2:=Lib.hid (HB.out.trans (hb.mono HB.out.size));clear hb))
   go_ret
   exact ⟨rfl,HB2.out⟩
 ·rw [if_pos c]
  have g0:(Nm.chk s != 0)=true:=by simpa using c
  clear c HR
  go_enter Tryz.func136,Tryz.ntmps136
  go_wp2_with (go_at_call 113;refine (HC.out _).mono ?_;rintro e w1 ⟨rfl,hb⟩;have HB:=Lib.hid hb;clear hb)
  go_ret
  exact ⟨rfl,HB.out⟩
end

section
open Go.RowKit Go.Maps
open Dm (Ent Has)
theorem um:∀ (D:List Ent) (i:Nat),(D.flatMap dr).take (i*2)=(D.take i).flatMap dr
 | [],i=>by simp
 | x::D,0=>by simp
 |
  x::D,i+1=>by
  rw [List.flatMap_cons,List.take_succ_cons,List.flatMap_cons,← um D i,List.take_append,bp,List.take_of_length_le (by rw [bp];omega),show (i+1)*2 - 2=i*2 by omega]
theorem uo:∀ (D:List Ent) (i:Nat),(D.flatMap dr).drop (i*2)=(D.drop i).flatMap dr
 | [],i=>by simp
 | x::D,0=>by simp
 |
  x::D,i+1=>by
  rw [List.flatMap_cons,List.drop_succ_cons,← uo D i,List.drop_append,bp,List.drop_of_length_le (by rw [bp];omega),show (i+1)*2 - 2=i*2 by omega]
  rfl
theorem Gy (D:List Ent) (i:Nat) (e:Ent) (h:i<D.length):(D.set i e).flatMap dr=(D.flatMap dr).take (i*2)++dr e++(D.flatMap dr).drop (i*2+(dr e).length):=by
 rw [um,bp,show i*2+2=(i+1)*2 by omega,uo,List.set_eq_take_append_cons_drop,if_pos h,List.flatMap_append,List.flatMap_cons,List.append_assoc]
theorem IQ {W:World} {g:Nat} {D:List Ent} (h:au W g (D.flatMap dr)) (i:Nat) (e:Ent) (hi:i<D.length):au (W.setCells g (i*2) (dr e)) g ((D.set i e).flatMap dr):=by
 rw [Gy D i e hi]
 exact au.part _ _ _ _ h (by rw [dj,bp];omega)
theorem KM {W:World} {g:Nat} {D:List Ent} (h:au W g (D.flatMap dr)) (hd:0<D.length):g<W.heap.size:=
 World.block_lt_of_cell? W _ (h.cell 0 _ (List.getElem?_eq_getElem (by rw [dj];omega)))
theorem BI {W:World} {g:Nat} {D:List Ent} (h:au W g (D.flatMap dr)) (i:Nat) (hi:i<D.length):W.there g (i*2) 2:=fun j hj=>by
 have:=h.free (i*2+j) (by rw [dj];omega)
 rw [Nat.zero_add] at this
 exact this
theorem IS {W:World} {g:Nat} {D:List Ent} (h:au W g (D.flatMap dr)) (i:Nat) (e:Ent) (hi:D[i]?=some e):W.rangeAt g (i*2) (dr e):=fun j v hv=>h.cell (i*2+j) v (nA D i e j v hi hv)
structure pU (E:List Ent) (g i j:Nat) (D:List Ent) (W:World):Prop where
 row:au W g (D.flatMap dr)
 len:D.length=E.length
 ij:i<j
 jn:j≤E.length
 fst:D.take i=Dm.live (E.take j)
 rest:∀ x,j≤x→D[x]?=E[x]?
section
variable {E D:List Ent} {g i j:Nat} {W W':World}
theorem oV {j:Nat} {e:Ent} (he:E[j]?=some e):Dm.live (E.take (j+1))=Dm.live (E.take j)++if Dm.used e=true then [e] else []:=by
 unfold Dm.live
 rw [List.take_add_one,he,List.filter_append]
 show _=_++_
 congr 1
 simp only [Option.toList,List.filter_cons,List.filter_nil]
theorem pU.start (hr:au W g (E.flatMap dr)) (h:E.findIdx? (fun e=>!Dm.used e)=some i):pU E g i (i+1) E W:=by
 obtain ⟨hi,h1,h2⟩:=List.findIdx?_eq_some_iff_getElem.1 h
 refine ⟨hr,rfl,Nat.lt_succ_self _,hi,?_,fun _ _=>rfl⟩
 rw [oV (List.getElem?_eq_getElem hi),if_neg (by simpa using h1),List.append_nil]
 unfold Dm.live
 symm
 rw [List.filter_eq_self]
 intro e he
 obtain ⟨k,hk,rfl⟩:=List.mem_iff_getElem.1 he
 rw [List.length_take] at hk
 rw [List.getElem_take]
 have:=h2 k (by omega)
 simpa using this
theorem pU.lt (h:pU E g i j D W):g<W.heap.size:=KM h.row (by have:=h.len;have:=h.ij;have:=h.jn;omega)
theorem pU.below (h:pU E g i j D W) (hb:Below W.heap.size W W'):pU E g i j D W':=⟨h.row.block (hb.block g h.lt),h.len,h.ij,h.jn,h.fst,h.rest⟩
theorem pU.at_ (h:pU E g i j D W) {e:Ent} (he:E[j]?=some e):W.rangeAt g (j*2) (dr e):=IS h.row j e (by rw [h.rest j (Nat.le_refl _)];exact he)
theorem pU.gL (h:pU E g i j D W) {e:Ent} (he:E[j]?=some e) (hu:Dm.used e=false):pU E g i (j+1) D W:=
 ⟨h.row,h.len,by have:=h.ij;omega,(List.getElem?_eq_some_iff.1 he).1,by rw [oV he,if_neg (by rw [hu];decide),List.append_nil];exact h.fst,fun x hx=>h.rest x (by omega)⟩
theorem pU.move (h:pU E g i j D W) {e:Ent} (he:E[j]?=some e) (hu:Dm.used e=true):pU E g (i+1) (j+1) (D.set i e) (W.setCells g (i*2) (dr e)):=by
 have hi:i<D.length:=by have:=h.len;have:=h.ij;have:=h.jn;omega
 refine ⟨IQ h.row i e hi,by rw [List.length_set];exact h.len,by have:=h.ij;omega,(List.getElem?_eq_some_iff.1 he).1,?_,fun x hx=>?_⟩
 ·rw [oV he,if_pos hu,← h.fst,List.take_set,List.take_succ_eq_append_getElem hi,List.set_append_right _ _ (by simp;omega)]
  have:i - (List.take i D).length=0:=by simp;omega
  rw [this]
  rfl
 ·rw [List.getElem?_set_ne (by have:=h.ij;omega)]
  exact h.rest x (by omega)
theorem pU.there (h:pU E g i j D W):W.there g (i*2) 2:=BI h.row i (by have:=h.len;have:=h.ij;have:=h.jn;omega)
end
theorem EI (w:World):(zeroValue 66).run Tryz.prog w=.ok (.agg #[.int .i64 0,.string ⟨#[]⟩]) w:=by kernel_rfl
theorem yw (n:Nat):(Builtin.zeroCells #[.int .i64 0,.string ⟨#[]⟩] n).toList=(List.replicate n ((0,[]):Ent)).flatMap dr:=by
 unfold Builtin.zeroCells
 rw [Array.toList_map,Array.toList_range]
 induction n with
 | zero=>rfl
 |
  succ n ih=>
  rw [show (n+1)*(#[Value.int .i64 0,.string ⟨#[]⟩]:Array Value).size=n*(#[Value.int .i64 0,.string ⟨#[]⟩]:Array Value).size+1+1 from by show (n+1)*2=n*2+1+1;omega,List.range_succ,List.range_succ,List.map_append,List.map_append,ih,List.replicate_succ',List.flatMap_append,List.append_assoc]
  congr 1
  simp only [List.map_cons,List.map_nil]
  have e1:n*(#[Value.int .i64 0,.string ⟨#[]⟩]:Array Value).size % (#[Value.int .i64 0,.string ⟨#[]⟩]:Array Value).size=0:=by show n*2 % 2=0;omega
  have e2:(n*(#[Value.int .i64 0,.string ⟨#[]⟩]:Array Value).size+1) % (#[Value.int .i64 0,.string ⟨#[]⟩]:Array Value).size=1:=by show (n*2+1) % 2=1;omega
  rw [e1,e2]
  rfl
theorem As {W:World} {g:Nat} {D:List Ent} (hr:au W g (D.flatMap dr)) (i n c:Nat) (hn:0<n) (hl:i+n≤D.length) (ty:TypeId):
  (Builtin.clear_ #[34] ty #[.slice (some ⟨g,i*2,none⟩) n c]).run Tryz.prog W=.ok (.tuple #[]) (W.setCells g (i*2) ((List.replicate n ((0,[]):Ent)).flatMap dr)):=by
 have hL:((List.replicate n ((0,[]):Ent)).flatMap dr).length=n*2:=by rw [dj,List.length_replicate]
 have hf:∀ j,j<n*2→W.frozen? ⟨g,i*2+j,none⟩=false∧(W.cell? ⟨g,i*2+j,none⟩).isSome=true:=fun j hj=>by
  have:=hr.free (i*2+j) (by rw [dj];omega)
  rw [Nat.zero_add] at this
  exact ⟨this.2,this.1⟩
 have hst:=run_storeCells_cells (P:=Tryz.prog) g (i*2) ((List.replicate n ((0,[]):Ent)).flatMap dr) 0 W (by rw [hL];intro j hj;rw [Nat.add_zero];exact (hf j hj).2) (by rw [hL];intro j hj;rw [Nat.add_zero];exact (hf j hj).1) (by intro v hv;obtain ⟨e,he,hve⟩:=List.mem_flatMap.1 hv;exact nC e v hve)
 simp only [Nat.add_zero] at hst
 obtain ⟨m,rfl⟩:∃ m,n=m+1:=⟨n - 1,by omega⟩
 have hz:(Value.agg #[.int .i64 0,.string ⟨#[]⟩]).cells=#[.int .i64 0,.string ⟨#[]⟩]:=rfl
 simp [Builtin.clear_,run_underlying Tryz.underlying34,EI,hz,yw,hst]
theorem rG {W:World} {g:Nat} {D:List Ent} {ρ:Operand→Value} {op:Oper} (hr:au W g (D.flatMap dr)) (i n c:Nat) (hn:0<n) (hl:i+n≤D.length) (v:Operand) (cl:Call) (ho:op.op=.call cl) (hc:cl.callee=.builtin .clear) (ha:cl.args=#[v]) (ht:cl.argTypes=#[34])
  (hv:ρ v=.slice (some ⟨g,i*2,none⟩) n c):(execOp ρ op).run Tryz.prog W=.ok (.value (.tuple #[])) (W.setCells g (i*2) ((List.replicate n ((0,[]):Ent)).flatMap dr)):=by
 have h:=fun ty=>As hr i n c hn hl ty
 unfold execOp
 simp [ho,resolve,hc,ha,ht,hv,Go.invoke,Go.builtin,h]
theorem lG {ops:Array Oper} {rest:List Oper} {op:Oper} {a:Act} {Q:Exit→Act→World→Prop} {W:World} {g:Nat} {D:List Ent} (hr:au W g (D.flatMap dr)) (i n c:Nat) (hn:0<n) (hl:i+n≤D.length) (hgd:op.guard=none) (v:Operand) (cl:Call) (ho:op.op=.call cl) (hc:cl.callee=.builtin .clear) (ha:cl.args=#[v]) (ht:cl.argTypes=#[34])
  (hv:a.eval v=.slice (some ⟨g,i*2,none⟩) n c) (h:wpList Tryz.prog ops Q rest (a.put op.dst (.tuple #[])) (W.setCells g (i*2) ((List.replicate n ((0,[]):Ent)).flatMap dr))):wpList Tryz.prog ops Q (op::rest) a W:=
 wpList_plain hgd fun _ hK=>by
  unfold Oper.wp
  rw [rG hr i n c hn hl v cl ho hc ha ht hv]
  exact hK _ _ h
theorem pU.done {E D:List Ent} {g i:Nat} {W:World} (h:pU E g i E.length D W) (us:List Value) (hu:us.length=(E.length - i)*2):eA (W.setCells g (i*2) us) (some ⟨g,0,none⟩) i (Dm.live E)∧(Dm.live E).length=i:=by
 have hf:=h.fst
 rw [List.take_length] at hf
 have hij:=h.ij
 have hlen:=h.len
 have hl:(Dm.live E).length=i:=by rw [← hf,List.length_take];omega
 have hr:=au.part us W _ (i*2) h.row (by rw [dj];omega)
 refine ⟨⟨hl,fun h0=>⟨g,0,rfl,by rw [bC];exact h.lt,fun k e hk j v hv=>?_⟩⟩,hl⟩
 have hki:k<i:=by rw [← hl];exact (List.getElem?_eq_some_iff.1 hk).1
 have hj:j<2:=(List.getElem?_eq_some_iff.1 hv).1
 have hD:D[k]?=some e:=by rw [← hf,List.getElem?_take_of_lt hki] at hk;exact hk
 rw [Nat.zero_add]
 refine hr.cell (k*2+j) v ?_
 have h1:=nA D k e j v hD hv
 have hlt:=(List.getElem?_eq_some_iff.1 h1).1
 rw [List.append_assoc,List.getElem?_append_left (by rw [List.length_take];omega),List.getElem?_take_of_lt (by omega)]
 exact h1
theorem mP {ops:Array Oper} {rest:List Oper} {op:Oper} {a:Act} {Q:Exit→Act→World→Prop} {w:World} {b o:Nat} {e:Ent} (hth:w.there b o 2) (hgd:op.guard=none) (x y:Operand) (ho:op.op=.store 66 x y)
  (hx:a.eval x=.pointer (some ⟨b,o,none⟩)) (hy:a.eval y=.agg (dr e).toArray) (hn:wpList Tryz.prog ops Q rest (a.put op.dst undef) (w.setCells b o (dr e))):wpList Tryz.prog ops Q (op::rest) a w:=
 wpList_store_mid hgd 66 x y ho b o (dr e).toArray hx hy (by rw [List.size_toArray,bp];exact hth) (by rw [pn.info,List.size_toArray,bp]) (all_oneCell_toArray (nC e)) (by simpa using hn)
theorem JR {w:World} {base:Nat} {A:Option Addr} {c:Nat} {E:List Ent} (h:w.ownsRow base 66 2 (.slice A E.length c) E.length (E.flatMap dr)) (hb:base≤w.heap.size) (hr:eA w A E.length E) (hE:E.length≤5000) (hst:∀ e∈E,Nm.bL e.1 e.2=true):
  Calls Tryz.prog 127 #[.slice A E.length c,.func (.func 129) #[] #[]] w fun e w'=>∃ A' c',e=.returned (.slice A' (Dm.live E).length c')∧eA w' A' (Dm.live E).length (Dm.live E)∧(∀ b off,A'=some ⟨b,off,none⟩→0<(Dm.live E).length→base≤b)∧Below base w w':=by
 have HI:Hid (Calls Tryz.prog 184 #[.slice A E.length c,.func (.func 129) #[] #[]] w fun e w'=>e=.returned (.int .i64 (uX (Dm.room E)))∧Below w.heap.size w w'):=Lib.hid (wu (fun e=>!Dm.used e) _ _ (fun args w=>by simp [go_sem]) A E.length c E w hr hE (fun W2 e he hb=>ly (hst e he) W2))
 cases hq:Dm.room E with
 |
  none=>
  have hl:Dm.live E=E:=by
   unfold Dm.live
   rw [List.filter_eq_self]
   intro e he
   have:=List.findIdx?_eq_none_iff.1 (show E.findIdx? (fun e=>!Dm.used e)=none from hq) e he
   simpa using this
  rw [hq] at HI
  simp only [uX] at HI
  rw [hl]
  have HR:=Lib.hid hr
  have HO:=Lib.hid (oE h)
  clear h hr hst hq hl
  go_enter Tryz.func127,Tryz.ntmps127
  go_wp2_with (go_at_call 184;refine HI.out.mono ?_;rintro e w1 ⟨rfl,hb1⟩;have HB:=Lib.hid hb1;clear hb1)
  go_ret
  refine ⟨A,c,rfl,HR.out.below HB.out,fun b off e h0=>?_,HB.out.mono hb⟩
  rcases HO.out with rfl | ⟨g,rfl,hg,_⟩
  ·exact absurd h0 (Nat.lt_irrefl _)
  ·injection e with e
   injection e with e
   omega
 |
  some i0=>
  have hE0:E≠[]:=fun q=>by rw [q] at hq;cases hq
  rcases oE h with q | ⟨g,rfl,hg,hrow⟩
  ·exact absurd q hE0
  have hcap:E.length≤c:=by
   rcases h.2 with ⟨_,e2⟩ | ⟨g',cap,cur,e,_,hg',hcap,_⟩
   ·exact absurd (List.eq_nil_of_length_eq_zero e2) hE0
   ·injection e with _ _ e
    omega
  rw [hq] at HI
  simp only [uX] at HI
  have HD0:=Lib.hid (fun W (hb1:Below w.heap.size w W)=>(pU.start hrow hq).below hb1)
  have HST:=Lib.hid hst
  have hi0:(0:Int)≤(i0:Int):=by omega
  have hi1:i0<E.length:=(List.findIdx?_eq_some_iff_getElem.1 hq).1
  clear h hr hst hq hE0 hrow
  obtain ⟨N,hN⟩:∃ N,E.length=N:=⟨_,rfl⟩
  rw [hN] at HI hcap hE hi1 ⊢
  have HN:=Lib.hid hN
  clear hN
  go_enter Tryz.func127,Tryz.ntmps127
  go_wp2_with (go_at_call 184;refine HI.out.mono ?_;rintro e w1 ⟨rfl,hb1⟩;have HD:=Lib.hid (HD0.out _ hb1);have HB:=Lib.hid (hb1.mono hb);clear hb1 HD0)
  go_loopw [5,6,7] (fun iv jv _ wr=>∃ (i j:Nat) (D:List Ent),iv=.int .i64 i∧jv=.int .i64 j∧i<j∧j≤N∧Hid (Below base w wr)∧Hid (pU E g i j D wr)) (fun _ jv _ _=>N - (intOf jv).toNat)
  case atStart=>exact ⟨i0,i0+1,E,rfl,by go_num,Nat.lt_succ_self _,hi1,HB,HD⟩
  case round=>
   clear HB HD
   obtain ⟨i,j,D,rfl,rfl,hij,hjn,HB,HD⟩:=hrel
   rename World=>wr
   by_cases hlt:j<N
   ·obtain ⟨e,he⟩:∃ e,E[j]?=some e:=⟨_,List.getElem?_eq_getElem (by rw [HN.out];exact hlt)⟩
    have HAT:=Lib.hid (HD.out.at_ he)
    have HE:=Lib.hid he
    have HC:Hid (∀ W,Calls Tryz.prog 129 #[.agg (dr e).toArray] W fun r w'=>r=.returned (.bool (!Dm.used e))∧Below W.heap.size W w'):=Lib.hid (fun W=>ly (HST.out e (List.mem_of_getElem? he)) W)
    clear he
    have hlz:(j:Int)<(N:Int):=by omega
    cases hu:Dm.used e with
    |
     true=>
     rw [hu] at HC
     have HU:=Lib.hid hu
     clear hu
     go_wp2_with (first
      | (with_reducible refine wpList_load_mid rfl 66 (.tmp 24) rfl g (j*2) rfl (dr e) _ HAT.out Tryz.underlying66 rfl (by kernel_rfl) ?_)
      | ((with_reducible refine ai pn (vs:=dr e) (bp _) (nC _) rfl (.tmp 7) (.tmp 25) rfl rfl ?_ ?_ ?_);(exact rfl);(exact rfl);intro W4 hP hB2 hz2;have R:=Lib.hid hP;have HD4:=Lib.hid (HD.out.below hB2);have HB4:=Lib.hid (HB.out.trans (hB2.mono (Nat.le_trans hb HB.out.size)));clear hP hB2 hz2)
      | (with_reducible refine af pn R.out (bp _) rfl (.tmp 7) rfl rfl ?_))
     refine (HC.out _).mono ?_
     rintro r w5 ⟨rfl,hb5⟩
     have R5:Hid (au w5 wr.heap.size (dr e)):=Lib.hid (R.out.step hb5)
     have HD5:=Lib.hid (HD4.out.below hb5)
     have HB5:=Lib.hid (HB4.out.trans (hb5.mono (Nat.le_trans hb HB4.out.size)))
     clear hb5 R HD4 HB4 HD HB HAT
     have HTH:=Lib.hid HD5.out.there
     go_wp2_with (first
      | (with_reducible refine af pn R5.out (bp _) rfl (.tmp 7) rfl rfl ?_)
      | ((with_reducible refine mP (e:=e) HTH.out rfl (.tmp 33) (.tmp 32) rfl rfl ?_ ?_);(exact rfl);have HD6:=Lib.hid (HD5.out.move HE.out HU.out);have HB6:=Lib.hid (below_setCells g hg (dr e) (i*2) _ HB5.out);generalize w5.setCells g (i*2) (dr e)=w6 at HD6 HB6 ⊢))
     go_roundw
     case rel=>
      refine ⟨_,_,_,_,_,_,_,_,_,_,_,_,_,_,_,_,_,_,_,_,_,_,_,?_,rfl⟩
      exact ⟨i+1,j+1,D.set i e,by go_num,by go_num,by omega,by omega,HB6,HD6⟩
     case measure=>simp [intOf];omega
    |
     false=>
     rw [hu] at HC
     have HU:=Lib.hid hu
     clear hu
     go_wp2_with (first
      | (with_reducible refine wpList_load_mid rfl 66 (.tmp 24) rfl g (j*2) rfl (dr e) _ HAT.out Tryz.underlying66 rfl (by kernel_rfl) ?_)
      | ((with_reducible refine ai pn (vs:=dr e) (bp _) (nC _) rfl (.tmp 7) (.tmp 25) rfl rfl ?_ ?_ ?_);(exact rfl);(exact rfl);intro W4 hP hB2 hz2;have R:=Lib.hid hP;have HD4:=Lib.hid (HD.out.below hB2);have HB4:=Lib.hid (HB.out.trans (hB2.mono (Nat.le_trans hb HB.out.size)));clear hP hB2 hz2)
      | (with_reducible refine af pn R.out (bp _) rfl (.tmp 7) rfl rfl ?_))
     refine (HC.out _).mono ?_
     rintro r w5 ⟨rfl,hb5⟩
     have HD5:=Lib.hid ((HD4.out.below hb5).gL HE.out HU.out)
     have HB5:=Lib.hid (HB4.out.trans (hb5.mono (Nat.le_trans hb HB4.out.size)))
     clear hb5 R HD4 HB4 HD HB HAT
     go_wp2_with fail
     go_roundw
     case rel=>
      refine ⟨_,_,_,_,_,_,_,_,_,_,_,_,_,_,_,_,_,_,_,_,_,_,_,?_,rfl⟩
      exact ⟨i,j+1,D,by go_num,by go_num,by omega,by omega,HB5,HD5⟩
     case measure=>simp [intOf];omega
   ·obtain rfl:j=N:=by omega
    have hlz:¬ (j:Int)<(j:Int):=by omega
    have hn:0<j - i:=by omega
    have hl:i+(j - i)≤D.length:=by have:=HD.out.len;have:=HN.out;omega
    have HRW:=Lib.hid HD.out.row
    have hic:i≤c:=by omega
    go_wp2_with ((with_reducible refine lG HRW.out i (j - i) (c - i) hn hl rfl (.tmp 38) _ rfl rfl rfl rfl ?_ ?_);(exact rfl))
    have hD:=HD.out
    rw [← HN.out] at hD
    obtain ⟨r1,r2⟩:=hD.done ((List.replicate (j - i) ((0,[]):Ent)).flatMap dr) (by rw [dj,List.length_replicate,HN.out])
    have hB:=below_setCells g hg ((List.replicate (j - i) ((0,[]):Ent)).flatMap dr) (i*2) _ HB.out
    go_ret
    rw [r2]
    exact ⟨_,⟨_,rfl⟩,r1,fun b off e h0=>by injection e with e;injection e with e _;omega,hB⟩
end

section
open Go.RowKit Go.Maps
open Dk (av aa)
open Ii (Ino)
open Dm (Ent Has)
theorem zt:∃ i z,Tryz.prog.info? 87=some i∧i.zero=some z∧i.size=64∧i.bytes=64∧z.cells.size=64:=by
 have h1:=aY
 have h2:(Tryz.prog.info? 87).map (·.bytes)=some 64:=by kernel_rfl
 have h3:((Tryz.prog.info? 87).bind (·.zero)).map (·.cells.size)=some 64:=by kernel_rfl
 cases h:Tryz.prog.info? 87 with
 | none=>rw [h] at h1;cases h1
 |
  some i=>
  rw [h] at h1 h2 h3
  cases hz:i.zero with
  | none=>simp [hz] at h3
  |
   some z=>
   simp [hz] at h1 h2 h3
   exact ⟨i,z,rfl,hz,h1,h2,h3⟩
theorem pM (w:World) (p:List UInt8) (hp:p.length=64):(Instr.buildSlice 81 1 #[(0,an p)]).run Tryz.prog w=.ok (.slice (some ⟨w.heap.size,0,none⟩) 1 1) (w.alloc (.cells (ab p).toArray 87)):=by
 obtain ⟨i,z,hi,hz,hs,_,_⟩:=zt
 refine run_buildSlice w 81 87 1 #[(0,an p)] _ i z Tryz.underlying81 hi hz (by rw [hs];omega) (by rw [hs];omega) ?_
 rw [hs]
 have h:=Great.fill_whole (s:=64) (by omega) [an p] ((Array.range (1*64)).map (z.cells[· % z.cells.size]!)) (fun v hv=>by
  rw [List.mem_singleton] at hv
  rw [hv]
  show (ab p).toArray.size=64
  rw [List.size_toArray,aj,hp]) (by simp)
 refine h.trans ?_
 congr 1
 show ([an p].flatMap fun v=>v.cells.toList).toArray=_
 simp [an,Value.cells]
theorem jA {o:Oper} {a:Act} {w:World} {p:List UInt8} {R:Value→World→Prop} {Bp:List PanicEntry→World→Prop} (hp:p.length=64) (x:Operand) (ho:o.op=.buildSlice 81 1 #[(0,x)]) (hx:a.eval x=an p)
  (h:R (.slice (some ⟨w.heap.size,0,none⟩) 1 1) (w.alloc (.cells (ab p).toArray 87))):eK Tryz.prog (execOp a.eval o) w R Bp:=by
 have hr:=pM w p hp
 unfold eK execOp
 simp only [ho,List.map_toArray,List.map_cons,List.map_nil,hx,Sem.run_bind,hr,Result.andThen_ok,Sem.run_pure]
 exact h
theorem FN (w:World) (p:List UInt8) (hp:p.length=64):ei (w.alloc (.cells (ab p).toArray 87)) (some ⟨w.heap.size,0,none⟩) 1 [p] where
 len:=rfl
 small:=by unfold maxLen;omega
 size:=fun i hi=>by
  obtain rfl:i=0:=by omega
  exact hp
 cells:=fun _=>⟨w.heap.size,0,rfl,by simp,fun i hi=>by
  obtain rfl:i=0:=by omega
  exact (((Lo.start (L:=[]) w (by simp)).alloc _ rfl (ab p) 87).get 0 _ rfl).range⟩
theorem ei.step {w w':World} {A:Option Addr} {n:Nat} {ps:List (List UInt8)} (h:ei w A n ps) (hb:Below w.heap.size w w'):ei w' A n ps:=
 ⟨h.len,h.small,h.size,fun h0=>by
  obtain ⟨b,off,e,hlt,hc⟩:=h.cells h0
  exact ⟨b,off,e,Nat.lt_of_lt_of_le hlt hb.size,fun i hi=>cu (hc i hi) (hb.block b hlt)⟩⟩
def PtS (R:Ending→World→Prop) (B:Nat) (b:Blk) (n I:Int) (w0:World) (K:Unit→Ending→World→Prop) (l:List (Nat × List Value)) (s:Sto) (m:Fs.M Unit) (q:List UInt8):Option (Option Nat)→World→Prop
 | none,W=>∃ s',Stp R B b n I [] w0 K l s' (Fs.ret ()) W
 | some none,W=>Stp R B b n I [] w0 K l s m W
 | some (some X),W=>Stp R B b n I [] w0 K l s m W∧ei W (some ⟨X,0,none⟩) 1 [q]
section
variable {R:Ending→World→Prop} {B:Nat} {b:Blk} {n I:Int} {w0:World} {K:Unit→Ending→World→Prop} {l:List (Nat × List Value)} {s:Sto} {m:Fs.M Unit} {q:List UInt8} {W W':World}
theorem PtS.lo:∀ {k:Option (Option Nat)},PtS R B b n I w0 K l s m q k W→Lo [b.t] w0 l W
 | none,⟨_,h⟩=>Stp.lo h
 | some none,h=>Stp.lo h
 | some (some _),⟨h,_⟩=>Stp.lo h
theorem PtS.below (hb:Below W.heap.size W W'):∀ {k:Option (Option Nat)},PtS R B b n I w0 K l s m q k W→PtS R B b n I w0 K l s m q k W'
 | none,⟨s',h⟩=>⟨s',Stp.below h hb⟩
 | some none,h=>Stp.below h hb
 | some (some _),⟨h,h2⟩=>⟨Stp.below h hb,h2.step hb⟩
theorem PtS.made (hq:q.length=64) (h:PtS R B b n I w0 K l s m q (some none) W):PtS R B b n I w0 K l s m q (some (some W.heap.size)) (W.alloc (.cells (ab q).toArray 87)):=
 ⟨Stp.below h (bK _ _),FN W q hq⟩
theorem PtS.start (h:PtS R B b n I w0 K l s m q (some none) W):Stp R B b n I [] w0 K l s m W:=h
theorem PtS.row {X:Nat} (h:PtS R B b n I w0 K l s m q (some (some X)) W):Stp R B b n I [] w0 K l s m W∧ei W (some ⟨X,0,none⟩) 1 [q]:=h
theorem PtS.done (h:PtS R B b n I w0 K l s m q none W):∃ s',Stp R B b n I [] w0 K l s' (Fs.ret ()) W:=h
end
theorem tX {X o:Nat} {e:Ent} (w:World) (h:w.rangeAt X o (dr e)):(loadVar 66 ⟨X,o,none⟩).run Tryz.prog w=.ok (.agg (dr e).toArray) w:=
 run_loadVar_mid (P:=Tryz.prog) w X o 66 (dr e) _ h Tryz.underlying66 rfl (by kernel_rfl)
theorem xz {d:Int} {R:Ending→World→Prop} {B:Nat} {b:Blk} {n I:Int} {w0 w:World} {K:Unit→Ending→World→Prop} {s:Sto} {m:Fs.M Unit} (S:Stp R B b n I [] w0 K [] s m w) (A1:Option Addr) (n1 c1:Nat) (A2:Option Addr) (n2 c2:Nat) (e:Ent) (o:Obj):
  Stp R B b n I [] w0 K [(w.heap.size,ea B d),(w.heap.size+1,iS A1 n1 c1 A2 n2 c2),(w.heap.size+2,dr e),(w.heap.size+3,ab av)] s m ((((w.alloc (.cells #[.pointer (some ⟨B,0,none⟩),.int .i64 d] 99)).alloc (.cells #[.slice A1 n1 c1,.slice A2 n2 c2] 169)).alloc (.cells #[.int .i64 e.1,.string (strOf e.2)] 66)).alloc (.cells zeroCells 87)):=
 (((S.alloc w.heap.size rfl (ea B d) _).alloc (w.heap.size+1) (by simp) (iS A1 n1 c1 A2 n2 c2) _).alloc (w.heap.size+2) (by simp) (dr e) _).alloc (w.heap.size+3) (by simp) (ab av) _
theorem xn {p:List UInt8} (hp:p.length=64) (r:Nat) (hr:r<4) {e:Ent} (hs:Nm.bL e.1 e.2=true) (W:World):Calls Tryz.prog 194 #[an p,.int .i64 (r:Int),.agg (dr e).toArray] W fun x w'=>x=.returned (an (Nm.lay p r (rf e)))∧Below W.heap.size W w':=by
 have h:=FO p (r:Int) e.1 (strOf e.2) W hp (by rw [dO];have:=(Nm.ik hs).2.2;unfold maxLen;omega)
 rw [eU] at h
 have e1:Kq p (r:Int) e.1 e.2=Nm.lay p r (rf e):=by
  unfold Kq
  rw [if_pos ⟨decide_eq_true ⟨by omega,by omega⟩,hs⟩,Int.toNat_natCast]
  rfl
 rw [e1] at h
 exact h
theorem join_one {W:World} {A:Option Addr} {q:List UInt8} (h:ei W A 1 [q]) (c:Nat):Calls Tryz.prog 193 #[.slice A 1 c] W fun x w'=>x=.returned (.string (strOf q))∧Below W.heap.size W w':=by
 have:=BU A 1 c [q] W h (by decide)
 rw [show [q].flatten=q by simp] at this
 exact this
theorem GL {d:Int} {w:World} {B:Nat} {b:Blk} {s:Sto} {n I:Int} (h:Ctx w B b s n I) (A1:Option Addr) (n1 c1:Nat) (A2:Option Addr) (n2 c2:Nat) (ps:List (List UInt8)) (hin:dM w A1 n1 ps) (i j r:Nat) (hi:i=4*j+r) (hr:r<4) (hj:j<n1) (hn:n1≤1100) (p:List UInt8) (hp:ps[j]?=some p) (e:Ent) (hs:Nm.bL e.1 e.2=true):
  Calls Tryz.prog 137 #[lA B d,Bh A1 n1 c1 A2 n2 c2,.int .i64 (i:Int),.agg (dr e).toArray] w (Ends B b n I [] w s (Fs.iN n I d ((j:Int)*64) (Nm.lay p r (rf e))) fun _ e _=>e=.returned (.tuple #[])):=by
 refine aQ fun R H=>?_
 have S0:=Lib.hid (Stp.start h (by simp) H)
 have S1:=Lib.hid (xz (d:=d) S0.out A1 n1 c1 A2 n2 c2 e (.cells zeroCells 87))
 have hq1:Int.tdiv (i:Int) 4=(j:Int):=by rw [Int.tdiv_eq_ediv_of_nonneg (by omega)];omega
 have hq2:Int.tmod (i:Int) 4=(r:Int):=by rw [Int.tmod_eq_emod_of_nonneg (by omega)];omega
 change Calls Tryz.prog _ #[lA B d,Bh A1 n1 c1 A2 n2 c2,.int .i64 (i:Int),.agg #[.int .i64 e.1,.string (strOf e.2)]] w _
 have hpl:p.length=64:=hin.size p (List.mem_of_getElem? hp)
 have HSP:=Lib.hid (fun W=>xn hpl r hr hs W)
 have HQL:Hid ((Nm.lay p r (rf e)).length=64):=Lib.hid (Nm.qF hpl hr (Nm.km _ (Nm.ik hs).2.2))
 have HPL:=Lib.hid hpl
 have HBL:Hid ((ab p).length=64):=Lib.hid (by rw [aj];exact HPL.out)
 obtain ⟨pb,poff,rfl,hpb,hpr⟩:=hin.rows.cells (by rw [List.length_map,hin.len];omega)
 have HPG:Hid (∀ o,((((w.alloc (.cells #[.pointer (some ⟨B,0,none⟩),.int .i64 d] 99)).alloc (.cells #[.slice (some ⟨pb,poff,none⟩) n1 c1,.slice A2 n2 c2] 169)).alloc (.cells #[.int .i64 e.1,.string (strOf e.2)] 66)).alloc o).rangeAt pb (poff+j*64) (ab p)):=Lib.hid (fun o=>cu (hpr j (ab p) (by rw [List.getElem?_map,hp];rfl)) (by
  have h1:Below w.heap.size w (w.alloc (.cells #[.pointer (some ⟨B,0,none⟩),.int .i64 d] 99)):=bK _ _
  exact (((h1.alloc h1.size _).alloc (Nat.le_trans h1.size (bK _ _).size) _).alloc (Nat.le_trans h1.size (Nat.le_trans (bK _ _).size (bK _ _).size)) _).block pb hpb))
 have hj0:(0:Int)≤(j:Int):=by omega
 have hj1:(j:Int)<(n1:Int):=by omega
 have hj9:j<1100:=by omega
 have hi9:i<4400:=by omega
 generalize hq:Nm.lay p r (rf e)=q at S0 S1 HSP HQL
 clear H h hj hi hr hin hp hn hpb hpr hpl hs hq
 generalize hA:(some ⟨pb,poff,none⟩:Option Addr)=A1 at *
 go_enter Tryz.func137,Tryz.ntmps137
 subst hA
 go_wp2_with (first
  | ((with_reducible refine jm KT (HPG.out _) HBL.out rfl (.tmp 20) rfl ?_ ?_);(exact rfl);rw [← az];generalize hw:World.alloc _ _=w1;have S2:Hid (Stp R B b n I [] w (fun _ e _=>e=.returned (.tuple #[])) [(w.heap.size,ea B d),(w.heap.size+1,iS (some ⟨pb,poff,none⟩) n1 c1 A2 n2 c2),(w.heap.size+2,dr e),(w.heap.size+3,ab av)] s (Fs.iN n I d ((j:Int)*64) q) w1):=Lib.hid (by rw [← hw];exact S1.out);clear hw S0 S1 HPG)
  | ((with_reducible refine ax (S2.out.lo.aK 3 rfl aa) HPL.out rfl (.tmp 9) (.tmp 21) rfl rfl ?_ ?_);(exact rfl)))
 have S3:=Lib.hid (S2.out.put 3 _ rfl (ab p) (by rw [HBL.out];exact (aj av).symm ▸ aa.symm))
 generalize World.setCells _ _ _ _=w2 at S3 ⊢
 generalize hA:(some ⟨pb,poff,none⟩:Option Addr)=A1 at *
 have S:Hid (Stp R B b n I [] w (fun _ e _=>e=.returned (.tuple #[])) [(w.heap.size,ea B d),(w.heap.size+1,iS A1 n1 c1 A2 n2 c2),(w.heap.size+2,dr e),(w.heap.size+3,ab p)] s (Fs.iN n I d ((j:Int)*64) q) w2):=Lib.hid S3.out
 clear S2 S3
 refine aO (PtS R B b n I w (fun _ e _=>e=.returned (.tuple #[])) [(w.heap.size,ea B d),(w.heap.size+1,iS A1 n1 c1 A2 n2 c2),(w.heap.size+2,dr e),(w.heap.size+3,ab p)] s (Fs.iN n I d ((j:Int)*64) q) q) (fun ch W=>ch=[bn B]∧R (.panicked [bn B]) W) (fun ix=>ix == 11 || ix == 12 || ix == 13) (fun ix=>[.pointer (some ⟨w.heap.size,0,none⟩),.pointer (some ⟨B,0,none⟩),.pointer (some ⟨w.heap.size,1,none⟩),.int .i64 d,.int .i64 (j:Int),.int .i64 ((j:Int)*64),an p,.int .i64 (i:Int),.int .i64 (r:Int),.agg (dr e).toArray,an q].getD ix undef) (some none) (by kernel_rfl) (by kernel_rfl) (fun ch a' W hd hh=>?_) (S.out.drew) ?_
 ·exact ⟨hd,by obtain ⟨rfl,hR⟩:=hh;exact hR⟩
 refine ag (i:=0) (d:=some 22) (v:=(.pointer (some ⟨w.heap.size,0,none⟩))) rfl rfl (by kernel_rfl) (by kernel_rfl) rfl rfl (ae (by kernel_rfl) ?_) ?_
 ·((intro _ _ _;go_simp) <;> kernel_rfl)
 try simp only [Act.put,puA,puB,puC]
 refine ag (i:=1) (d:=some 23) (v:=(.pointer (some ⟨B,0,none⟩))) rfl rfl (by kernel_rfl) (by kernel_rfl) rfl rfl (ae (by kernel_rfl) ?_) ?_
 ·(intro sZ wZ hZ;have cZ:=(fun k W hS=>((PtS.lo hS).get 0 _ rfl).cell 0 _ rfl) sZ wZ hZ;go_simp)
 try simp only [Act.put,puA,puB,puC]
 refine ag (i:=2) (d:=some 24) (v:=(.pointer (some ⟨w.heap.size,1,none⟩))) rfl rfl (by kernel_rfl) (by kernel_rfl) rfl rfl (ae (by kernel_rfl) ?_) ?_
 ·((intro _ _ _;go_simp) <;> kernel_rfl)
 try simp only [Act.put,puA,puB,puC]
 refine ag (i:=3) (d:=some 25) (v:=(.int .i64 d)) rfl rfl (by kernel_rfl) (by kernel_rfl) rfl rfl (ae (by kernel_rfl) ?_) ?_
 ·(intro sZ wZ hZ;have cZ:=(fun k W hS=>((PtS.lo hS).get 0 _ rfl).cell 1 _ rfl) sZ wZ hZ;go_simp)
 try simp only [Act.put,puA,puB,puC]
 refine ag (i:=4) (d:=some 26) (v:=(.int .i64 (j:Int))) rfl rfl (by kernel_rfl) (by kernel_rfl) rfl rfl (ae (by kernel_rfl) ?_) ?_
 ·((intro _ _ _;go_simp) <;> kernel_rfl)
 try simp only [Act.put,puA,puB,puC]
 refine ag (i:=5) (d:=some 27) (v:=.int .i64 ((j:Int)*64)) rfl rfl (by kernel_rfl) (by kernel_rfl) rfl rfl (ae (by kernel_rfl) ?_) ?_
 ·intro _ _ _
  go_simp
  try exact IntWalk.i64_in _ (by omega)
 try simp only [Act.put,puA,puB,puC]
 refine ag (i:=6) (d:=some 28) (v:=(an p)) rfl rfl (by kernel_rfl) (by kernel_rfl) rfl rfl (bf (by kernel_rfl) (.tmp 9) rfl rfl (fun k W hS=>(PtS.lo hS).aK 3 rfl HPL.out)) ?_
 try simp only [Act.put,puA,puB,puC]
 refine ag (i:=7) (d:=some 29) (v:=(.int .i64 (i:Int))) rfl rfl (by kernel_rfl) (by kernel_rfl) rfl rfl (ae (by kernel_rfl) ?_) ?_
 ·((intro _ _ _;go_simp) <;> kernel_rfl)
 try simp only [Act.put,puA,puB,puC]
 refine ag (i:=8) (d:=some 30) (v:=.int .i64 (r:Int)) rfl rfl (by kernel_rfl) (by kernel_rfl) rfl rfl (ae (by kernel_rfl) ?_) ?_
 ·intro _ _ _
  go_simp
  try exact IntWalk.i64_in _ (by omega)
 try simp only [Act.put,puA,puB,puC]
 refine ag (i:=9) (d:=some 31) (v:=(.agg (dr e).toArray)) rfl rfl (by kernel_rfl) (by kernel_rfl) rfl rfl (bM tX (by kernel_rfl) (.tmp 7) rfl rfl (fun k W hS=>((PtS.lo hS).get 2 _ rfl).range)) ?_
 try simp only [Act.put,puA,puB,puC]
 refine ag (i:=10) (d:=some 32) (v:=(an q)) rfl rfl (by kernel_rfl) (by kernel_rfl) rfl rfl (aR (f:=194) (args:=#[an p,.int .i64 (r:Int),.agg (dr e).toArray]) (by kernel_rfl) ?_ (fun k W hS=>(HSP.out W).mono fun e w' hh=>⟨hh.1,PtS.below hh.2 hS⟩)) ?_
 ·(intro _;go_simp)
 try simp only [Act.put,puA,puB,puC]
 refine cO (i:=11) (d:=some 33) [12,13] (fun u k=>∃ X,u=.slice (some ⟨X,0,none⟩) 1 1∧k=some (some X)) rfl rfl (by kernel_rfl) (by kernel_rfl) rfl (by kernel_rfl) ⟨_,_,0,rfl,rfl⟩ (by kernel_rfl) (fun W hS=>jA HQL.out (.tmp 32) rfl rfl ⟨_,⟨_,rfl,rfl⟩,PtS.made HQL.out hS⟩) ?_
 rintro _ _ ⟨X,rfl,rfl⟩
 try simp only [Act.put,puA,puB,puC]
 refine bw (i:=12) (d:=some 34) (fun u k=>u=.string (strOf q)∧k=some none) rfl rfl (by kernel_rfl) (by kernel_rfl) rfl (by kernel_rfl) ⟨_,_,rfl,rfl⟩ (by kernel_rfl) (bm (f:=193) (args:=#[.slice (some ⟨X,0,none⟩) 1 1]) ?_ (fun W hS=>(join_one (PtS.row hS).2 1).mono fun e w' hh=>Or.inl ⟨_,hh.1,some none,⟨rfl,rfl⟩,Stp.below (PtS.row hS).1 hh.2⟩)) ?_
 ·(intro _;go_simp)
 rintro _ _ ⟨rfl,rfl⟩
 try simp only [Act.put,puA,puB,puC]
 refine bw (i:=13) (d:=some 35) (fun u k=>u=.tuple #[]∧k=none) rfl rfl (by kernel_rfl) (by kernel_rfl) rfl (by kernel_rfl) ⟨_,_,rfl,rfl⟩ (by kernel_rfl) (bm (f:=59) (args:=#[.pointer (some ⟨B,0,none⟩),.int .i64 d,.int .i64 ((j:Int)*64),.string (strOf q)]) ?_ (fun W hS=>by
  refine (nQ (PtS.start hS).ctx d ((j:Int)*64) q (by rw [HQL.out];decide)).mono fun e w' hE=>?_
  rcases (PtS.start hS).last hE with ⟨rfl,hR⟩ | ⟨_,s8,L8,_,rfl,S2⟩
  ·exact Or.inr ⟨_,rfl,rfl,hR⟩
  ·exact Or.inl ⟨_,rfl,none,⟨rfl,rfl⟩,⟨s8,S2⟩⟩)) ?_
 ·(intro _;go_simp)
 rintro _ _ ⟨rfl,rfl⟩
 try simp only [Act.put,puA,puB,puC]
 refine cH (by kernel_rfl) fun W hS=>?_
 obtain ⟨s9,S9⟩:=PtS.done hS
 go_wp2_with fail
 go_end0
 exact S9.done rfl
theorem GM {d:Int} {w:World} {B:Nat} {b:Blk} {s:Sto} {n I:Int} (h:Ctx w B b s n I) (A1:Option Addr) (n1 c1:Nat) (A2:Option Addr) (n2 c2:Nat) (i j r:Nat) (hi:i=4*j+r) (hr:r<4) (hj:n1≤j) (hn:j≤1100) (e:Ent) (hs:Nm.bL e.1 e.2=true):
  Calls Tryz.prog 137 #[lA B d,Bh A1 n1 c1 A2 n2 c2,.int .i64 (i:Int),.agg (dr e).toArray] w (Ends B b n I [] w s (Fs.iN n I d ((j:Int)*64) (Nm.lay av r (rf e))) fun _ e _=>e=.returned (.tuple #[])):=by
 refine aQ fun R H=>?_
 have S0:=Lib.hid (Stp.start h (by simp) H)
 have S1:=Lib.hid (xz (d:=d) S0.out A1 n1 c1 A2 n2 c2 e (.cells zeroCells 87))
 have hq1:Int.tdiv (i:Int) 4=(j:Int):=by rw [Int.tdiv_eq_ediv_of_nonneg (by omega)];omega
 have hq2:Int.tmod (i:Int) 4=(r:Int):=by rw [Int.tmod_eq_emod_of_nonneg (by omega)];omega
 change Calls Tryz.prog _ #[lA B d,Bh A1 n1 c1 A2 n2 c2,.int .i64 (i:Int),.agg #[.int .i64 e.1,.string (strOf e.2)]] w _
 have hpl:av.length=64:=aa
 have HSP:=Lib.hid (fun W=>xn hpl r hr hs W)
 have HQL:Hid ((Nm.lay av r (rf e)).length=64):=Lib.hid (Nm.qF hpl hr (Nm.km _ (Nm.ik hs).2.2))
 have HPL:=Lib.hid hpl
 have hj1:¬ (j:Int)<(n1:Int):=by omega
 have hj9:j≤1100:=by omega
 have hi9:i<4410:=by omega
 generalize hq:Nm.lay av r (rf e)=q at S0 S1 HSP HQL
 clear H h hj hi hr hn hpl hs hq
 go_enter Tryz.func137,Tryz.ntmps137
 go_wp2_with fail
 rw [← az]
 generalize hw:World.alloc _ _=w2
 have S3:Hid (Stp R B b n I [] w (fun _ e _=>e=.returned (.tuple #[])) [(w.heap.size,ea B d),(w.heap.size+1,iS A1 n1 c1 A2 n2 c2),(w.heap.size+2,dr e),(w.heap.size+3,ab av)] s (Fs.iN n I d ((j:Int)*64) q) w2):=Lib.hid (by rw [← hw];exact S1.out)
 clear hw S0 S1
 generalize av=p at S3 HPL HSP
 have S:=Lib.hid S3.out
 clear S3
 refine aO (PtS R B b n I w (fun _ e _=>e=.returned (.tuple #[])) [(w.heap.size,ea B d),(w.heap.size+1,iS A1 n1 c1 A2 n2 c2),(w.heap.size+2,dr e),(w.heap.size+3,ab p)] s (Fs.iN n I d ((j:Int)*64) q) q) (fun ch W=>ch=[bn B]∧R (.panicked [bn B]) W) (fun ix=>ix == 11 || ix == 12 || ix == 13) (fun ix=>[.pointer (some ⟨w.heap.size,0,none⟩),.pointer (some ⟨B,0,none⟩),.pointer (some ⟨w.heap.size,1,none⟩),.int .i64 d,.int .i64 (j:Int),.int .i64 ((j:Int)*64),an p,.int .i64 (i:Int),.int .i64 (r:Int),.agg (dr e).toArray,an q].getD ix undef) (some none) (by kernel_rfl) (by kernel_rfl) (fun ch a' W hd hh=>?_) (S.out.drew) ?_
 ·exact ⟨hd,by obtain ⟨rfl,hR⟩:=hh;exact hR⟩
 refine ag (i:=0) (d:=some 22) (v:=(.pointer (some ⟨w.heap.size,0,none⟩))) rfl rfl (by kernel_rfl) (by kernel_rfl) rfl rfl (ae (by kernel_rfl) ?_) ?_
 ·((intro _ _ _;go_simp) <;> kernel_rfl)
 try simp only [Act.put,puA,puB,puC]
 refine ag (i:=1) (d:=some 23) (v:=(.pointer (some ⟨B,0,none⟩))) rfl rfl (by kernel_rfl) (by kernel_rfl) rfl rfl (ae (by kernel_rfl) ?_) ?_
 ·(intro sZ wZ hZ;have cZ:=(fun k W hS=>((PtS.lo hS).get 0 _ rfl).cell 0 _ rfl) sZ wZ hZ;go_simp)
 try simp only [Act.put,puA,puB,puC]
 refine ag (i:=2) (d:=some 24) (v:=(.pointer (some ⟨w.heap.size,1,none⟩))) rfl rfl (by kernel_rfl) (by kernel_rfl) rfl rfl (ae (by kernel_rfl) ?_) ?_
 ·((intro _ _ _;go_simp) <;> kernel_rfl)
 try simp only [Act.put,puA,puB,puC]
 refine ag (i:=3) (d:=some 25) (v:=(.int .i64 d)) rfl rfl (by kernel_rfl) (by kernel_rfl) rfl rfl (ae (by kernel_rfl) ?_) ?_
 ·(intro sZ wZ hZ;have cZ:=(fun k W hS=>((PtS.lo hS).get 0 _ rfl).cell 1 _ rfl) sZ wZ hZ;go_simp)
 try simp only [Act.put,puA,puB,puC]
 refine ag (i:=4) (d:=some 26) (v:=(.int .i64 (j:Int))) rfl rfl (by kernel_rfl) (by kernel_rfl) rfl rfl (ae (by kernel_rfl) ?_) ?_
 ·((intro _ _ _;go_simp) <;> kernel_rfl)
 try simp only [Act.put,puA,puB,puC]
 refine ag (i:=5) (d:=some 27) (v:=.int .i64 ((j:Int)*64)) rfl rfl (by kernel_rfl) (by kernel_rfl) rfl rfl (ae (by kernel_rfl) ?_) ?_
 ·intro _ _ _
  go_simp
  try exact IntWalk.i64_in _ (by omega)
 try simp only [Act.put,puA,puB,puC]
 refine ag (i:=6) (d:=some 28) (v:=(an p)) rfl rfl (by kernel_rfl) (by kernel_rfl) rfl rfl (bf (by kernel_rfl) (.tmp 9) rfl rfl (fun k W hS=>(PtS.lo hS).aK 3 rfl HPL.out)) ?_
 try simp only [Act.put,puA,puB,puC]
 refine ag (i:=7) (d:=some 29) (v:=(.int .i64 (i:Int))) rfl rfl (by kernel_rfl) (by kernel_rfl) rfl rfl (ae (by kernel_rfl) ?_) ?_
 ·((intro _ _ _;go_simp) <;> kernel_rfl)
 try simp only [Act.put,puA,puB,puC]
 refine ag (i:=8) (d:=some 30) (v:=.int .i64 (r:Int)) rfl rfl (by kernel_rfl) (by kernel_rfl) rfl rfl (ae (by kernel_rfl) ?_) ?_
 ·intro _ _ _
  go_simp
  try exact IntWalk.i64_in _ (by omega)
 try simp only [Act.put,puA,puB,puC]
 refine ag (i:=9) (d:=some 31) (v:=(.agg (dr e).toArray)) rfl rfl (by kernel_rfl) (by kernel_rfl) rfl rfl (bM tX (by kernel_rfl) (.tmp 7) rfl rfl (fun k W hS=>((PtS.lo hS).get 2 _ rfl).range)) ?_
 try simp only [Act.put,puA,puB,puC]
 refine ag (i:=10) (d:=some 32) (v:=(an q)) rfl rfl (by kernel_rfl) (by kernel_rfl) rfl rfl (aR (f:=194) (args:=#[an p,.int .i64 (r:Int),.agg (dr e).toArray]) (by kernel_rfl) ?_ (fun k W hS=>(HSP.out W).mono fun e w' hh=>⟨hh.1,PtS.below hh.2 hS⟩)) ?_
 ·(intro _;go_simp)
 try simp only [Act.put,puA,puB,puC]
 refine cO (i:=11) (d:=some 33) [12,13] (fun u k=>∃ X,u=.slice (some ⟨X,0,none⟩) 1 1∧k=some (some X)) rfl rfl (by kernel_rfl) (by kernel_rfl) rfl (by kernel_rfl) ⟨_,_,0,rfl,rfl⟩ (by kernel_rfl) (fun W hS=>jA HQL.out (.tmp 32) rfl rfl ⟨_,⟨_,rfl,rfl⟩,PtS.made HQL.out hS⟩) ?_
 rintro _ _ ⟨X,rfl,rfl⟩
 try simp only [Act.put,puA,puB,puC]
 refine bw (i:=12) (d:=some 34) (fun u k=>u=.string (strOf q)∧k=some none) rfl rfl (by kernel_rfl) (by kernel_rfl) rfl (by kernel_rfl) ⟨_,_,rfl,rfl⟩ (by kernel_rfl) (bm (f:=193) (args:=#[.slice (some ⟨X,0,none⟩) 1 1]) ?_ (fun W hS=>(join_one (PtS.row hS).2 1).mono fun e w' hh=>Or.inl ⟨_,hh.1,some none,⟨rfl,rfl⟩,Stp.below (PtS.row hS).1 hh.2⟩)) ?_
 ·(intro _;go_simp)
 rintro _ _ ⟨rfl,rfl⟩
 try simp only [Act.put,puA,puB,puC]
 refine bw (i:=13) (d:=some 35) (fun u k=>u=.tuple #[]∧k=none) rfl rfl (by kernel_rfl) (by kernel_rfl) rfl (by kernel_rfl) ⟨_,_,rfl,rfl⟩ (by kernel_rfl) (bm (f:=59) (args:=#[.pointer (some ⟨B,0,none⟩),.int .i64 d,.int .i64 ((j:Int)*64),.string (strOf q)]) ?_ (fun W hS=>by
  refine (nQ (PtS.start hS).ctx d ((j:Int)*64) q (by rw [HQL.out];decide)).mono fun e w' hE=>?_
  rcases (PtS.start hS).last hE with ⟨rfl,hR⟩ | ⟨_,s8,L8,_,rfl,S2⟩
  ·exact Or.inr ⟨_,rfl,rfl,hR⟩
  ·exact Or.inl ⟨_,rfl,none,⟨rfl,rfl⟩,⟨s8,S2⟩⟩)) ?_
 ·(intro _;go_simp)
 rintro _ _ ⟨rfl,rfl⟩
 try simp only [Act.put,puA,puB,puC]
 refine cH (by kernel_rfl) fun W hS=>?_
 obtain ⟨s9,S9⟩:=PtS.done hS
 go_wp2_with fail
 go_end0
 exact S9.done rfl
end

end Go.Proofs.YtagfoogfpabdfaaGreat
set_option maxRecDepth 100000
namespace Go.Proofs.YtagfoogfpabdfaaGreat
open Go.RowKit Go.Maps
open Dk (av aa)
open Ii (Ino)
open Dm (Ent Has)
theorem yi {wt W:World} {B:Nat} {b:Blk} {s:Sto} {n I:Int} {A1 A2:Option Addr} {c1 c2:Nat} {F:List UInt8} (h:Ctx W B b s n I) (hl:F.length≤67840) (T:mw wt W A1 A2 c2 (eS F) (bg F)) (d:Int) (i:Nat) (hi:i≤(bg F).length) (e:Ent) (hs:Nm.bL e.1 e.2=true):
  Calls Tryz.prog 137 #[lA B d,Bh A1 (pgN F) c1 A2 (bg F).length c2,.int .i64 (i:Int),.agg (dr e).toArray] W (Ends B b n I [] W s (pq n I d F i e) fun _ e _=>e=.returned (.tuple #[])):=by
 unfold pq
 have hin:=T.dJ
 rw [fe] at hin
 have hN:pgN F≤1061:=by unfold pgN;omega
 rw [eI] at hi
 by_cases c:i / 4<pgN F
 ·exact GL h A1 (pgN F) c1 A2 _ c2 _ hin i (i / 4) (i % 4) (by omega) (by omega) c (by omega) _ (by rw [List.getD_eq_getElem?_getD,List.getElem?_eq_getElem (by rw [fe];exact c)];rfl) e hs
 ·have e0:(eS F).getD (i / 4) av=av:=by rw [List.getD_eq_getElem?_getD,List.getElem?_eq_none (by rw [fe];omega)];rfl
  rw [e0]
  exact GM h A1 (pgN F) c1 A2 _ c2 i (i / 4) (i % 4) (by omega) (by omega) (by omega) (by omega) e hs
theorem vt {E:List Ent} {s:List UInt8} {i:Nat} (h:Dm.spot E s=some i):i<E.length:=(List.findIdx?_eq_some_iff_getElem.1 h).1
theorem room_le {E:List Ent}:KN E.length (Dm.room E)=(((Dm.room E).getD E.length:Nat):Int)∧(Dm.room E).getD E.length≤E.length:=by
 cases h:Dm.room E with
 | none=>exact ⟨rfl,Nat.le_refl _⟩
 | some i=>exact ⟨rfl,Nat.le_of_lt (List.findIdx?_eq_some_iff_getElem.1 h).1⟩
theorem vf {t:List UInt8} {i:Int} (h:kb t i=0):Nm.aA i t=true:=by
 unfold kb at h
 split at h
 ·exact absurd h ‹_›
 ·split at h
  ·assumption
  ·omega
def AdS (R:Ending→World→Prop) (B:Nat) (b:Blk) (n I:Int) (w0:World) (K:Unit→Ending→World→Prop) (l:List (Nat × List Value)) (s:Sto) (m:Fs.M Unit) (wt:World) (A1 A2:Option Addr) (c2:Nat) (ps:List (List UInt8)) (E:List Ent):Bool→World→Prop
 | true,W=>∃ s',Stp R B b n I [] w0 K l s' (Fs.ret ()) W
 | false,W=>Stp R B b n I [] w0 K l s m W∧mw wt W A1 A2 c2 ps E
section
variable {R:Ending→World→Prop} {B:Nat} {b:Blk} {n I:Int} {w0 wt:World} {K:Unit→Ending→World→Prop} {l:List (Nat × List Value)} {s:Sto} {m:Fs.M Unit} {A1 A2:Option Addr} {c2:Nat} {ps:List (List UInt8)} {E:List Ent} {W W':World}
theorem AdS.lo:∀ {k:Bool},AdS R B b n I w0 K l s m wt A1 A2 c2 ps E k W→Lo [b.t] w0 l W
 | true,⟨_,h⟩=>Stp.lo h
 | false,⟨h,_⟩=>Stp.lo h
theorem AdS.start (h:AdS R B b n I w0 K l s m wt A1 A2 c2 ps E false W):Stp R B b n I [] w0 K l s m W∧mw wt W A1 A2 c2 ps E:=h
theorem AdS.done (h:AdS R B b n I w0 K l s m wt A1 A2 c2 ps E true W):∃ s',Stp R B b n I [] w0 K l s' (Fs.ret ()) W:=h
end
theorem oU {X o:Nat} {B:Nat} {i:Int} (w:World) (h:w.rangeAt X o (ea B i)):(loadVar 99 ⟨X,o,none⟩).run Tryz.prog w=.ok (.agg (ea B i).toArray) w:=
 run_loadVar_mid (P:=Tryz.prog) w X o 99 (ea B i) _ h Tryz.underlying99 rfl (by kernel_rfl)
theorem tW {X o:Nat} {A1:Option Addr} {n1 c1:Nat} {A2:Option Addr} {n2 c2:Nat} (w:World) (h:w.rangeAt X o (iS A1 n1 c1 A2 n2 c2)):(loadVar 169 ⟨X,o,none⟩).run Tryz.prog w=.ok (.agg (iS A1 n1 c1 A2 n2 c2).toArray) w:=
 run_loadVar_mid (P:=Tryz.prog) w X o 169 (iS A1 n1 c1 A2 n2 c2) _ h Tryz.underlying169 rfl (by kernel_rfl)
theorem wB {A1 A2:Option Addr} {n1 c1 c2:Nat} {F t:List UInt8} (hl:F.length≤67840) (W:World) (hr:eA W A2 (bg F).length (bg F)):Calls Tryz.prog 135 #[Bh A1 n1 c1 A2 (bg F).length c2,.string (strOf t)] W fun e w'=>e=.returned (.int .i64 (uX (Dm.spot (bg F) t)))∧Below W.heap.size W w':=
 GC A1 n1 c1 A2 _ c2 t _ W hr (by rw [eI];unfold pgN;omega) (jB F)
theorem xh {n I d:Int} {s s':Sto} {F:List UInt8} {L:List Nat} (h:Fs.tell (uV n I d) (nv s)=(.ok F,nv s',L)):F.length≤67840:=by
 have:=rE (IC (lJ h)).1
 omega
section
variable {w:World} {B:Nat} {b:Blk} {s:Sto} {n I:Int}
theorem ux (h:Ctx w B b s n I) (d:Int) (t:List UInt8) (i:Int) (hm:(strOf t).size≤maxLen):
  Calls Tryz.prog 74 #[lA B d,.string (strOf t),.int .i64 i] w (Ends B b n I [] w s (pr n I d t i) fun _ e _=>e=.returned (.tuple #[])):=by
 unfold pr
 refine aQ fun R H=>?_
 have S0:=Lib.hid (Stp.start h (by simp) H)
 have S:=Lib.hid (S0.out.alloc w.heap.size rfl (ea B d) 99)
 have HW:=Lib.hid (fun W=>AI t i W hm)
 by_cases hw:kb t i=0
 ·have hse:Nm.bL ((i,t):Ent).1 ((i,t):Ent).2=true:=(Dm.yF (vf hw)).2
  have HSE:=Lib.hid hse
  have HT:=Lib.hid (fun W (hc:Ctx W B b s n I)=>nm hc d)
  rw [if_neg (by simpa using hw)] at S
  rw [hw] at HW
  clear h H S0 hw hse hm
  go_enter Tryz.func74,Tryz.ntmps74
  go_wp2_with (first
   | (go_at_call 136;refine (HW.out _).mono ?_;rintro e w1 ⟨rfl,hb⟩;replace S:=Lib.hid (S.out.below hb);clear hb)
   | (with_reducible refine af mg (S.out.get 0 _ rfl) rfl rfl (.tmp 3) rfl rfl ?_))
  refine (HT.out _ S.out.ctx).mono ?_
  intro e w2 hE
  rcases S.out.bind hE with ⟨rfl,hR⟩ | ⟨F,s',L,E1,⟨A1,c1,A2,c2,rfl,hT,hb⟩,S2⟩
  ·exact ⟨rfl,hR⟩
  have hle:=xh E1
  have HFD:=Lib.hid (fun A1 c1 A2 c2 W=>wB (A1:=A1) (n1:=pgN F) (c1:=c1) (A2:=A2) (c2:=c2) (t:=t) hle W)
  have T:=Lib.hid hT
  clear hT hb hE E1 S HT
  cases hk:Dm.spot (bg F) t with
  |
   some k=>
   rw [hk] at HFD
   simp only [uX] at HFD
   have HF:=Lib.hid (fun W (hc:Ctx W B b s' n I)=>cM hc 17 (by decide))
   have S:=Lib.hid (S2.of (m':=Fs.fail 17) (by simp only [hk];rfl))
   have g0:(0:Int)≤(k:Int):=by omega
   clear S2 hk hle
   generalize eS F=ps at T
   generalize bg F=E at T HFD ⊢
   generalize pgN F=m at HFD ⊢
   go_wp2_with (first
    | ((with_reducible refine ai (vs:=iS A1 m c1 A2 E.length c2) xi ?_ (ig _ _ _ _ _ _) rfl (.tmp 7) (.tmp 18) rfl rfl ?_ ?_ ?_);(exact rfl);(exact rfl);(exact rfl);intro W4 hP hB2 hz2;replace S:=Lib.hid (S.out.made hP hB2 hz2);replace T:=Lib.hid (T.out.below hB2);have c0:=(S.out.get 0 _ rfl).cell 0 _ rfl;clear hP hB2 hz2)
    | (with_reducible refine af xi (S.out.get 1 _ rfl) rfl rfl (.tmp 7) rfl rfl ?_)
    | (go_at_call 135;refine (HFD.out _ _ _ _ _ T.out.row).mono ?_;rintro e w3 ⟨rfl,hb⟩;clear c0;replace S:=Lib.hid (S.out.below hb);have c0:=(S.out.get 0 _ rfl).cell 0 _ rfl;clear hb)
    | (go_at_call 58;refine (HF.out _ S.out.ctx).mono ?_;rintro e w4 ⟨rfl,hB,hO⟩))
   exact ⟨rfl,S.out.ma (eo.err rfl) (by decide) hB hO⟩
  |
   none=>
   rw [hk] at HFD
   simp only [uX] at HFD
   have hra:=room_le (E:=bg F)
   have HRM:Hid (∀ A1 c1 A2 c2 W,eA W A2 (bg F).length (bg F)→Calls Tryz.prog 138 #[.agg (iS A1 (pgN F) c1 A2 (bg F).length c2).toArray] W fun e w'=>e=.returned (.int .i64 ((Im F:Nat):Int))∧Below W.heap.size W w'):=Lib.hid (fun A1 c1 A2 c2 W hr=>by
    have:=Fx A1 (pgN F) c1 A2 (bg F).length c2 (bg F) W hr (by rw [eI];unfold pgN;omega) (jB F)
    rw [hra.1] at this
    exact this)
   have HPT:Hid (∀ wt A1 c1 A2 c2 W,Ctx W B b s' n I→mw wt W A1 A2 c2 (eS F) (bg F)→Calls Tryz.prog 137 #[.agg (ea B d).toArray,.agg (iS A1 (pgN F) c1 A2 (bg F).length c2).toArray,.int .i64 ((Im F:Nat):Int),.agg #[.int .i64 i,.string (strOf t)]] W (Ends B b n I [] W s' (pq n I d F (Im F) (i,t)) fun _ e _=>e=.returned (.tuple #[]))):=Lib.hid (fun wt A1 c1 A2 c2 W hc hT=>yi hc hle hT d (Im F) hra.2 (i,t) HSE.out)
   have S:=Lib.hid (S2.of (m':=pq n I d F (Im F) (i,t)) (by simp only [hk];rfl))
   clear S2 hk hle hra HSE
   generalize pq n I d F (Im F) (i,t)=m0 at S HPT
   generalize Im F=a at HRM HPT
   generalize eS F=ps at T HPT
   generalize bg F=E at T HFD HRM HPT ⊢
   generalize pgN F=m at HFD HRM HPT ⊢
   go_wp2_with (first
    | ((with_reducible refine ai (vs:=iS A1 m c1 A2 E.length c2) xi ?_ (ig _ _ _ _ _ _) rfl (.tmp 7) (.tmp 18) rfl rfl ?_ ?_ ?_);(exact rfl);(exact rfl);(exact rfl);intro W4 hP hB2 hz2;replace S:=Lib.hid (S.out.made hP hB2 hz2);replace T:=Lib.hid (T.out.below hB2);clear hP hB2 hz2)
    | (with_reducible refine af xi (S.out.get 1 _ rfl) rfl rfl (.tmp 7) rfl rfl ?_)
    | (go_at_call 135;refine (HFD.out _ _ _ _ _ T.out.row).mono ?_;rintro e w3 ⟨rfl,hb⟩;replace S:=Lib.hid (S.out.below hb);replace T:=Lib.hid (T.out.below hb);clear hb))
   refine aO (AdS R B b n I w (fun _ e _=>e=.returned (.tuple #[])) [(w.heap.size,ea B d),(w2.heap.size,iS A1 m c1 A2 E.length c2)] s' m0 w1 A1 A2 c2 ps E) (fun ch W=>ch=[bn B]∧R (.panicked [bn B]) W) (fun ix=>ix == 7 || ix == 3) (fun ix=>[.agg (ea B d).toArray,.agg (iS A1 m c1 A2 E.length c2).toArray,.agg (iS A1 m c1 A2 E.length c2).toArray,.int .i64 (a:Int),.int .i64 i,.string (strOf t),.agg #[.int .i64 i,.string (strOf t)]].getD ix undef) false (by kernel_rfl) (by kernel_rfl) (fun ch a' W hd hh=>?_) ⟨S.out.drew,T.out.below ((Below.refl _ _).drew)⟩ ?_
   ·exact ⟨hd,by obtain ⟨rfl,hR⟩:=hh;exact hR⟩
   refine ag (i:=0) (d:=some 26) (v:=(.agg (ea B d).toArray)) rfl rfl (by kernel_rfl) (by kernel_rfl) rfl rfl (bM oU (by kernel_rfl) (.tmp 3) rfl rfl (fun k W hS=>((AdS.lo hS).get 0 _ rfl).range)) ?_
   try simp only [Act.put,puA,puB,puC]
   refine ag (i:=1) (d:=some 27) (v:=(.agg (iS A1 m c1 A2 E.length c2).toArray)) rfl rfl (by kernel_rfl) (by kernel_rfl) rfl rfl (bM tW (by kernel_rfl) (.tmp 7) rfl rfl (fun k W hS=>((AdS.lo hS).get 1 _ rfl).range)) ?_
   try simp only [Act.put,puA,puB,puC]
   refine ag (i:=2) (d:=some 28) (v:=(.agg (iS A1 m c1 A2 E.length c2).toArray)) rfl rfl (by kernel_rfl) (by kernel_rfl) rfl rfl (bM tW (by kernel_rfl) (.tmp 7) rfl rfl (fun k W hS=>((AdS.lo hS).get 1 _ rfl).range)) ?_
   try simp only [Act.put,puA,puB,puC]
   refine ag (i:=4) (d:=some 30) (v:=(.int .i64 i)) rfl rfl (by kernel_rfl) (by kernel_rfl) rfl rfl (ae (by kernel_rfl) ?_) ?_
   ·((intro _ _ _;go_simp) <;> kernel_rfl)
   try simp only [Act.put,puA,puB,puC]
   refine ag (i:=5) (d:=some 31) (v:=(.string (strOf t))) rfl rfl (by kernel_rfl) (by kernel_rfl) rfl rfl (ae (by kernel_rfl) ?_) ?_
   ·((intro _ _ _;go_simp) <;> kernel_rfl)
   try simp only [Act.put,puA,puB,puC]
   refine ag (i:=6) (d:=some 32) (v:=(.agg #[.int .i64 i,.string (strOf t)])) rfl rfl (by kernel_rfl) (by kernel_rfl) rfl rfl (ae (by kernel_rfl) ?_) ?_
   ·((intro _ _ _;go_simp) <;> kernel_rfl)
   try simp only [Act.put,puA,puB,puC]
   refine bw (i:=3) (d:=some 29) (fun u k=>u=.int .i64 (a:Int)∧k=false) rfl rfl (by kernel_rfl) (by kernel_rfl) rfl (by kernel_rfl) ⟨_,_,rfl,rfl⟩ (by kernel_rfl) (bm (f:=138) (args:=#[.agg (iS A1 m c1 A2 E.length c2).toArray]) ?_ (fun W hS=>(HRM.out _ _ _ _ _ (AdS.start hS).2.row).mono fun e w' hh=>Or.inl ⟨_,hh.1,false,⟨rfl,rfl⟩,Stp.below (AdS.start hS).1 hh.2,(AdS.start hS).2.below hh.2⟩)) ?_
   ·(intro _;go_simp)
   rintro _ _ ⟨rfl,rfl⟩
   try simp only [Act.put,puA,puB,puC]
   refine bw (i:=7) (d:=some 33) (fun u k=>u=.tuple #[]∧k=true) rfl rfl (by kernel_rfl) (by kernel_rfl) rfl (by kernel_rfl) ⟨_,_,rfl,rfl⟩ (by kernel_rfl) (bm (f:=137) (args:=#[.agg (ea B d).toArray,.agg (iS A1 m c1 A2 E.length c2).toArray,.int .i64 (a:Int),.agg #[.int .i64 i,.string (strOf t)]]) ?_ (fun W hS=>by
    refine (HPT.out _ _ _ _ _ _ (AdS.start hS).1.ctx (AdS.start hS).2).mono fun e w' hE=>?_
    rcases (AdS.start hS).1.last hE with ⟨rfl,hR⟩ | ⟨_,s8,L8,_,rfl,S2⟩
    ·exact Or.inr ⟨_,rfl,rfl,hR⟩
    ·exact Or.inl ⟨_,rfl,true,⟨rfl,rfl⟩,⟨s8,S2⟩⟩)) ?_
   ·(intro _;go_simp)
   rintro _ _ ⟨rfl,rfl⟩
   try simp only [Act.put,puA,puB,puC]
   refine cH (by kernel_rfl) fun W hS=>?_
   obtain ⟨s9,S9⟩:=AdS.done hS
   go_wp2_with fail
   go_end0
   exact S9.done rfl
 ·rw [if_pos (by simpa using hw)] at S
  have HF:=Lib.hid (fun W (hc:Ctx W B b s n I)=>cM hc (kb t i) hw)
  have HZ:=Lib.hid hw
  have g0:(kb t i != 0)=true:=by simpa using hw
  generalize kb t i=er at HW HF g0 S HZ
  have c0:=(S.out.get 0 _ rfl).cell 0 _ rfl
  clear h hm hw H S0
  go_enter Tryz.func74,Tryz.ntmps74
  go_wp2_with (first
   | (go_at_call 136;refine (HW.out _).mono ?_;rintro e w1 ⟨rfl,hb⟩;clear c0;replace S:=Lib.hid (S.out.below hb);have c0:=(S.out.get 0 _ rfl).cell 0 _ rfl;clear hb)
   | (go_at_call 58;refine (HF.out _ S.out.ctx).mono ?_;rintro e w2 ⟨rfl,hB,hO⟩))
  exact ⟨rfl,S.out.ma (eo.err rfl) HZ.out hB hO⟩
theorem uu (h:Ctx w B b s n I) (d:Int) (t:List UInt8):
  Calls Tryz.prog 77 #[lA B d,.string (strOf t)] w (Ends B b n I [] w s (si n I d t) fun _ e _=>e=.returned (.tuple #[])):=by
 unfold si
 refine aQ fun R H=>?_
 have S0:=Lib.hid (Stp.start h (by simp) H)
 have S:=Lib.hid (S0.out.alloc w.heap.size rfl (ea B d) 99)
 have HT:=Lib.hid (fun W (hc:Ctx W B b s n I)=>nm hc d)
 clear h H S0
 go_enter Tryz.func77,Tryz.ntmps77
 go_wp2_with (with_reducible refine af mg (S.out.get 0 _ rfl) rfl rfl (.tmp 2) rfl rfl ?_)
 refine (HT.out _ S.out.ctx).mono ?_
 intro e w2 hE
 rcases S.out.bind hE with ⟨rfl,hR⟩ | ⟨F,s',L,E1,⟨A1,c1,A2,c2,rfl,hT,hb⟩,S2⟩
 ·exact ⟨rfl,hR⟩
 have hle:=xh E1
 have HFD:=Lib.hid (fun A1 c1 A2 c2 W=>wB (A1:=A1) (n1:=pgN F) (c1:=c1) (A2:=A2) (c2:=c2) (t:=t) hle W)
 have T:=Lib.hid hT
 clear hT hb hE E1 S HT
 cases hk:Dm.spot (bg F) t with
 |
  none=>
  rw [hk] at HFD
  simp only [uX] at HFD
  have HF:=Lib.hid (fun W (hc:Ctx W B b s' n I)=>cM hc 2 (by decide))
  have S:=Lib.hid (S2.of (m':=Fs.fail 2) (by simp only [hk]))
  clear S2 hk hle
  generalize eS F=ps at T
  generalize bg F=E at T HFD ⊢
  generalize pgN F=m at HFD ⊢
  go_wp2_with (first
   | ((with_reducible refine ai (vs:=iS A1 m c1 A2 E.length c2) xi ?_ (ig _ _ _ _ _ _) rfl (.tmp 4) (.tmp 7) rfl rfl ?_ ?_ ?_);(exact rfl);(exact rfl);(exact rfl);intro W4 hP hB2 hz2;replace S:=Lib.hid (S.out.made hP hB2 hz2);replace T:=Lib.hid (T.out.below hB2);have c0:=(S.out.get 0 _ rfl).cell 0 _ rfl;clear hP hB2 hz2)
   | (with_reducible refine af xi (S.out.get 1 _ rfl) rfl rfl (.tmp 4) rfl rfl ?_)
   | (go_at_call 135;refine (HFD.out _ _ _ _ _ T.out.row).mono ?_;rintro e w3 ⟨rfl,hb⟩;clear c0;replace S:=Lib.hid (S.out.below hb);have c0:=(S.out.get 0 _ rfl).cell 0 _ rfl;clear hb)
   | (go_at_call 58;refine (HF.out _ S.out.ctx).mono ?_;rintro e w4 ⟨rfl,hB,hO⟩))
  exact ⟨rfl,S.out.ma (eo.err rfl) (by decide) hB hO⟩
 |
  some a=>
  rw [hk] at HFD
  simp only [uX] at HFD
  have ga:¬ (a:Int)<0:=by omega
  have hal:=vt hk
  have hse:Nm.bL ((0,[]):Ent).1 ((0,[]):Ent).2=true:=rfl
  have HPT:Hid (∀ wt A1 c1 A2 c2 W,Ctx W B b s' n I→mw wt W A1 A2 c2 (eS F) (bg F)→Calls Tryz.prog 137 #[.agg (ea B d).toArray,.agg (iS A1 (pgN F) c1 A2 (bg F).length c2).toArray,.int .i64 (a:Int),.agg #[.int .i64 0,.string ⟨#[]⟩]] W (Ends B b n I [] W s' (pq n I d F a (0,[])) fun _ e _=>e=.returned (.tuple #[]))):=Lib.hid (fun wt A1 c1 A2 c2 W hc hT=>yi hc hle hT d a (Nat.le_of_lt hal) (0,[]) hse)
  have S:=Lib.hid (S2.of (m':=pq n I d F a (0,[])) (by simp only [hk]))
  clear S2 hk hle hse hal
  generalize pq n I d F a (0,[])=m0 at S HPT
  generalize eS F=ps at T HPT
  generalize bg F=E at T HFD HPT ⊢
  generalize pgN F=m at HFD HPT ⊢
  go_wp2_with (first
   | (with_reducible refine af mg (S.out.get 0 _ rfl) rfl rfl (.tmp 2) rfl rfl ?_)
   | ((with_reducible refine ai (vs:=iS A1 m c1 A2 E.length c2) xi ?_ (ig _ _ _ _ _ _) rfl (.tmp 4) (.tmp 7) rfl rfl ?_ ?_ ?_);(exact rfl);(exact rfl);(exact rfl);intro W4 hP hB2 hz2;replace S:=Lib.hid (S.out.made hP hB2 hz2);replace T:=Lib.hid (T.out.below hB2);clear hP hB2 hz2)
   | (with_reducible refine af xi (S.out.get 1 _ rfl) rfl rfl (.tmp 4) rfl rfl ?_)
   | (go_at_call 135;refine (HFD.out _ _ _ _ _ T.out.row).mono ?_;rintro e w3 ⟨rfl,hb⟩;replace S:=Lib.hid (S.out.below hb);replace T:=Lib.hid (T.out.below hb);clear hb)
   | (go_at_call 137;refine (HPT.out _ _ _ _ _ _ S.out.ctx T.out).mono ?_;intro e w8 hE;rcases S.out.last hE with ⟨rfl,hR⟩ | ⟨_,s8,L8,_,rfl,S2⟩;(exact ⟨rfl,hR⟩);clear hE;have S9:=Lib.hid S2;clear S2 S T))
  go_end0
  exact S9.out.done rfl
end
end Go.Proofs.YtagfoogfpabdfaaGreat

namespace Go.Proofs.YtagfoogfpabdfaaGreat

end Go.Proofs.YtagfoogfpabdfaaGreat
set_option maxRecDepth 100000
namespace Go.Proofs.YtagfoogfpabdfaaGreat
open Go.RowKit Go.Maps
open Dk (av aa)
open Ii (Ino)
open Dm (Ent Has)
theorem DM (A1:Option Addr) (n1 c1:Nat) (A2:Option Addr) (n2 c2:Nat) (W:World):(Instr.field 169 (Bh A1 n1 c1 A2 n2 c2) 1).run Tryz.prog W=.ok (.slice A2 n2 c2) W:=by kernel_rfl
theorem Stp.old {α:Type} {R:Ending→World→Prop} {B:Nat} {b:Blk} {n I:Int} {Ls:List Nat} {w0 w w':World} {K:α→Ending→World→Prop} {l:List (Nat × List Value)} {s:Sto} {m:Fs.M α} (h:Stp R B b n I Ls w0 K l s m w) {N:Nat} (h0:w0.heap.size≤N) (hl:∀ x∈l,x.1<N) (hb:Below N w w'):Stp R B b n I Ls w0 K l s m w' where
 lo:={
  row:=fun x hx=>by
   obtain ⟨h1,h2,h3⟩:=h.lo.row x hx
   exact ⟨h1.block (hb.block _ (hl x hx)),h2,Nat.lt_of_lt_of_le h3 hb.size⟩
  ne:=h.lo.ne
  only:=⟨hb.os.trans h.lo.only.os,hb.tape.trans h.lo.only.tape,hb.output.trans h.lo.only.output,Nat.le_trans h.lo.only.size hb.size,fun k hk hn=>(hb.block k (by omega)).trans (h.lo.only.block k hk hn)⟩
  low:=h.lo.low }
 ctx:=⟨h.ctx.step.block (hb.block _ (by have:=h.low B (by simp);omega)),h.ctx.store.only (L:=(List.range w'.heap.size).filter (fun k=>decide (N≤k))) ⟨hb.os,hb.tape,hb.output,hb.size,fun k hk hn=>hb.block k (by
  rcases Nat.lt_or_ge k N with c | c
  ·exact c
  ·exact absurd (List.mem_filter.2 ⟨List.mem_range.2 (Nat.lt_of_lt_of_le hk hb.size),by simpa using c⟩) hn)⟩ (fun k hk q=>by
   have h1:=(List.mem_filter.1 q).2
   have h2:=h.low k (List.mem_cons_of_mem _ hk)
   simp only [decide_eq_true_eq] at h1
   omega),h.ctx.vs,h.ctx.nb⟩
 low:=h.low
 left:=h.left
section
variable {w:World} {B:Nat} {b:Blk} {s:Sto} {n I:Int}
theorem mh (h:Ctx w B b s n I) (d:Int) (t:List UInt8):
  Calls Tryz.prog 73 #[lA B d,.string (strOf t)] w (Ends B b n I [] w s (iX n I d t) fun r e _=>e=.returned (.int .i64 r)):=by
 unfold iX
 refine aQ fun R H=>?_
 have S0:=Lib.hid (Stp.start h (by simp) H)
 have S:=Lib.hid (S0.out.alloc w.heap.size rfl (ea B d) 99)
 have HT:=Lib.hid (fun W (hc:Ctx W B b s n I)=>nm hc d)
 clear h H S0
 go_enter Tryz.func73,Tryz.ntmps73
 go_wp2_with (with_reducible refine af mg (S.out.get 0 _ rfl) rfl rfl (.tmp 2) rfl rfl ?_)
 refine (HT.out _ S.out.ctx).mono ?_
 intro e w2 hE
 rcases S.out.bind hE with ⟨rfl,hR⟩ | ⟨F,s',L,E1,⟨A1,c1,A2,c2,rfl,hT,hb⟩,S2⟩
 ·exact ⟨rfl,hR⟩
 have hle:=xh E1
 have HFD:=Lib.hid (fun A1 c1 A2 c2 W=>wB (A1:=A1) (n1:=pgN F) (c1:=c1) (A2:=A2) (c2:=c2) (t:=t) hle W)
 have T:=Lib.hid hT
 have HLE:=Lib.hid (show (bg F).length≤5000 by rw [eI];unfold pgN;omega)
 clear hT hb hE E1 S HT hle
 have S:=Lib.hid S2
 clear S2
 unfold Ll at S
 cases hk:Dm.spot (bg F) t with
 |
  none=>
  rw [hk] at HFD S
  simp only [uX] at HFD S
  clear hk
  generalize eS F=ps at T
  generalize bg F=E at T HFD HLE ⊢
  generalize pgN F=m at HFD ⊢
  go_wp2_with (first
   | ((with_reducible refine ai (vs:=iS A1 m c1 A2 E.length c2) xi ?_ (ig _ _ _ _ _ _) rfl (.tmp 5) (.tmp 8) rfl rfl ?_ ?_ ?_);(exact rfl);(exact rfl);(exact rfl);intro W4 hP hB2 hz2;replace S:=Lib.hid (S.out.made hP hB2 hz2);replace T:=Lib.hid (T.out.below hB2);clear hP hB2 hz2)
   | (with_reducible refine af xi (S.out.get 1 _ rfl) rfl rfl (.tmp 5) rfl rfl ?_)
   | (go_at_call 135;refine (HFD.out _ _ _ _ _ T.out.row).mono ?_;rintro e w3 ⟨rfl,hb⟩;replace S:=Lib.hid (S.out.below hb);clear hb))

  exact S.out.done rfl
 |
  some k=>
  rw [hk] at HFD S
  simp only [uX] at HFD S
  obtain ⟨x,hx⟩:∃ x,(bg F)[k]?=some x:=⟨_,List.getElem?_eq_getElem (vt hk)⟩
  have hkl:=vt hk
  rw [show (bg F).getD k (0,[])=x by rw [List.getD_eq_getElem?_getD,hx];rfl] at S
  have HX:=Lib.hid hx
  have g0:¬ (k:Int)<0:=by omega
  have g1:(0:Int)≤(k:Int):=by omega
  clear hk hx
  generalize eS F=ps at T
  generalize bg F=E at T HFD HX HLE hkl ⊢
  generalize pgN F=m at HFD ⊢
  have g2:(k:Int)<(E.length:Int):=by omega
  go_wp2_with (first
   | ((with_reducible refine ai (vs:=iS A1 m c1 A2 E.length c2) xi ?_ (ig _ _ _ _ _ _) rfl (.tmp 5) (.tmp 8) rfl rfl ?_ ?_ ?_);(exact rfl);(exact rfl);(exact rfl);intro W4 hP hB2 hz2;replace S:=Lib.hid (S.out.made hP hB2 hz2);replace T:=Lib.hid (T.out.below hB2);clear hP hB2 hz2)
   | (with_reducible refine af xi (S.out.get 1 _ rfl) rfl rfl (.tmp 5) rfl rfl ?_)
   | (go_at_call 135;refine (HFD.out _ _ _ _ _ T.out.row).mono ?_;rintro e w3 ⟨rfl,hb⟩;replace S:=Lib.hid (S.out.below hb);replace T:=Lib.hid (T.out.below hb);clear hb;obtain ⟨g,o,hA,hgl,hgc⟩:=T.out.row.cells (by omega);subst hA;have cE0:=(hgc k x HX.out) 0 _ rfl;rw [Nat.add_zero] at cE0;have ct:=(S.out.get 1 _ rfl).cell 1 _ rfl;clear hgc hgl))
  exact S.out.done rfl
theorem uw (h:Ctx w B b s n I) (d:Int):
  Calls Tryz.prog 65 #[lA B d] w (Ends B b n I [] w s (Am n I d) fun E e w'=>∃ A c,e=.returned (.slice A E.length c)∧eA w' A E.length E∧∀ b off,A=some ⟨b,off,none⟩→0<E.length→w.heap.size≤b):=by
 unfold Am
 refine aQ fun R H=>?_
 have S0:=Lib.hid (Stp.start h (by simp) H)
 have S:=Lib.hid (S0.out.alloc w.heap.size rfl (ea B d) 99)
 have HT:=Lib.hid (fun W (hc:Ctx W B b s n I)=>nm hc d)
 clear h H S0
 go_enter Tryz.func65,Tryz.ntmps65
 go_wp2_with (with_reducible refine af mg (S.out.get 0 _ rfl) rfl rfl (.tmp 1) rfl rfl ?_)
 have HSZ:=Lib.hid S.out.lo.only.size
 have HLT:=Lib.hid (S.out.lo.lt 0 _ rfl)
 refine (HT.out _ S.out.ctx).mono ?_
 intro e w2 hE
 rcases S.out.bind hE with ⟨rfl,hR⟩ | ⟨F,s',L,E1,⟨A1,c1,A2,c2,rfl,hT,hb⟩,S2⟩
 ·exact ⟨rfl,hR⟩
 have hle:=xh E1
 have HD:=Lib.hid ((JR hT.own hb.size hT.row (by rw [eI];unfold pgN;omega) (jB F)))
 clear hT hb hE E1 S HT hle
 have S:=Lib.hid S2
 clear S2
 have hfd:=DM A1 (pgN F) c1 A2 (bg F).length c2
 generalize bg F=E at HD S hfd ⊢
 generalize pgN F=m at hfd ⊢
 go_wp2_with (go_at_call 127;refine HD.out.mono ?_;rintro e w3 ⟨A3,c3,rfl,hE3,hg3,hb3⟩)
 refine (S.out.old HSZ.out (fun x hx=>?_) hb3).done ⟨A3,c3,rfl,hE3,fun b off e h0=>Nat.le_trans HSZ.out (hg3 b off e h0)⟩
 obtain rfl:x=_:=List.mem_singleton.1 hx
 exact HLT.out
theorem wG (h:Ctx w B b s n I) (d:Int):
  Calls Tryz.prog 140 #[lA B d] w (Ends B b n I [] w s (Fs.andThen (Am n I d) fun E=>Fs.ret (decide (E=[]))) fun r e _=>e=.returned (.bool r)):=by
 refine aQ fun R H=>?_
 have S0:=Lib.hid (Stp.start h (by simp) H)
 have S:=Lib.hid (S0.out.alloc w.heap.size rfl (ea B d) 99)
 have HT:=Lib.hid (fun W (hc:Ctx W B b s n I)=>uw hc d)
 clear h H S0
 go_enter Tryz.func140,Tryz.ntmps140
 go_wp2_with (with_reducible refine af mg (S.out.get 0 _ rfl) rfl rfl (.tmp 1) rfl rfl ?_)
 refine (HT.out _ S.out.ctx).mono ?_
 intro e w2 hE
 rcases S.out.bind hE with ⟨rfl,hR⟩ | ⟨E,s',L,E1,⟨A,c,rfl,hr,_⟩,S2⟩
 ·exact ⟨rfl,hR⟩
 have S:=Lib.hid S2
 clear S2 hE E1 HT hr
 cases E with
 |
  nil=>
  go_wp2_with fail
  exact S.out.done rfl
 |
  cons x t=>
  have g0:(((x::t).length:Int) == 0)=false:=by rw [beq_eq_false_iff_ne];simp;omega
  rw [decide_eq_false (by simp)] at S
  generalize (x::t).length=m at g0 ⊢
  go_wp2_with fail
  exact S.out.done rfl
end
end Go.Proofs.YtagfoogfpabdfaaGreat

namespace Go.Proofs.YtagfoogfpabdfaaGreat
end Go.Proofs.YtagfoogfpabdfaaGreat
