/- Texts of the proof. -/
import Derived.Test.YtagfoogfpabdfaaGreatTac
import Derived.Laws.IdiomStrings
import Derived.IntWalk
import Derived.Laws.Tables
import Derived.Great.FillDense
import Derived.Great.BuildSlice
set_option maxRecDepth 100000
set_option maxHeartbeats 16000000
namespace Go.Proofs.YtagfoogfpabdfaaGreat
section
open Go.RowKit
open Dk (av aa)
open Hd (Head aA aM)
open Jn (Chg)
theorem Ci {W:World} {B:Nat} {p:List UInt8} (h:aD W B p):(convert 40 9 (.slice (some ⟨B,0,none⟩) 64 64)).run Tryz.prog W=.ok (.string ⟨p.toArray⟩) W:=by
 have:=run_convert_bytes_back (P:=Tryz.prog) W 40 9 5 ⟨B,0,none⟩ 64 p Tryz.underlying40 Tryz.underlying5 Tryz.underlying9 (fun j hj=>by
  rw [Addr.add_mid]
  have:=h.range j _ (cd p j hj)
  exact this)
 rw [h.len] at this
 exact this
theorem sY (A:Option Addr) (n c:Nat) (ps:List (List UInt8)) (w:World) (hrow:gj w A n ps) (hn:n≤1000) (h0:0<n):
  Calls Tryz.prog 262 #[.slice A n c] w fun e w'=>e=.returned (.int .u32 (Jn.Fe ps))∧Below w.heap.size w w':=by
 have HR:Hid (NxR w A n ps w):=Lib.hid ⟨hrow,Below.refl _ _⟩
 have HL:=Lib.hid hrow.len
 have HZ:=Lib.hid hrow.size
 clear hrow
 have hf:=Mt.yf
 go_enter Tryz.func262,Tryz.ntmps262
 go_wp2_with (go_at_call 276;refine (Bv _ _ (by omega) (by omega)).mono ?_;rintro e w' ⟨rfl,rfl⟩)
 go_loopw [3,4,13] (fun x y i wr=>∃ k:Nat,k≤n∧i=.int .i64 k∧x=.int .u32 (Mt.run (0,0) (ps.take k).flatten).1∧y=.int .u32 (Mt.run (0,0) (ps.take k).flatten).2∧NxR w A n ps wr) (fun _ _ i _=>n - (intOf i).toNat)
 case atStart=>exact ⟨0,Nat.zero_le _,rfl,rfl,rfl,HR.out⟩
 case round=>
  obtain ⟨k,hk,rfl,rfl,rfl,hnx⟩:=hrel
  have HX:=Lib.hid hnx
  clear hnx HR
  have hr:=Mt.wA (0,0) (ps.take k).flatten hf
  obtain ⟨r1,r2,r3,r4⟩:=id hr
  have HF:=Lib.hid hr;clear hr
  by_cases hlt:k<n
  ·obtain ⟨b,off,rfl,hb,hc⟩:=HX.out.1.cells (by omega)
   obtain ⟨p,hp⟩:∃ p,ps[k]?=some p:=⟨_,List.getElem?_eq_getElem (by rw [HL.out];exact hlt)⟩
   have HP:=Lib.hid (hc k p hp)
   have HPL:=Lib.hid (HZ.out p (List.mem_of_getElem? hp))
   have HS:Hid (Mt.run (0,0) (ps.take (k+1)).flatten=Mt.run (Mt.run (0,0) (ps.take k).flatten) (⟨p.toArray⟩:ByteArray).data.toList):=Lib.hid (by
    rw [sT ps k p hp,List.flatten_append,Mt.qm];simp)
   have HSZ:Hid ((⟨p.toArray⟩:ByteArray).size≤maxLen):=Lib.hid (by show p.toArray.size≤_;rw [List.size_toArray,HPL.out];unfold maxLen;omega)
   clear hc hp hb
   go_wp2_with (first
    | ((with_reducible refine ec HP.out HPL.out rfl (.tmp 15) rfl ?_ ?_);(exact rfl))
    | ((with_reducible refine aq rfl (.tmp 6) (.tmp 16) rfl rfl ?_ ?_ HPL.out ?_);(exact rfl);(exact rfl);intro W2 hP hB2 hz2;have hcv:=Ci hP;have HX2:=Lib.hid (NxR.call HX.out hB2);clear HX hP hB2 hz2)
    | (go_at_call 277;refine (Kk _ _ _ _ HF.out HSZ.out).mono ?_;rintro e w' ⟨rfl,rfl⟩))
   go_roundw
   case rel=>exact ⟨k+1,by omega,by go_num,by rw [HS.out];rfl,by rw [HS.out];rfl,HX2.out⟩
   case measure=>simp [intOf];omega
  ·have HK:Hid (ps.take k=ps):=Lib.hid (List.take_of_length_le (by rw [HL.out];omega))
   go_wp2_with (go_at_call 278;refine (Gj _ _ _ r1 r2 r3 r4).mono ?_;rintro e w' ⟨rfl,rfl⟩)
   go_ret
   exact ⟨iy (by rw [HK.out];rfl),HX.out.2⟩
def mO (z r:Nat):Prop:=∀ w,Calls Tryz.prog 206 #[.int .i64 (z:Int)] w fun e w'=>e=.returned (.int .i64 (r:Int))∧w=w'
theorem BK:mO 40 37:=fun w=>by
 show Calls Tryz.prog 206 #[.int .i64 40] w fun e w'=>e=.returned (.int .i64 37)∧w=w'
 go_enter Tryz.func206,Tryz.ntmps206
 go_wp2
 go_ret
 exact ⟨rfl,rfl⟩
theorem Da (n:Nat) (h1:1≤n) (h2:n≤900) (w:World):Calls Tryz.prog 269 #[.int .i64 (n:Int)] w fun e w'=>e=.returned (.int .i64 ((Jn.nl n:Nat):Int))∧w=w':=by
 go_enter Tryz.func269,Tryz.ntmps269
 go_wp2
 go_ret
 exact ⟨iy (by unfold Jn.nl;omega),rfl⟩
def cG (n a z:Nat) (i:Int):Bool:=decide (0≤i∧i<(n:Int)∧(i<(a:Int)∨(a:Int)+(z:Int)≤i))
theorem Cu {w:World} {d l m:Nat} {s:Dk.St} (h:aG w d l m s) (a z:Nat) (ha:a≤1000) (hz:z≤1000) (i:Int):
  Calls Tryz.prog 259 #[vB d a z,.int .i64 i] w fun e w'=>e=.returned (.bool (cG s.last.length a z i))∧Below w.heap.size w w':=by
 have HD:=Lib.hid (gT (h.alloc (.cells #[.pointer (some ⟨d,0,none⟩),.int .i64 (a:Int),.int .i64 (z:Int)] 227)))
 have hsm:=h.ok.small
 clear h
 unfold vB
 generalize s.last.length=n at HD hsm ⊢
 by_cases c1:0≤i
 ·by_cases c2:i<(n:Int)
  ·by_cases c3:i<(a:Int)
   ·go_enter Tryz.func259,Tryz.ntmps259
    go_wp2_with (go_at_call 141;refine HD.out.mono ?_;rintro e w' ⟨rfl,rfl⟩)
    go_ret
    exact ⟨bS (by unfold cG;symm;rw [decide_eq_true_iff];omega),(Below.refl _ _).alloc (Nat.le_refl _) _⟩
   ·go_enter Tryz.func259,Tryz.ntmps259
    go_wp2_with (go_at_call 141;refine HD.out.mono ?_;rintro e w' ⟨rfl,rfl⟩)
    go_ret
    exact ⟨bS (by unfold cG;rw [← Bool.decide_or,decide_eq_decide];omega),(Below.refl _ _).alloc (Nat.le_refl _) _⟩
  ·go_enter Tryz.func259,Tryz.ntmps259
   go_wp2_with (go_at_call 141;refine HD.out.mono ?_;rintro e w' ⟨rfl,rfl⟩)
   go_ret
   exact ⟨bS (by unfold cG;symm;rw [decide_eq_false_iff_not];omega),(Below.refl _ _).alloc (Nat.le_refl _) _⟩
 ·go_enter Tryz.func259,Tryz.ntmps259
  go_wp2_with fail
  go_ret
  exact ⟨bS (by unfold cG;symm;rw [decide_eq_false_iff_not];omega),(Below.refl _ _).alloc (Nat.le_refl _) _⟩
end

section
open Go.RowKit
open Dk (av aa)
open Hd (Head aA aM)
open Jn (Chg)
structure EB (w:World) (d l m:Nat) (R:World→Prop) (r a z:Nat) (s:Dk.St) (W:World):Prop where
 ew:aG W d l m s
 row:R W
 reg:au W r (eD d a z)
 fresh:w.heap.size≤r
 old:d<w.heap.size∧l<w.heap.size∧m<w.heap.size
 only:aB [d,l,m] w W
def Ey (R:World→Prop) (d l m:Nat):Prop:=∀ W W' L,(∀ x∈L,x∈[d,l,m])→aB L W W'→R W→R W'
theorem EB.call {w:World} {d l m:Nat} {R:World→Prop} {r a z:Nat} {s s':Dk.St} {W W':World} {L:List Nat} (h:EB w d l m R r a z s W) (hR:Ey R d l m) (hd:aG W' d l m s') (ho:aB L W W') (hL:∀ x∈L,x∈[d,l,m]):EB w d l m R r a z s' W' where
 ew:=hd
 row:=hR W W' L hL ho h.row
 reg:=h.reg.only ho (fun e=>by have:=hL _ e;have:=h.old;have:=h.fresh;simp at *;omega)
 fresh:=h.fresh
 old:=h.old
 only:=h.only.trans (ho.mono hL)
theorem EB.below {w:World} {d l m:Nat} {R:World→Prop} {r a z:Nat} {s:Dk.St} {W W':World} (h:EB w d l m R r a z s W) (hR:Ey R d l m) (hb:Below W.heap.size W W'):EB w d l m R r a z s W':=
 h.call hR (h.ew.below hb) (aB.below (l:=[]) hb) (by simp)
theorem EB.far {w:World} {d l m:Nat} {R:World→Prop} {r a z:Nat} {s:Dk.St} {W:World} (h:EB w d l m R r a z s W) (b:Nat) (hb:w.heap.size≤b):b∉[d,l,m]:=fun e=>by
 have:=h.old
 simp at e
 omega
theorem qs {w:World} {d l m:Nat} {R:World→Prop} {s:Dk.St} (a z:Nat) (h:aG w d l m s) (hR:Ey R d l m) (hr:R w) (t:TypeId):EB w d l m R w.heap.size a z s (w.alloc (.cells (eD d a z).toArray t)) where
 ew:=h.alloc _
 row:=hR w _ [] (by simp) ((aB.refl _ _).alloc _) hr
 reg:=bh w _ t
 fresh:=Nat.le_refl _
 old:=⟨h.dlt,h.llt,h.mlt⟩
 only:=(aB.refl _ _).alloc _
theorem xj (A:Option Addr) (d l m:Nat) (ps:List (List UInt8)):Ey (fun W=>Ko W A [d,l,m] ps) d l m:=fun _ _ _ hL ho h=>h.only ho hL
theorem xk (A:Option Addr) (d l m:Nat) (cs:List Chg):Ey (fun W=>va W A [d,l,m] cs) d l m:=fun _ _ _ hL ho h=>h.only ho hL
theorem Aa (ps:List (List UInt8)) (a k:Nat) (p:List UInt8) (h:ps[k]?=some p):Jn.dY (a+k) (ps.drop k)=⟨((a+k:Nat):Int),p⟩::Jn.dY (a+(k+1)) (ps.drop (k+1)):=by
 obtain ⟨hk,he⟩:=List.getElem?_eq_some_iff.1 h
 rw [List.drop_eq_getElem_cons hk,he]
 rfl
theorem BF {s:Dk.St} {c:Chg} {r:List Chg} (h:Dk.dg s c.no=0):Jn.cj s (c::r)=Jn.cj (Dk.write s c.no c.aK) r:=by rw [Jn.cj,if_pos h]
theorem xt {s:Dk.St} {c:Chg} {r:List Chg} (h:Dk.dg s c.no≠0):Jn.cj s (c::r)=(Dk.write s c.no c.aK,Dk.dg s c.no):=by rw [Jn.cj,if_neg h]
theorem BZ {w:World} {d l m:Nat} {s:Dk.St} (h:aG w d l m s) (g a z:Nat) (A:Option Addr) (c:Nat) (ps:List (List UInt8)) (hrow:Ko w A [d,l,m] ps) (hp:∀ p∈ps,p.length=64) (hl:ps.length≤1000) (ha:a≤1000):
  Calls Tryz.prog 261 #[vB d g z,.int .i64 (a:Int),.slice A ps.length c] w fun e w'=>e=.returned (.int .i64 (Jn.cj s (Jn.dY a ps)).2)∧aG w' d l m (Jn.cj s (Jn.dY a ps)).1∧aB [d,l,m] w w':=by
 have HS:=Lib.hid (qs g z h (xj A d l m ps) hrow 227)
 have HP:=Lib.hid hp
 have HST:=Lib.hid (xj A d l m ps)
 clear h hrow hp
 obtain ⟨n,hn⟩:∃ n,ps.length=n:=⟨_,rfl⟩
 have HN:=Lib.hid hn
 rw [hn] at hl ⊢
 clear hn
 unfold vB
 go_enter Tryz.func261,Tryz.ntmps261
 go_wp2_with fail
 unfold eD at HS
 generalize (w.alloc (.cells _ 227))=w1 at HS ⊢
 generalize hrb:w.heap.size=rb at HS ⊢
 go_loopw [12] (fun i wr=>∃ (k:Nat) (sk:Dk.St),k≤n∧i=.int .i64 k∧EB w d l m (fun W=>Ko W A [d,l,m] ps) rb g z sk wr∧Jn.cj s (Jn.dY a ps)=Jn.cj sk (Jn.dY (a+k) (ps.drop k))) (fun i _=>n - (intOf i).toNat)
 case atStart=>exact ⟨0,s,Nat.zero_le _,rfl,HS.out,rfl⟩
 case round=>
  obtain ⟨k,sk,hk,rfl,hput,hrun⟩:=hrel
  have HI:=Lib.hid hput
  have HR:=Lib.hid hrun
  clear hput hrun HS
  by_cases hlt:k<n
  ·obtain ⟨p,hpk⟩:∃ p,ps[k]?=some p:=⟨_,List.getElem?_eq_getElem (by rw [HN.out];exact hlt)⟩
   obtain ⟨b,off,rfl,hb,_,hc⟩:=HI.out.row (by rw [HN.out];omega)
   have HC:=Lib.hid (hc k p hpk)
   have HPL:=Lib.hid (HP.out p (List.mem_of_getElem? hpk))
   have HE:=Lib.hid (Aa ps a k p hpk)
   clear hb hc hpk
   have HX:Hid ((a:Int)+(k:Int)=((a+k:Nat):Int)):=Lib.hid (by omega)
   have hF:Hid (wr.heap.size∉[d,l,m]):=Lib.hid (HI.out.far _ (HI.out.only.size))
   go_wp2_with (first
    | ((with_reducible refine ec HC.out HPL.out rfl (.tmp 15) rfl ?_ ?_);(exact rfl))
    | ((with_reducible refine aq rfl (.tmp 8) (.tmp 16) rfl rfl ?_ ?_ HPL.out ?_);(exact rfl);(exact rfl);intro W2 hP hB2 hz2;have HI2:=Lib.hid (HI.out.below HST.out hB2);have HP2:=Lib.hid hP;have hr0:=HI2.out.reg.cell 0 _ rfl;clear HI hP hB2 hz2;generalize wr.heap.size=B at HP2 hF ⊢)
    | (with_reducible refine ah HP2.out rfl (.tmp 8) rfl rfl ?_))
   rw [HX.out]
   refine (nF HI2.out.ew _ p HPL.out).mono ?_
   rintro e W3 ⟨rfl,hd3,ho3⟩
   have HI3:=Lib.hid (HI2.out.call HST.out hd3 ho3 (by simp))
   clear HI2 HP2 hr0 hd3 ho3
   by_cases hw:Dk.dg sk ((a+k:Nat):Int)=0
   ·have HRW:Hid (Jn.cj s (Jn.dY a ps)=Jn.cj (Dk.write sk ((a+k:Nat):Int) p) (Jn.dY (a+(k+1)) (ps.drop (k+1)))):=Lib.hid (by rw [HR.out,HE.out,BF hw])
    rw [hw]
    go_wp2
    go_roundw
    case rel=>exact ⟨k+1,_,by omega,by go_num,HI3.out,HRW.out⟩
    case measure=>simp [intOf];omega
   ·have HRW:Hid (Jn.cj s (Jn.dY a ps)=(Dk.write sk ((a+k:Nat):Int) p,Dk.dg sk ((a+k:Nat):Int))):=Lib.hid (by rw [HR.out,HE.out,xt hw])
    have hne2:(Dk.dg sk ((a+k:Nat):Int) == 0)=false:=by simpa using hw
    have hne3:(Dk.dg sk ((a+k:Nat):Int) != 0)=true:=by simpa using hw
    generalize Dk.dg sk ((a+k:Nat):Int)=E at hne2 hne3 HRW ⊢
    clear hw
    go_wp2
    go_ret
    rw [HRW.out]
    exact ⟨rfl,HI3.out.ew,HI3.out.only⟩
  ·obtain rfl:k=n:=by omega
   have HRW:Hid (Jn.cj s (Jn.dY a ps)=(Dk.flush sk,Dk.kf sk)):=Lib.hid (by rw [HR.out,List.drop_of_length_le (by rw [HN.out];omega)];rfl)
   have hr0:=HI.out.reg.cell 0 _ rfl
   go_wp2_with fail
   refine (pj HI.out.ew).mono ?_
   rintro e W3 ⟨rfl,hd3,ho3⟩
   have HI3:=Lib.hid (HI.out.call HST.out hd3 ho3 (by simp))
   clear HI hr0 hd3 ho3
   go_wp2
   go_ret
   rw [HRW.out]
   exact ⟨rfl,HI3.out.ew,HI3.out.only⟩
theorem ur (cs:List Chg) (k:Nat) (c:Chg) (h:cs[k]?=some c):cs.drop k=c::cs.drop (k+1):=by
 obtain ⟨hk,he⟩:=List.getElem?_eq_some_iff.1 h
 rw [List.drop_eq_getElem_cons hk,he]
theorem Es {w:World} {d l m:Nat} {s:Dk.St} (h:aG w d l m s) (g z:Nat) (A:Option Addr) (c:Nat) (cs:List Chg) (hrow:va w A [d,l,m] cs) (hp:∀ x∈cs,x.aK.length=64) (hl:cs.length≤1000):
  Calls Tryz.prog 248 #[vB d g z,.slice A cs.length c] w fun e w'=>e=.returned (.int .i64 (Jn.cj s cs).2)∧aG w' d l m (Jn.cj s cs).1∧aB [d,l,m] w w':=by
 have HS:=Lib.hid (qs g z h (xk A d l m cs) hrow 227)
 have HP:=Lib.hid hp
 have HST:=Lib.hid (xk A d l m cs)
 clear h hrow hp
 obtain ⟨n,hn⟩:∃ n,cs.length=n:=⟨_,rfl⟩
 have HN:=Lib.hid hn
 rw [hn] at hl ⊢
 clear hn
 unfold vB
 go_enter Tryz.func248,Tryz.ntmps248
 go_wp2_with fail
 unfold eD at HS
 generalize (w.alloc (.cells _ 227))=w1 at HS ⊢
 generalize hrb:w.heap.size=rb at HS ⊢
 go_loopw [10] (fun i wr=>∃ (k:Nat) (sk:Dk.St),k≤n∧i=.int .i64 k∧EB w d l m (fun W=>va W A [d,l,m] cs) rb g z sk wr∧Jn.cj s cs=Jn.cj sk (cs.drop k)) (fun i _=>n - (intOf i).toNat)
 case atStart=>exact ⟨0,s,Nat.zero_le _,rfl,HS.out,rfl⟩
 case round=>
  obtain ⟨k,sk,hk,rfl,hput,hrun⟩:=hrel
  have HI:=Lib.hid hput
  have HR:=Lib.hid hrun
  clear hput hrun HS
  by_cases hlt:k<n
  ·obtain ⟨x,hpk⟩:∃ x,cs[k]?=some x:=⟨_,List.getElem?_eq_getElem (by rw [HN.out];exact hlt)⟩
   obtain ⟨b,off,rfl,hb,_,hc⟩:=HI.out.row (by rw [HN.out];omega)
   have HC:=Lib.hid (hc k x hpk)
   have HPL:=Lib.hid (HP.out x (List.mem_of_getElem? hpk))
   have HE:=Lib.hid (ur cs k x hpk)
   clear hb hc hpk
   have hF:Hid (wr.heap.size∉[d,l,m]):=Lib.hid (HI.out.far _ (HI.out.only.size))
   have hzc:=vd
   go_wp2_with (first
    | ((with_reducible refine fP HC.out HPL.out rfl (.tmp 12) rfl ?_ ?_);(exact rfl))
    | ((with_reducible refine ej HPL.out rfl (.tmp 6) (.tmp 13) rfl rfl ?_ fi ?_);(exact rfl);intro W2 hP hB2 hz2;have HI2:=Lib.hid (HI.out.below HST.out hB2);have HP2:=Lib.hid hP;have hr0:=HI2.out.reg.cell 0 _ rfl;have hv0:=ni.no hP;have HV1:=Lib.hid (ni.aK hP);clear HI hP hB2 hz2;generalize wr.heap.size=B at HP2 hF hv0 HV1 ⊢)
    | ((with_reducible refine ec HV1.out HPL.out rfl (.tmp 18) rfl ?_ ?_);(exact rfl)))
   refine (nF HI2.out.ew _ x.aK HPL.out).mono ?_
   rintro e W3 ⟨rfl,hd3,ho3⟩
   have HI3:=Lib.hid (HI2.out.call HST.out hd3 ho3 (by simp))
   clear HI2 HP2 hr0 hd3 ho3 hv0 HV1
   by_cases hw:Dk.dg sk x.no=0
   ·have HRW:Hid (Jn.cj s cs=Jn.cj (Dk.write sk x.no x.aK) (cs.drop (k+1))):=Lib.hid (by rw [HR.out,HE.out,BF hw])
    rw [hw]
    go_wp2
    go_roundw
    case rel=>exact ⟨k+1,_,by omega,by go_num,HI3.out,HRW.out⟩
    case measure=>simp [intOf];omega
   ·have HRW:Hid (Jn.cj s cs=(Dk.write sk x.no x.aK,Dk.dg sk x.no)):=Lib.hid (by rw [HR.out,HE.out,xt hw])
    have hne2:(Dk.dg sk x.no == 0)=false:=by simpa using hw
    have hne3:(Dk.dg sk x.no != 0)=true:=by simpa using hw
    generalize Dk.dg sk x.no=E at hne2 hne3 HRW ⊢
    clear hw
    go_wp2
    go_ret
    rw [HRW.out]
    exact ⟨rfl,HI3.out.ew,HI3.out.only⟩
  ·obtain rfl:k=n:=by omega
   have HRW:Hid (Jn.cj s cs=(Dk.flush sk,Dk.kf sk)):=Lib.hid (by rw [HR.out,List.drop_of_length_le (by rw [HN.out];omega)];rfl)
   have hr0:=HI.out.reg.cell 0 _ rfl
   go_wp2_with fail
   refine (pj HI.out.ew).mono ?_
   rintro e W3 ⟨rfl,hd3,ho3⟩
   have HI3:=Lib.hid (HI.out.call HST.out hd3 ho3 (by simp))
   clear HI hr0 hd3 ho3
   go_wp2
   go_ret
   rw [HRW.out]
   exact ⟨rfl,HI3.out.ew,HI3.out.only⟩
end

section
open Go.RowKit
open Dk (av aa)
open Hd (Head aA aM)
open Jn (Chg)
structure ib (w:World) (b:Nat) (f:Nat→Bool):Prop where
 cell:∀ i,i<512→w.cell? ⟨b,i,none⟩=some (.bool (f i))
 free:∀ i,i<512→w.frozen? ⟨b,i,none⟩=false
def mark (f:Nat→Bool) (j:Nat):Nat→Bool:=fun i=>i == j || f i
theorem ib.block {w w':World} {b:Nat} {f:Nat→Bool} (h:ib w b f) (hb:w'.heap[b]?=w.heap[b]?):ib w' b f:=
 ⟨fun i hi=>(World.cell?_of_block (w:=w) (a:=⟨b,i,none⟩) hb).trans (h.cell i hi),fun i hi=>(World.frozen?_of_block (w:=w) (a:=⟨b,i,none⟩) hb).trans (h.free i hi)⟩
theorem ib.lt {w:World} {b:Nat} {f:Nat→Bool} (h:ib w b f):b<w.heap.size:=World.block_lt_of_cell? w _ (h.cell 0 (by omega))
theorem ib.below {w w':World} {b:Nat} {f:Nat→Bool} (h:ib w b f) (hb:Below w.heap.size w w'):ib w' b f:=h.block (hb.block b h.lt)
theorem ib.set {w:World} {b:Nat} {f:Nat→Bool} (h:ib w b f) (j:Nat) (hj:j<512):ib (w.setCell ⟨b,j,none⟩ (.bool true)) b (mark f j) where
 cell:=fun i hi=>by
  by_cases e:j=i
  ·subst e
   rw [World.cell?_setCell_same' _ _ _ (by rw [h.cell j hj];rfl)]
   simp [mark]
  ·rw [World.cell?_setCell_other _ _ _ _ (fun q=>e (by injection q)),h.cell i hi]
   have:(i == j)=false:=by simpa using fun q=>e q.symm
   simp [mark,this]
 free:=fun i hi=>by rw [World.frozen?_setCell];exact h.free i hi
def oO:Array Value:=(List.replicate 512 (Value.bool false)).toArray
theorem tN (w:World):(zeroValue 278).run Tryz.prog w=.ok (.agg oO) w:=by kernel_rfl
theorem zP (w:World) (t:TypeId):ib (w.alloc (.cells oO t)) w.heap.size (fun _=>false) where
 cell:=fun i hi=>by
  rw [World.cell?_alloc_mark]
  unfold oO
  rw [List.getElem?_toArray,List.getElem?_replicate,if_pos hi]
 free:=fun i hi=>by
  rw [World.frozen?_alloc_mark]
  simp
def dx (n a z:Nat):(Nat→Bool)→List Chg→Bool
 | _,[]=>true
 | f,c::r=>if cG n a z c.no=true∧f c.no.toNat=false then dx n a z (mark f c.no.toNat) r else false
def jh (n a z:Nat) (cs:List Chg):Bool:=dx n a z (fun _=>false) cs
structure Is (w:World) (d l m:Nat) (s:Dk.St) (A:Option Addr) (cs:List Chg) (r a z t:Nat) (f:Nat→Bool) (W:World):Prop where
 ew:aG W d l m s
 row:va W A [] cs
 reg:au W r (eD d a z)
 marks:ib W t f
 fresh:w.heap.size≤t
 apart:t≠r
 old:d<w.heap.size∧l<w.heap.size∧m<w.heap.size
 tu:∀ b off,0<cs.length→A=some ⟨b,off,none⟩→b<w.heap.size
 below:Below w.heap.size w W
theorem Is.call {w:World} {d l m:Nat} {s:Dk.St} {A:Option Addr} {cs:List Chg} {r a z t:Nat} {f:Nat→Bool} {W W':World} (h:Is w d l m s A cs r a z t f W) (hb:Below W.heap.size W W'):Is w d l m s A cs r a z t f W':=
 ⟨h.ew.below hb,h.row.below hb,h.reg.below hb h.reg.lt,h.marks.below hb,h.fresh,h.apart,h.old,h.tu,h.below.trans (hb.mono h.below.size)⟩
theorem Is.set {w:World} {d l m:Nat} {s:Dk.St} {A:Option Addr} {cs:List Chg} {r a z t:Nat} {f:Nat→Bool} {W:World} (h:Is w d l m s A cs r a z t f W) (j:Nat) (hj:j<512):Is w d l m s A cs r a z t (mark f j) (W.setCell ⟨t,j,none⟩ (.bool true)):=by
 have ho:aB [t] W (W.setCell ⟨t,j,none⟩ (.bool true)):=(aB.refl _ _).setCell (by simp) _
 have hf:=h.fresh
 have hold:=h.old
 exact {
     ew:=h.ew.only ho (by simp;omega) (by simp;omega) (by simp;omega)
     row:=fun h0=>by
      obtain ⟨b,off,e,h1,h2,h3⟩:=h.row h0
      have:=h.tu b off h0 e
      exact ⟨b,off,e,by have:=ho.size;omega,h2,fun i x hx k v hv=>(ho.cell (p:=⟨b,off+i*65+k,none⟩) h1 (by simp;omega)).trans (h3 i x hx k v hv)⟩
     reg:=h.reg.only ho (by simp;exact Ne.symm h.apart)
     marks:=h.marks.set j hj
     fresh:=h.fresh,apart:=h.apart,old:=h.old,tu:=h.tu
     below:=h.below.setCell (by exact h.fresh) _ }
theorem yS {w:World} {d l m:Nat} {s:Dk.St} {A:Option Addr} {cs:List Chg} (a z:Nat) (h:aG w d l m s) (hrow:va w A [] cs) (t1 t2:TypeId):
  Is w d l m s A cs w.heap.size a z (w.heap.size+1) (fun _=>false) ((w.alloc (.cells (eD d a z).toArray t1)).alloc (.cells oO t2)) where
 ew:=(h.alloc _).alloc _
 row:=(hrow.below ((Below.refl _ _).alloc (Nat.le_refl _) _)).below ((Below.refl _ _).alloc (Nat.le_refl _) _)
 reg:=(bh w _ t1).alloc _
 marks:=by simpa using zP (w.alloc (.cells (eD d a z).toArray t1)) t2
 fresh:=by omega
 apart:=by omega
 old:=⟨h.dlt,h.llt,h.mlt⟩
 tu:=fun b off h0 e=>by
  obtain ⟨b',off',e',h1,_⟩:=hrow h0
  rw [e] at e'
  injection e' with e'
  injection e' with e1
  omega
 below:=((Below.refl _ _).alloc (Nat.le_refl _) _).alloc (by simp) _
theorem xf {n a z:Nat} {f:Nat→Bool} {c:Chg} {r:List Chg} (h1:cG n a z c.no=true) (h2:f c.no.toNat=false):dx n a z f (c::r)=dx n a z (mark f c.no.toNat) r:=by rw [dx,if_pos ⟨h1,h2⟩]
theorem sP {n a z:Nat} {f:Nat→Bool} {c:Chg} {r:List Chg} (h:¬ (cG n a z c.no=true∧f c.no.toNat=false)):dx n a z f (c::r)=false:=by rw [dx,if_neg h]
theorem Bf {w:World} {d l m:Nat} {s:Dk.St} (h:aG w d l m s) (a z:Nat) (ha:a≤1000) (hz:z≤1000) (A:Option Addr) (c:Nat) (cs:List Chg) (hrow:va w A [] cs) (hp:∀ x∈cs,x.aK.length=64) (hl:cs.length≤1000):
  Calls Tryz.prog 239 #[vB d a z,.slice A cs.length c] w fun e w'=>e=.returned (.bool (jh s.last.length a z cs))∧Below w.heap.size w w':=by
 have HS:=Lib.hid (yS a z h hrow 227 278)
 have HP:=Lib.hid hp
 have hsm:=h.ok.small
 clear h hrow hp
 obtain ⟨n,hn⟩:∃ n,cs.length=n:=⟨_,rfl⟩
 have HN:=Lib.hid hn
 rw [hn] at hl ⊢
 clear hn
 unfold vB
 have hz80:=tN
 go_enter Tryz.func239,Tryz.ntmps239
 go_wp2_with fail
 unfold eD at HS
 generalize ((w.alloc (.cells _ 227)).alloc (.cells oO 278))=w1 at HS ⊢
 generalize hrb:w.heap.size=rb at HS ⊢
 go_loopw [10] (fun i wr=>∃ (k:Nat) (f:Nat→Bool),k≤n∧i=.int .i64 k∧Is w d l m s A cs rb a z (rb+1) f wr∧jh s.last.length a z cs=dx s.last.length a z f (cs.drop k)) (fun i _=>n - (intOf i).toNat)
 case atStart=>exact ⟨0,_,Nat.zero_le _,rfl,HS.out,rfl⟩
 case round=>
  obtain ⟨k,f,hk,rfl,hput,hrun⟩:=hrel
  have HI:=Lib.hid hput
  have HR:=Lib.hid hrun
  clear hput hrun HS
  by_cases hlt:k<n
  ·obtain ⟨x,hpk⟩:∃ x,cs[k]?=some x:=⟨_,List.getElem?_eq_getElem (by rw [HN.out];exact hlt)⟩
   obtain ⟨b,off,rfl,hb,_,hc⟩:=HI.out.row (by rw [HN.out];omega)
   have HC:=Lib.hid (hc k x hpk)
   have HPL:=Lib.hid (HP.out x (List.mem_of_getElem? hpk))
   have HE:=Lib.hid (ur cs k x hpk)
   clear hb hc hpk
   have hzc:=vd
   go_wp2_with (first
    | ((with_reducible refine fP HC.out HPL.out rfl (.tmp 12) rfl ?_ ?_);(exact rfl))
    | ((with_reducible refine ej HPL.out rfl (.tmp 7) (.tmp 13) rfl rfl ?_ fi ?_);(exact rfl);intro W2 hP hB2 hz2;have HI2:=Lib.hid (HI.out.call hB2);have HP2:=Lib.hid hP;have hv0:=ni.no hP;clear HI hP hB2 hz2;generalize wr.heap.size=B at HP2 hv0 ⊢)
    | (with_reducible refine fO HI2.out.reg.range rfl (.tmp 2) rfl rfl ?_))
   refine (Cu HI2.out.ew a z ha hz x.no).mono ?_
   rintro e W3 ⟨rfl,hb3⟩
   have HI3:=Lib.hid (HI2.out.call hb3)
   have HP3:=Lib.hid (au.below HP2.out hb3 (au.lt HP2.out))
   have hv3:=ni.no HP3.out
   clear HI2 HP2 hb3 hv0
   by_cases ho:cG s.last.length a z x.no=true
   ·have hoo:0≤x.no∧x.no<(s.last.length:Int)∧(x.no<(a:Int)∨(a:Int)+(z:Int)≤x.no):=of_decide_eq_true ho
    obtain ⟨j,hj⟩:∃ j:Nat,x.no=(j:Int):=⟨x.no.toNat,by omega⟩
    have hj512:j<512:=by omega
    have HT:Hid (x.no.toNat=j):=Lib.hid (by omega)
    have HOT:=Lib.hid ho
    rw [ho]
    clear hoo ho
    rw [hj] at hv3
    have hm3:=HI3.out.marks.cell j hj512
    have hf3:=HI3.out.marks.free j hj512
    clear hj
    cases hfj:f j with
    |
     true=>
     have HRW:Hid (jh s.last.length a z cs=false):=Lib.hid (by rw [HR.out,HE.out,sP (by rw [HT.out,hfj];simp)])
     rw [hfj] at hm3
     go_wp2
     go_ret
     exact ⟨by rw [HRW.out];rfl,HI3.out.below⟩
    |
     false=>
     have HRW:Hid (jh s.last.length a z cs=dx s.last.length a z (mark f j) (cs.drop (k+1))):=Lib.hid (by rw [HR.out,HE.out,xf HOT.out (by rw [HT.out,hfj]),HT.out])
     rw [hfj] at hm3
     go_wp2
     go_roundw
     case rel=>exact ⟨k+1,_,by omega,by go_num,HI3.out.set j hj512,HRW.out⟩
     case measure=>simp [intOf];omega
   ·have HRW:Hid (jh s.last.length a z cs=false):=Lib.hid (by rw [HR.out,HE.out,sP (fun q=>ho q.1)])
    have ho':cG s.last.length a z x.no=false:=by simpa using ho
    rw [ho']
    clear ho ho'
    go_wp2
    go_ret
    exact ⟨by rw [HRW.out];rfl,HI3.out.below⟩
  ·obtain rfl:k=n:=by omega
   have HRW:Hid (jh s.last.length a z cs=true):=Lib.hid (by rw [HR.out,List.drop_of_length_le (by rw [HN.out];omega)];rfl)
   go_wp2_with fail
   go_ret
   exact ⟨by rw [HRW.out];rfl,HI.out.below⟩
end

section
open Go.RowKit
open Dk (av aa)
open Hd (Head aA aM)
open Jn (Chg)
def lyK (cs:List Chg) (k:Nat):List (List UInt8):=((List.range (Jn.nl cs.length)).map fun j=>Jn.lp cs j k)++((cs.take k).map (·.aK)++List.replicate (cs.length - k) av)
theorem zQ (cs:List Chg) (k:Nat) (h:k≤cs.length):(lyK cs k).length=Jn.nl cs.length+cs.length:=by unfold lyK;simp;omega
theorem FZ (cs:List Chg):lyK cs 0=List.replicate (Jn.nl cs.length+cs.length) av:=by
 unfold lyK
 rw [← List.replicate_append_replicate]
 congr 1
 ·rw [List.eq_replicate_iff]
  refine ⟨by simp,fun p hp=>?_⟩
  obtain ⟨j,_,rfl⟩:=List.mem_map.1 hp
  rfl
theorem Jo (cs:List Chg):lyK cs cs.length=Jn.iU cs:=by unfold lyK Jn.iU;simp
theorem Jm (cs:List Chg) (k j:Nat) (hj:j<Jn.nl cs.length):(lyK cs k)[j]?=some (Jn.lp cs j k):=by
 unfold lyK
 rw [List.getElem?_append_left (by simp;exact hj),List.getElem?_map,List.getElem?_range hj];rfl
theorem Ga (cs:List Chg) (k:Nat) (x:Chg) (h:cs[k]?=some x):((lyK cs k).set (k / 32) (Pg.eV (Jn.lp cs (k / 32) k) (((k % 32:Nat):Int)*2) 2 x.no)).set (Jn.nl cs.length+k) x.aK=lyK cs (k+1):=by
 obtain ⟨hk,he⟩:=List.getElem?_eq_some_iff.1 h
 have hx:cs.getD k Jn.Lc=x:=by rw [List.getD_eq_getElem?_getD,h];rfl
 have hj:=Jn.Ld hk
 unfold lyK
 rw [List.set_append_left _ _ (by simp;exact hj),List.set_append_right _ _ (by simp)]
 congr 1
 ·apply List.ext_getElem
  ·simp
  ·intro i h1 h2
   simp only [List.length_set,List.length_map,List.length_range] at h1
   rw [List.getElem_set]
   simp only [List.getElem_map,List.getElem_range]
   rw [Jn.lp,hx]
   by_cases e:k / 32=i
   ·rw [if_pos e,if_pos e,← e]
   ·rw [if_neg e,if_neg e]
 ·have hl:((cs.take k).map (·.aK)).length=k:=by simp;omega
  rw [List.take_succ_eq_append_getElem hk,he,List.map_append,List.set_append_right _ _ (by rw [hl];simp)]
  rw [hl]
  have e:Jn.nl cs.length+k - (List.set ((List.range (Jn.nl cs.length)).map fun j=>Jn.lp cs j k) (k / 32) (Pg.eV (Jn.lp cs (k / 32) k) (((k % 32:Nat):Int)*2) 2 x.no)).length - k=0:=by simp
  rw [e,show cs.length - k=(cs.length - (k+1))+1 by omega,List.replicate_succ,List.set_cons_zero]
  simp
theorem rq (w:World) (f n:Nat) (hn:f+n≤1000):(Instr.makeSlice 81 (.int .i64 ((f:Int)+(n:Int))) (.int .i64 ((f:Int)+(n:Int)))).run Tryz.prog w=.ok (.slice (some ⟨w.heap.size,0,none⟩) (f+n) (f+n)) (w.alloc (.cells (eO (f+n)) 87)):=by
 have h:=gH w (f+n) (by omega)
 rw [show ((f+n:Nat):Int)=(f:Int)+(n:Int) by omega] at h
 exact h
theorem zZ {w:World} (A:Option Addr) (c:Nat) (cs:List Chg) (hrow:va w A [] cs) (hp:∀ x∈cs,x.aK.length=64) (h1:1≤cs.length) (h2:cs.length≤512):
  Calls Tryz.prog 260 #[.slice A cs.length c] w fun e w'=>∃ lb,e=.returned (.slice (some ⟨lb,0,none⟩) (Jn.nl cs.length+cs.length) (Jn.nl cs.length+cs.length))∧bG w' lb (Jn.iU cs)∧w.heap.size≤lb∧lb<w'.heap.size∧Below w.heap.size w w':=by
 have HROW:=Lib.hid hrow
 have HP:=Lib.hid hp
 have HS:=Lib.hid (lO w (Jn.nl cs.length+cs.length) 87)
 rw [← FZ] at HS
 clear hrow hp
 obtain ⟨n,hn⟩:∃ n,cs.length=n:=⟨_,rfl⟩
 have HN:=Lib.hid hn
 rw [hn] at h1 h2 HS ⊢
 clear hn
 have HLS:=Lib.hid (Da n h1 (by omega))
 have hf0:Jn.nl n≤17:=by unfold Jn.nl;omega
 have HFL:Hid (∀ k,k<n→k / 32<Jn.nl n):=Lib.hid (fun k hk=>Jn.Ld hk)
 have HFN:Hid (Jn.nl cs.length=Jn.nl n):=Lib.hid (by rw [HN.out])
 generalize Jn.nl n=f at HLS HS hf0 HFL HFN ⊢
 have hmk:=rq w f n (by omega)
 have HB1:Hid (Below w.heap.size w (w.alloc (.cells (eO (f+n)) 87))):=Lib.hid ((Below.refl _ _).alloc (Nat.le_refl _) _)
 have HLT1:Hid (w.heap.size<(w.alloc (.cells (eO (f+n)) 87)).heap.size):=Lib.hid (by simp)
 go_enter Tryz.func260,Tryz.ntmps260
 go_wp2_with (go_at_call 269;refine (HLS.out _).mono ?_;rintro e w' ⟨rfl,rfl⟩)
 clear hmk HLS
 generalize w.alloc (.cells (eO (f+n)) 87)=w1 at HS HB1 HLT1 ⊢
 generalize hlb:w.heap.size=lb at HS HLT1 ⊢
 have HLB:Hid (w.heap.size≤lb):=Lib.hid (by omega)
 clear hlb
 go_loopw [17] (fun i wr=>∃ (k:Nat),k≤n∧i=.int .i64 k∧bG wr lb (lyK cs k)∧lb<wr.heap.size∧Below w.heap.size w wr) (fun i _=>n - (intOf i).toNat)
 case atStart=>exact ⟨0,Nat.zero_le _,rfl,HS.out,HLT1.out,HB1.out⟩
 case round=>
  obtain ⟨k,hk,rfl,htab,hltb,hbel⟩:=hrel
  have HT:=Lib.hid htab
  have HL:=Lib.hid hbel
  have HLT:=Lib.hid hltb
  clear htab hbel hltb HS HB1 HLT1
  by_cases hlt:k<n
  ·obtain ⟨x,hpk⟩:∃ x,cs[k]?=some x:=⟨_,List.getElem?_eq_getElem (by rw [HN.out];exact hlt)⟩
   obtain ⟨b,off,rfl,hb,_,hc⟩:=(HROW.out.below HL.out) (by rw [HN.out];omega)
   have HC:=Lib.hid (hc k x hpk)
   have HPL:=Lib.hid (HP.out x (List.mem_of_getElem? hpk))
   have HST:=Lib.hid (Ga cs k x hpk)
   have HTL:=Lib.hid (zQ cs k (by rw [HN.out];exact hk))
   have hjf:=HFL.out k hlt
   have HT0:Hid ((lyK cs k)[k / 32]?=some (Jn.lp cs (k / 32) k)):=Lib.hid (Jm cs k _ (by rw [HFN.out];exact hjf))
   have HL0:=Lib.hid (Jn.lk cs (k / 32) k)
   have hm32:=Nat.mod_lt k (show 0<32 by omega)
   have hq1:Int.tdiv (k:Int) 32=((k / 32:Nat):Int):=by rw [Int.tdiv_eq_ediv_of_nonneg (by omega)];omega
   have hq2:Int.tmod (k:Int) 32=((k % 32:Nat):Int):=by rw [Int.tmod_eq_emod_of_nonneg (by omega)];omega
   rw [HFN.out] at HST HTL
   generalize k / 32=j at HST HT0 HL0 hq1 hjf
   generalize k % 32=mm at HST hm32 hq2
   have HSET:=Lib.hid (fun (W:World)=>ek (Jn.lp cs j k) ((mm:Int)*2) 2 x.no W HL0.out (by omega) (by omega))
   have HPS:=Lib.hid (Pg.aP (Jn.lp cs j k) ((mm:Int)*2) 2 x.no HL0.out)
   have HQ1:=Lib.hid hq1
   have HQ2:=Lib.hid hq2
   clear hb hc hpk hq1 hq2
   generalize Jn.lp cs j k=p0 at HST HT0 HL0 HSET HPS
   generalize Pg.eV p0 ((mm:Int)*2) 2 x.no=p1 at HST HSET HPS
   have hzc:=vd
   have HNB:Hid (wr.heap.size≠lb):=Lib.hid (by have:=HLT.out;omega)
   go_wp2_with (first
    | ((with_reducible refine fP HC.out HPL.out rfl (.tmp 20) rfl ?_ ?_);(exact rfl))
    | ((with_reducible refine ej HPL.out rfl (.tmp 6) (.tmp 21) rfl rfl ?_ fi ?_);(exact rfl);intro W2 hP hB2 hz2;have HT2:=Lib.hid ((HT.out.below hB2 HLT.out).block (w':=W2.drew) rfl);have HV2:=Lib.hid (au.drew hP);have HL2:=Lib.hid ((HL.out.trans (hB2.mono HL.out.size)).drew);have HLT2:Hid (lb<W2.drew.heap.size):=Lib.hid (Nat.lt_of_lt_of_le HLT.out hB2.size);have HV0:=Lib.hid (ni.no HV2.out);clear hP hB2 hz2))
   clear HT HL HLT HC
   generalize wr.heap.size=B at HV2 HV0 HNB ⊢
   have hq3:IntKind.i64.wrap ((mm:Int)*2)=(mm:Int)*2:=IntWalk.i64_in _ (by omega)
   have hq4:IntKind.i64.wrap (mm:Int)=(mm:Int):=IntWalk.i64_in _ (by omega)
   have hq0:IntKind.i64.wrap (j:Int)=(j:Int):=IntWalk.i64_in _ (by omega)
   have hq1:=HQ1.out
   have hq2:=HQ2.out
   have hj0:(0:Int)≤(j:Int):=by omega
   have hn1:(j:Int)<(f:Int)+(n:Int):=by omega
   have hn2:j<f+n:=by omega
   refine wp_region_noPanic ?_
   refine wp_region_held_drew (S:=fun W=>W.cell? ⟨B,0,none⟩=some (.int .i64 x.no)) (by kernel_rfl) HV0.out (fun hHeld=>?_)
   generalize W2.drew=W3 at HT2 HL2 HV2 HLT2 hHeld ⊢
   refine aF (i:=0) (d:=some 22) (v:=.slice (some ⟨lb,0,none⟩) (f+n) (f+n)) rfl rfl (by kernel_rfl) (by kernel_rfl) (by kernel_rfl) (fun _ _ _ h=>h) (Or.inl ⟨by kernel_rfl,?_⟩) hHeld ?_
   ·intro w hSw;go_simp
   (try simp only [Act.put,puA,puB,puC])
   refine aF (i:=1) (d:=some 23) (v:=.int .i64 (k:Int)) rfl rfl (by kernel_rfl) (by kernel_rfl) (by kernel_rfl) (fun _ _ _ h=>h) (Or.inl ⟨by kernel_rfl,?_⟩) hHeld ?_
   ·intro w hSw;go_simp
   (try simp only [Act.put,puA,puB,puC])
   refine aF (i:=2) (d:=some 24) (v:=.int .i64 (j:Int)) rfl rfl (by kernel_rfl) (by kernel_rfl) (by kernel_rfl) (fun _ _ _ h=>h) (Or.inl ⟨by kernel_rfl,?_⟩) hHeld ?_
   ·intro w hSw;go_simp
   (try simp only [Act.put,puA,puB,puC])
   refine aF (i:=3) (d:=some 25) (v:=.slice (some ⟨lb,0,none⟩) (f+n) (f+n)) rfl rfl (by kernel_rfl) (by kernel_rfl) (by kernel_rfl) (fun _ _ _ h=>h) (Or.inl ⟨by kernel_rfl,?_⟩) hHeld ?_
   ·intro w hSw;go_simp
   (try simp only [Act.put,puA,puB,puC])
   refine aF (i:=4) (d:=some 26) (v:=.int .i64 (k:Int)) rfl rfl (by kernel_rfl) (by kernel_rfl) (by kernel_rfl) (fun _ _ _ h=>h) (Or.inl ⟨by kernel_rfl,?_⟩) hHeld ?_
   ·intro w hSw;go_simp
   (try simp only [Act.put,puA,puB,puC])
   refine aF (i:=5) (d:=some 27) (v:=.int .i64 (j:Int)) rfl rfl (by kernel_rfl) (by kernel_rfl) (by kernel_rfl) (fun _ _ _ h=>h) (Or.inl ⟨by kernel_rfl,?_⟩) hHeld ?_
   ·intro w hSw;go_simp
   (try simp only [Act.put,puA,puB,puC])
   refine aF (i:=6) (d:=some 28) (v:=.pointer (some ⟨lb,j*64,none⟩)) rfl rfl (by kernel_rfl) (by kernel_rfl) (by kernel_rfl) (fun _ _ _ h=>h) (Or.inl ⟨by kernel_rfl,?_⟩) hHeld ?_
   ·intro w hSw;go_simp
   (try simp only [Act.put,puA,puB,puC])
   refine aF (i:=8) (d:=some 30) (v:=.int .i64 (k:Int)) rfl rfl (by kernel_rfl) (by kernel_rfl) (by kernel_rfl) (fun _ _ _ h=>h) (Or.inl ⟨by kernel_rfl,?_⟩) hHeld ?_
   ·intro w hSw;go_simp
   (try simp only [Act.put,puA,puB,puC])
   refine aF (i:=9) (d:=some 31) (v:=.int .i64 (mm:Int)) rfl rfl (by kernel_rfl) (by kernel_rfl) (by kernel_rfl) (fun _ _ _ h=>h) (Or.inl ⟨by kernel_rfl,?_⟩) hHeld ?_
   ·intro w hSw;go_simp
   (try simp only [Act.put,puA,puB,puC])
   refine aF (i:=10) (d:=some 32) (v:=.int .i64 ((mm:Int)*2)) rfl rfl (by kernel_rfl) (by kernel_rfl) (by kernel_rfl) (fun _ _ _ h=>h) (Or.inl ⟨by kernel_rfl,?_⟩) hHeld ?_
   ·intro w hSw;go_simp
   (try simp only [Act.put,puA,puB,puC])
   refine aF (i:=11) (d:=some 33) (v:=.pointer (some ⟨B,0,none⟩)) rfl rfl (by kernel_rfl) (by kernel_rfl) (by kernel_rfl) (fun _ _ _ h=>h) (Or.inl ⟨by kernel_rfl,?_⟩) hHeld ?_
   ·intro w hSw;go_simp
   (try simp only [Act.put,puA,puB,puC])
   refine aF (i:=12) (d:=some 34) (v:=.int .i64 x.no) rfl rfl (by kernel_rfl) (by kernel_rfl) (by kernel_rfl) (fun _ _ _ h=>h) (Or.inl ⟨by kernel_rfl,?_⟩) hHeld ?_
   ·intro w hSw;go_simp
   (try simp only [Act.put,puA,puB,puC])
   refine sr (i:=7) HT2.out j HT0.out (by kernel_rfl) rfl (by kernel_rfl) (.tmp 28) rfl rfl (some 29) rfl hHeld ?_
   (try simp only [Act.put,puA,puB,puC])
   refine wpAnyH_ready (rs:=[13]) (by kernel_rfl) (by simp) ?_
   refine AllReadyH.cons rfl (fun K hK=>?_) AllReadyH.nil
   go_simp
   (go_at_call 195;refine (HSET.out _).mono ?_;rintro e W4 ⟨rfl,hB4⟩;have HT4:=Lib.hid (HT2.out.below hB4 HLT2.out);have HL4:=Lib.hid (HL2.out.trans (hB4.mono HL2.out.size));have HV4:=Lib.hid (au.below HV2.out hB4 (au.lt HV2.out));have HLT4:Hid (lb<W4.heap.size):=Lib.hid (Nat.lt_of_lt_of_le HLT2.out hB4.size))
   (try go_wp2_with fail)
   refine hK.out _ _ (ni.no HV4.out) (fun hHeld=>?_)
   clear hK K
   (try simp only [Act.put,puA,puB,puC])
   refine aF (i:=14) (d:=some 36) (v:=.pointer (some ⟨lb,j*64,none⟩)) rfl rfl (by kernel_rfl) (by kernel_rfl) (by kernel_rfl) (fun _ _ _ h=>h) (Or.inl ⟨by kernel_rfl,?_⟩) hHeld ?_
   ·intro w hSw;go_simp
   (try simp only [Act.put,puA,puB,puC])
   refine pR (i:=15) HT4.out j (by rw [HTL.out,HN.out];omega) HPS.out (by kernel_rfl) rfl (by kernel_rfl) (.tmp 36) (.tmp 35) rfl rfl rfl none rfl ((cx (W:=W4) lb ⟨B,0,none⟩ HNB.out _ _ _).trans hHeld) ?_
   (try simp only [Act.put])
   refine wpAnyH_done (by kernel_rfl) ?_ _
   refine NoPanic.normal ?_
   have HT5:=Lib.hid (HT4.out.put j (by rw [HTL.out,HN.out];omega) p1 HPS.out)
   have HV5:=Lib.hid (au.bl HV4.out lb (j*64) (ab p1) HNB.out)
   have HL5:Hid (Below w.heap.size w (W4.setCells lb (j*64) (ab p1))):=Lib.hid (below_setCells _ HLB.out _ _ _ HL4.out)
   have HLT5:Hid (lb<(W4.setCells lb (j*64) (ab p1)).heap.size):=Lib.hid (by rw [bC];exact HLT4.out)
   clear hq0 hq1 hq2 hq3 hq4 HT4 HV4 HL4 HLT4 HT2 HV2 HL2 HLT2 HV0 hHeld hB4
   generalize W4.setCells lb (j*64) (ab p1)=W5 at HT5 HV5 HL5 HLT5 ⊢
   have HVP:=Lib.hid (ni.aK HV5.out)
   have HI:Hid (f+k<((lyK cs k).set j p1).length):=Lib.hid (by rw [List.length_set,HTL.out,HN.out];omega)
   have hkn:(f:Int)+(k:Int)<(f:Int)+(n:Int):=by omega
   have hk0:(0:Int)≤(f:Int)+(k:Int):=by omega
   have hkt:((f:Int)+(k:Int)).toNat=f+k:=by omega
   go_wp2_with (first
    | ((with_reducible refine ec HVP.out HPL.out rfl (.tmp 41) rfl ?_ ?_);(exact rfl))
    | ((with_reducible refine wpList_store_row HT5.out (f+k) HI.out HPL.out rfl (.tmp 43) (.tmp 42) rfl ?_ ?_ ?_);(exact rfl);(exact rfl)))
   have HT6:=Lib.hid (HT5.out.put (f+k) HI.out x.aK HPL.out)
   rw [HST.out] at HT6
   have HL6:Hid (Below w.heap.size w (W5.setCells lb ((f+k)*64) (ab x.aK))):=Lib.hid (below_setCells _ HLB.out _ _ _ HL5.out)
   have HLT6:Hid (lb<(W5.setCells lb ((f+k)*64) (ab x.aK)).heap.size):=Lib.hid (by rw [bC];exact HLT5.out)
   go_roundw
   case rel=>exact ⟨k+1,by omega,by go_num,HT6.out,HLT6.out,HL6.out⟩
   case measure=>simp [intOf];omega
  ·obtain rfl:k=n:=by omega
   have HA:Hid (lyK cs k=Jn.iU cs):=Lib.hid (by rw [← HN.out];exact Jo cs)
   rw [HA.out] at HT
   go_wp2_with fail
   go_ret
   exact ⟨lb,rfl,HT.out,HLB.out,HLT.out,HL.out⟩
end

section
open Go.RowKit
open Dk (av aa)
open Hd (Head aA aM)
open Jn (Chg)
def je (n:Nat):Array Value:=madeCells (Value.agg jG).cells (n*65)
theorem sf:(Tryz.prog.info? 256).map (fun i=>(i.zero,i.size,i.bytes))=some (some (.agg jG),65,72):=by kernel_rfl
theorem sC (n:Nat):(je n).size=n*65:=by unfold je madeCells;simp
end

section
open Go.RowKit
open Dk (av aa)
open Hd (Head aA aM)
open Jn (Chg)
theorem Eb (parts:List (Nat × Value)):Tryz.prog.built 256 parts=Instr.fill (#[((0:Nat),(1:Nat)),(1,64)][·]?) jG parts:=by kernel_rfl
theorem GD (z:Array Value) (v:Value) (q:Array Value) (hv:v.cells=#[v]) (hq:q.size=64) (hz:z.size=65):
  Instr.fill (#[((0:Nat),(1:Nat)),(1,64)][·]?) z [(0,v),(1,.agg q)]=some (v::q.toList).toArray:=by
 have hc:(Value.agg q).cells=q:=rfl
 obtain ⟨g1,g2⟩:=Great.foldl_set 0 [v] 0 z
 obtain ⟨k1,k2⟩:=Great.foldl_set 1 q.toList 0 (([v].zipIdx 0).foldl (fun cs (x:Value × Nat)=>cs.setIfInBounds (0+x.2) x.1) z)
 rw [g1,hz] at k1
 unfold Instr.fill
 show (if v.cells.size≠1 || 0+v.cells.size > z.size then none else _)=_
 rw [if_neg (by rw [hv,hz];simp)]
 unfold Instr.fill
 show (if (Value.agg q).cells.size≠64 || 1+(Value.agg q).cells.size > _ then none else _)=_
 have hsz:(v.cells.zipIdx.foldl (fun cs (x:Value × Nat)=>cs.setIfInBounds (0+x.2) x.1) z).size=65:=by
  rw [← Array.foldl_toList,Array.toList_zipIdx,hv]
  rw [← hz];exact g1
 rw [if_neg (by rw [hc,hq,hsz];simp)]
 unfold Instr.fill
 congr 1
 apply Array.ext_getElem?
 intro k
 have e:(Array.foldl (fun cs (x:Value × Nat)=>cs.setIfInBounds (1+x.2) x.1) (Array.foldl (fun cs (x:Value × Nat)=>cs.setIfInBounds (0+x.2) x.1) z v.cells.zipIdx) (Value.agg q).cells.zipIdx)
   = (q.toList.zipIdx 0).foldl (fun cs (x:Value × Nat)=>cs.setIfInBounds (1+x.2) x.1) (([v].zipIdx 0).foldl (fun cs (x:Value × Nat)=>cs.setIfInBounds (0+x.2) x.1) z):=by
  rw [hc,hv,← Array.foldl_toList,Array.toList_zipIdx,← Array.foldl_toList (xs:=#[v].zipIdx),Array.toList_zipIdx]
 refine (congrArg (·[k]?) e).trans ?_
 have e2:((v::q.toList).toArray)[k]?=(v::q.toList)[k]?:=by simp
 rw [e2]
 show ((q.toList.zipIdx 0).foldl _ _)[k]?=_
 rw [k2 k,g2 k,g1,hz,Array.length_toList,hq]
 by_cases h0:k=0
 ·subst h0
  rw [if_neg (by omega),if_pos (by simp)];rfl
 ·obtain ⟨j,rfl⟩:∃ j,k=j+1:=⟨k - 1,by omega⟩
  rw [List.getElem?_cons_succ]
  by_cases hj:j<64
  ·rw [if_pos (by omega)]
   congr 1
  ·rw [if_neg (by omega),if_neg (by simp),Array.getElem?_eq_none (by omega),List.getElem?_eq_none (by rw [Array.length_toList];omega)]
theorem Ee (v:Int) (p:List UInt8) (hp:p.length=64):Tryz.prog.built 256 [(0,.int .i64 v),(1,an p)]=some (bO ⟨v,p⟩).toArray:=by
 rw [Eb]
 unfold an
 rw [GD jG _ _ rfl (by rw [List.size_toArray,aj,hp]) fi]
 rfl
theorem nH {ops:Array Oper} {rest:List Oper} {o:Oper} {a:Act} {w:World} {Q:Exit→Act→World→Prop} (v:Int) (p:List UInt8) (hp:p.length=64) (hg:o.guard=none) (x y:Operand) (ho:o.op=.build 256 #[(0,x),(1,y)]) (d:Option Tmp) (hd:o.dst=d) (hx:a.eval x=.int .i64 v) (hy:a.eval y=an p)
  (h:wpList Tryz.prog ops Q rest (a.put d (Iq ⟨v,p⟩)) w):wpList Tryz.prog ops Q (o::rest) a w:=
 wpList_buildTo hg 256 _ ho d hd (bO ⟨v,p⟩).toArray (by
  simp only [List.map_toArray,List.map_cons,List.map_nil,hx,hy]
  exact Ee v p hp) h
theorem Ch:∃ i z,Tryz.prog.info? 87=some i∧i.zero=some z∧i.size=64∧i.bytes=64∧z.cells.size=64:=by
 have h1:=aY
 have h2:(Tryz.prog.info? 87).map (·.bytes)=some 64:=by kernel_rfl
 have h3:((Tryz.prog.info? 87).bind (·.zero)).map (·.cells.size)=some 64:=by kernel_rfl
 cases h:Tryz.prog.info? 87 with
 | none=>rw [h] at h1;cases h1
 |
  some i=>
  rw [h] at h1 h2 h3
  cases hz:i.zero with
  | none=>simp [hz] at h3
  |
   some z=>
   simp [hz] at h1 h2 h3
   exact ⟨i,z,rfl,hz,h1,h2,h3⟩
theorem ry (w:World) (p:List UInt8) (hp:p.length=64):(Instr.buildSlice 81 1 #[(0,an p)]).run Tryz.prog w=.ok (.slice (some ⟨w.heap.size,0,none⟩) 1 1) (w.alloc (.cells (ab p).toArray 87)):=by
 obtain ⟨i,z,hi,hz,hs,_,_⟩:=Ch
 refine run_buildSlice w 81 87 1 #[(0,an p)] _ i z Tryz.underlying81 hi hz (by rw [hs];omega) (by rw [hs];omega) ?_
 rw [hs]
 have h:=Great.fill_whole (s:=64) (by omega) [an p] ((Array.range (1*64)).map (z.cells[· % z.cells.size]!)) (fun v hv=>by
  rw [List.mem_singleton] at hv
  rw [hv]
  show (ab p).toArray.size=64
  rw [List.size_toArray,aj,hp]) (by simp)
 refine h.trans ?_
 congr 1
 show ([an p].flatMap fun v=>v.cells.toList).toArray=_
 simp [an,Value.cells]
theorem mx {o:Oper} {a:Act} {w:World} {K:Act→World→Prop} {Q:Exit→Act→World→Prop} {p:List UInt8} (hp:p.length=64) (x:Operand) (ho:o.op=.buildSlice 81 1 #[(0,x)]) (hx:a.eval x=an p)
  (h:K (a.put o.dst (.slice (some ⟨w.heap.size,0,none⟩) 1 1)) (w.alloc (.cells (ab p).toArray 87))):o.wp Tryz.prog a w K Q:=by
 have hr:=ry w p hp
 unfold Oper.wp execOp
 simp only [ho,List.map_toArray,List.map_cons,List.map_nil,hx,Sem.run_bind,hr,Result.andThen_ok]
 exact h
theorem iP {ops:Array Oper} {rest:List Oper} {o:Oper} {a:Act} {w:World} {Q:Exit→Act→World→Prop} {p:List UInt8} (hp:p.length=64) (hgd:o.guard=none) (x:Operand) (ho:o.op=.buildSlice 81 1 #[(0,x)]) (hx:a.eval x=an p)
  (h:wpList Tryz.prog ops Q rest (a.put o.dst (.slice (some ⟨w.heap.size,0,none⟩) 1 1)) (w.alloc (.cells (ab p).toArray 87))):wpList Tryz.prog ops Q (o::rest) a w:=
 wpList_plain hgd fun _ hK=>mx hp x ho hx (hK _ _ h)
theorem kU (w:World) (p:List UInt8) (hp:p.length=64) (t:TypeId):bG (w.alloc (.cells (ab p).toArray t)) w.heap.size [p] where
 size:=fun q hq=>by rw [List.mem_singleton] at hq;rw [hq];exact hp
 range:=fun i q hq=>by
  match i,hq with
  |
   0,hq=>
   injection hq with hq
   rw [← hq]
   exact (bF w p t hp).range
 free:=(bF w p t hp).free
theorem pS {ops:Array Oper} {Q:Exit→Act→World→Prop} {md:Region.Mode} {S:World→Prop} {i:Nat} {oi:Oper} {fuel:Nat} {listed:Array Bool} {a:Act} {w:World} {p:List UInt8} (hp:p.length=64)
  (hr:Region.ready md ops listed=[i]) (hi:ops[i]?=some oi) (hw:Region.wanted oi (yielded ops a.tmps)=true) (x:Operand) (ho:oi.op=.buildSlice 81 1 #[(0,x)]) (hx:a.eval x=an p) (d:Option Tmp) (hd:oi.dst=d)
  (hS:S (w.alloc (.cells (ab p).toArray 87)))
  (hK:S (w.alloc (.cells (ab p).toArray 87))→wpAnyH Tryz.prog md ops Q S fuel (listed.setIfInBounds i true) (a.put d (.slice (some ⟨w.heap.size,0,none⟩) 1 1)) (w.alloc (.cells (ab p).toArray 87))):wpAnyH Tryz.prog md ops Q S (fuel+1) listed a w:=
 sq hr hi hw fun _ hK'=>mx hp x ho hx (hK' _ _ hS (hd ▸ hK hS))
end

section
open Go.RowKit
open Dk (av aa)
open Hd (Head aA aM)
open Jn (Chg)
end

section
open Go.RowKit
open Dk (av aa)
open Hd (Head aA aM)
open Jn (Chg)
section
variable {ops:Array Oper} {S:World→Prop}
theorem pW {oi:Oper} {a:Act} {b d g z:Nat} (hw:Region.wanted oi (yielded ops a.tmps)=true) (x:Operand) (ho:oi.op=.load 227 x) (hx:a.eval x=.pointer (some ⟨b,0,none⟩)) (hS:∀ w,S w→w.rangeAt b 0 (eD d g z)):
  YieldsIf Tryz.prog ops S oi (vB d g z) a:=
 yieldsIf_load_mid hw 227 x ho b 0 hx (eD d g z) _ hS Tryz.underlying227 rfl xw
end
end

section
open Go.RowKit
open Dk (av aa)
open Hd (Head aA aM)
open Jn (Chg)
theorem sc {w:World} {j d l m a z:Nat} {q:Int} {o:Bool} {s:Dk.St} (hj:JAt w j d a z q o) (h:aG w d l m s) (hjd:j∉[d,l,m]) (ha:a≤900) (hd:Head) (hr:aA hd=true) (hs0:0≤hd.sum) (hs1:hd.sum<4294967296):
  Calls Tryz.prog 245 #[.pointer (some ⟨j,0,none⟩),dC hd] w fun e w'=>e=.returned (.int .i64 (Jn.cj s [⟨(a:Int),aM hd⟩]).2)∧aG w' d l m (Jn.cj s [⟨(a:Int),aM hd⟩]).1∧JAt w' j d a z hd.seq o∧aB [d,l,m,j] w w':=by
 have HE:=Lib.hid (fun (w:World)=>mc hd w hr hs0 hs1)
 have HPL:=Lib.hid (Hd.cP hd)
 generalize aM hd=pg at HE HPL ⊢
 have HJ:=Lib.hid (hj.below (w':=w.alloc (.cells (ca hd).toArray 259)) ((Below.refl _ _).alloc (Nat.le_refl _) _))
 have HD:=Lib.hid (h.alloc (.cells (ca hd).toArray 259))
 have HH:=Lib.hid (lZ w hd 259)
 have HO:Hid (aB [d,l,m,j] w (w.alloc (.cells (ca hd).toArray 259))):=Lib.hid ((aB.refl _ _).alloc _)
 have HJD:=Lib.hid hjd
 have HBJ:Hid (w.heap.size≠j):=Lib.hid (by have:=hj.lt;omega)
 have HJL:=Lib.hid hj.lt
 have HBD:Hid (d<w.heap.size∧l<w.heap.size∧m<w.heap.size):=Lib.hid ⟨h.dlt,h.llt,h.mlt⟩
 clear hj h hr hs0 hs1 hjd
 obtain ⟨hq,hlv,hct,hsm⟩:=hd
 obtain ⟨hd,hhd⟩:∃ hd:Head,hd=⟨hq,hlv,hct,hsm⟩:=⟨_,rfl⟩
 have hhv:dC hd=.agg #[.int .i64 hq,.bool hlv,.int .i64 hct,.int .u32 hsm]:=by rw [hhd];rfl
 have hhw:(ca hd).toArray=#[.int .i64 hq,.bool hlv,.int .i64 hct,.int .u32 hsm]:=by rw [hhd];rfl
 rw [← hhd] at HE HJ HD HH HO ⊢
 rw [hhw] at HJ HD HH HO
 rw [hhv]
 clear hhv hhw hhd
 go_enter Tryz.func245,Tryz.ntmps245
 go_wp2_with (with_reducible refine cb gZ HH.out rfl (.tmp 3) rfl rfl ?_)
 generalize w.alloc (.cells _ 259)=w1 at HJ HD HH HO ⊢
 have HBO:Hid (∀ x,w.heap.size≤x→x∉[d,l,m,j]):=Lib.hid (fun x hx=>by have:=HBD.out;have:=HJL.out;simp;omega)
 generalize w.heap.size=B at HH HBJ HBO ⊢
 refine (HE.out _).mono ?_
 rintro e w2 ⟨rfl,hB2⟩
 have HJ2:=Lib.hid (HJ.out.below hB2)
 have HD2:=Lib.hid (HD.out.below hB2)
 have HH2:=Lib.hid (HH.out.below hB2 HH.out.lt)
 have HO2:=Lib.hid (HO.out.oH hB2)
 clear HJ HD HH HO hB2 HE
 go_wp2_with ((with_reducible refine aq rfl (.tmp 5) (.tmp 10) rfl rfl ?_ ?_ HPL.out ?_);(exact rfl);(exact rfl);intro w3 hP hB3 hz3;have HJ3:=Lib.hid (HJ2.out.below hB3);have HD3:=Lib.hid (HD2.out.below hB3);have HH3:=Lib.hid (HH2.out.below hB3 HH2.out.lt);have HO3:=Lib.hid (HO2.out.oH hB3);have HP3:=Lib.hid hP;have HC:Hid (w2.heap.size∉[d,l,m]∧w2.heap.size≠j):=Lib.hid (by have:=HD2.out.dlt;have:=HD2.out.llt;have:=HD2.out.mlt;have:=HJ2.out.lt;simp;omega);have g0:=HH3.out.c0;have j3:=HJ3.out.c3;have j4:=HJ3.out.f 3 (by omega);clear HJ2 HD2 HH2 HO2 hP hB3 hz3;generalize w2.heap.size=C at HP3 HC ⊢)
 have HJ5:=Lib.hid (HJ3.out.KG hd.seq)
 have HD5:=Lib.hid (HD3.out.only (L:=[j]) ((aB.refl [j] w3).setCell (p:=⟨j,3,none⟩) (by simp) (.int .i64 hd.seq)) (fun e=>HJD.out (by simp at e ⊢;omega)) (fun e=>HJD.out (by simp at e ⊢;omega)) (fun e=>HJD.out (by simp at e ⊢;omega)))
 have HP5:=Lib.hid (HP3.out.kR j 3 (.int .i64 hd.seq) HC.out.2)
 have HO5:Hid (aB [d,l,m,j] w (w3.setCell ⟨j,3,none⟩ (.int .i64 hd.seq))):=Lib.hid (HO3.out.setCell (by simp) _)
 have HCD:Hid (C∉[d,l,m]):=Lib.hid HC.out.1
 clear HJ3 HD3 HP3 HO3 HH3 g0 j3 j4 HC
 generalize w3.setCell ⟨j,3,none⟩ (.int .i64 hd.seq)=w5 at HJ5 HD5 HP5 HO5 ⊢
 refine wp_region_noPanic ?_
 refine wp_region_held_drew (S:=fun W=>JAt W j d a z hd.seq o∧aD W C pg) (by kernel_rfl) ⟨HJ5.out.below (Below.refl _ _).drew,HP5.out.drew⟩ (fun hHeld=>?_)
 have HJ6:=Lib.hid (HJ5.out.below (Below.refl _ _).drew)
 have HP6:=Lib.hid HP5.out.drew
 have HD6:=Lib.hid HD5.out.drew
 have HO6:=Lib.hid HO5.out.drew
 clear HJ5 HP5 HD5 HO5
 generalize w5.drew=w6 at HJ6 HP6 HD6 HO6 hHeld ⊢
 refine aF (i:=0) (d:=some 19) (v:=.pointer (some ⟨j,0,none⟩)) rfl rfl (by kernel_rfl) (by kernel_rfl) (by kernel_rfl) (fun _ _ _ h=>h) (Or.inl ⟨by kernel_rfl,?_⟩) hHeld ?_
 ·intro w hSw;have c1:=hSw.1.c1;go_simp
 (try simp only [Act.put,puA,puB,puC])
 refine aF (i:=1) (d:=some 20) (v:=.pointer (some ⟨j,0,none⟩)) rfl rfl (by kernel_rfl) (by kernel_rfl) (by kernel_rfl) (fun _ _ _ h=>h) (Or.inl ⟨by kernel_rfl,?_⟩) hHeld ?_
 ·intro w hSw;have c1:=hSw.1.c1;go_simp
 (try simp only [Act.put,puA,puB,puC])
 refine aF (i:=2) (d:=some 21) (v:=.pointer (some ⟨j,0,none⟩)) rfl rfl (by kernel_rfl) (by kernel_rfl) (by kernel_rfl) (fun _ _ _ h=>h) (Or.inl ⟨by kernel_rfl,?_⟩) hHeld ?_
 ·intro w hSw;have c1:=hSw.1.c1;go_simp
 (try simp only [Act.put,puA,puB,puC])
 refine aF (i:=3) (d:=some 22) (v:=vB d a z) rfl rfl (by kernel_rfl) (by kernel_rfl) (by kernel_rfl) (fun _ _ _ h=>h) (pW (by kernel_rfl) (.tmp 21) rfl rfl (fun _ hSw=>hSw.1.reg)) hHeld ?_
 (try simp only [Act.put,puA,puB,puC])
 refine aF (i:=4) (d:=some 23) (v:=.pointer (some ⟨j,0,none⟩)) rfl rfl (by kernel_rfl) (by kernel_rfl) (by kernel_rfl) (fun _ _ _ h=>h) (Or.inl ⟨by kernel_rfl,?_⟩) hHeld ?_
 ·intro w hSw;have c1:=hSw.1.c1;go_simp
 (try simp only [Act.put,puA,puB,puC])
 refine aF (i:=5) (d:=some 24) (v:=.pointer (some ⟨j,0,none⟩)) rfl rfl (by kernel_rfl) (by kernel_rfl) (by kernel_rfl) (fun _ _ _ h=>h) (Or.inl ⟨by kernel_rfl,?_⟩) hHeld ?_
 ·intro w hSw;have c1:=hSw.1.c1;go_simp
 (try simp only [Act.put,puA,puB,puC])
 refine aF (i:=6) (d:=some 25) (v:=.pointer (some ⟨j,0,none⟩)) rfl rfl (by kernel_rfl) (by kernel_rfl) (by kernel_rfl) (fun _ _ _ h=>h) (Or.inl ⟨by kernel_rfl,?_⟩) hHeld ?_
 ·intro w hSw;have c1:=hSw.1.c1;go_simp
 (try simp only [Act.put,puA,puB,puC])
 refine aF (i:=7) (d:=some 26) (v:=.pointer (some ⟨j,1,none⟩)) rfl rfl (by kernel_rfl) (by kernel_rfl) (by kernel_rfl) (fun _ _ _ h=>h) (Or.inl ⟨by kernel_rfl,?_⟩) hHeld ?_
 ·intro w hSw;have c1:=hSw.1.c1;go_simp
 (try simp only [Act.put,puA,puB,puC])
 refine aF (i:=8) (d:=some 27) (v:=.int .i64 (a:Int)) rfl rfl (by kernel_rfl) (by kernel_rfl) (by kernel_rfl) (fun _ _ _ h=>h) (Or.inl ⟨by kernel_rfl,?_⟩) hHeld ?_
 ·intro w hSw;have c1:=hSw.1.c1;go_simp
 (try simp only [Act.put,puA,puB,puC])
 refine aF (i:=9) (d:=some 28) (v:=an pg) rfl rfl (by kernel_rfl) (by kernel_rfl) (by kernel_rfl) (fun _ _ _ h=>h) (ve (by kernel_rfl) (.tmp 5) rfl rfl HPL.out (fun _ hSw=>hSw.2.range)) hHeld ?_
 (try simp only [Act.put,puA,puB,puC])
 refine pS (i:=10) HPL.out (by kernel_rfl) rfl (by kernel_rfl) (.tmp 28) rfl rfl (some 29) rfl ⟨hHeld.1.below ((Below.refl _ _).alloc (Nat.le_refl _) _),hHeld.2.alloc _⟩ (fun hHeld=>?_)
 (try simp only [Act.put,puA,puB,puC])
 have HD7:=Lib.hid (HD6.out.alloc (.cells (ab pg).toArray 87))
 have HO7:Hid (aB [d,l,m,j] w (w6.alloc (.cells (ab pg).toArray 87))):=Lib.hid (HO6.out.alloc _)
 have HR7:Hid (Ko (w6.alloc (.cells (ab pg).toArray 87)) (some ⟨w6.heap.size,0,none⟩) [d,l,m] [pg]):=Lib.hid ((kU w6 pg HPL.out 87).slice (by have:=HD6.out.dlt;have:=HD6.out.llt;have:=HD6.out.mlt;simp;omega))
 generalize (w6.alloc (.cells (ab pg).toArray 87))=w7 at HD7 HO7 HR7 hHeld ⊢
 have HPT:Hid (Calls Tryz.prog 261 #[vB d a z,.int .i64 (a:Int),.slice (some ⟨w6.heap.size,0,none⟩) 1 1] w7 fun e w'=>e=.returned (.int .i64 (Jn.cj s [⟨(a:Int),pg⟩]).2)∧aG w' d l m (Jn.cj s [⟨(a:Int),pg⟩]).1∧aB [d,l,m] w7 w'):=Lib.hid (BZ HD7.out a a z _ 1 [pg] HR7.out (fun p hp=>by rw [List.mem_singleton] at hp;rw [hp];exact HPL.out) (by simp) (by omega))
 generalize w6.heap.size=LB at HPT ⊢
 refine wpAnyH_ready (rs:=[11]) (by kernel_rfl) (by simp) ?_
 refine AllReadyH.cons rfl (fun K hK=>?_) AllReadyH.nil
 go_simp
 (go_at_call 261;refine HPT.out.mono ?_;rintro e w8 ⟨rfl,hd8,ho8⟩;have HJ8:=Lib.hid (hHeld.1.only ho8 HJD.out);have HP8:=Lib.hid (hHeld.2.block (ho8.block C hHeld.2.lt HCD.out));have HD8:=Lib.hid hd8;have HO8:Hid (aB [d,l,m,j] w w8):=Lib.hid (HO7.out.trans (ho8.mono (by simp)));clear hd8 ho8)
 (try go_wp2_with fail)
 refine hK.out _ _ ⟨HJ8.out,HP8.out⟩ (fun hHeld=>?_)
 clear hK K
 (try simp only [Act.put,puA,puB,puC])
 refine aF (i:=12) (d:=some 4) (v:=.int .i64 (Jn.cj s [⟨(a:Int),pg⟩]).2) rfl rfl (by kernel_rfl) (by kernel_rfl) (by kernel_rfl) (fun _ _ _ h=>h) (Or.inl ⟨by kernel_rfl,?_⟩) hHeld ?_
 ·intro w hSw;have c1:=hSw.1.c1;go_simp
 (try simp only [Act.put,puA,puB,puC])
 refine wpAnyH_done (by kernel_rfl) ?_ _
 refine NoPanic.normal ?_
 go_wp2_with fail
 go_ret
 exact ⟨rfl,HD8.out,HJ8.out,HO8.out⟩
end

section
open Go.RowKit
open Dk (av aa)
open Hd (Head aA aM)
open Jn (Chg bk fy)
structure ED (w:World) (j d l m:Nat) (s:Dk.St) (a z:Nat) (q:Int) (o:Bool) (W:World):Prop where
 ew:aG W d l m s
 jr:JAt W j d a z q o
 below:Below w.heap.size w W
theorem ED.call {w:World} {j d l m:Nat} {s:Dk.St} {a z:Nat} {q:Int} {o:Bool} {W W':World} (h:ED w j d l m s a z q o W) (hb:Below W.heap.size W W'):ED w j d l m s a z q o W':=
 ⟨h.ew.below hb,h.jr.below hb,h.below.trans (hb.mono h.below.size)⟩
def BgS (w:World) (j d l m:Nat) (s:Dk.St) (a z:Nat) (q:Int) (o:Bool) (p:List UInt8) (st:Option (Nat × Bool)) (W:World):Prop:=
 ED w j d l m s a z q o W∧match st with
  | none=>True
  | some (C,b)=>w.heap.size≤C∧aD W C (if b=true then p else av)
theorem ED.MH {w:World} {j d l m:Nat} {s:Dk.St} {a z:Nat} {q:Int} {o:Bool} {W:World} (h:ED w j d l m s a z q o W) (hj:j<w.heap.size) (hd:d<w.heap.size∧l<w.heap.size∧m<w.heap.size) (C:Nat) (hC:w.heap.size≤C) (vs:List Value):ED w j d l m s a z q o (W.setCells C 0 vs):=by
 have ho:aB [C] W (W.setCells C 0 vs):=aB.setCells C (by simp) _ _ _ (aB.refl _ _)
 exact ⟨h.ew.only ho (by simp;omega) (by simp;omega) (by simp;omega),h.jr.only ho (by simp;omega),below_setCells _ hC _ _ _ h.below⟩
theorem BgS.call {w:World} {j d l m:Nat} {s:Dk.St} {a z:Nat} {q:Int} {o:Bool} {p:List UInt8} {st:Option (Nat × Bool)} {W W':World} (k:BgS w j d l m s a z q o p st W) (hb:Below W.heap.size W W'):BgS w j d l m s a z q o p st W':=by
 refine ⟨k.1.call hb,?_⟩
 match st,k with
 | none,_=>trivial
 | some (C,b),k=>exact ⟨k.2.1,k.2.2.below hb k.2.2.lt⟩
theorem BgS.alloc {w:World} {j d l m:Nat} {s:Dk.St} {a z:Nat} {q:Int} {o:Bool} {p:List UInt8} {W:World} (k:ED w j d l m s a z q o W):BgS w j d l m s a z q o p (some (W.heap.size,false)) (W.alloc (.cells zeroCells 87)):=
 ⟨k.call ((Below.refl _ _).alloc (Nat.le_refl _) _),k.below.size,di W 87⟩
theorem BgS.put {w:World} {j d l m:Nat} {s:Dk.St} {a z:Nat} {q:Int} {o:Bool} {p:List UInt8} {C:Nat} {b:Bool} {W:World} (k:BgS w j d l m s a z q o p (some (C,b)) W) (hp:p.length=64) (hj:j<w.heap.size) (hd:d<w.heap.size∧l<w.heap.size∧m<w.heap.size):BgS w j d l m s a z q o p (some (C,true)) (W.setCells C 0 (ab p)):=by
 obtain ⟨k1,k2,k3⟩:=k
 exact ⟨k1.MH hj hd C k2 _,k2,k3.put p hp⟩
theorem iV {o:Oper} {a:Act} {w:World} {b:Nat} {q p:List UInt8} {R:Value→World→Prop} (k:aD w b q) (hp:p.length=64) (x y:Operand) (ho:o.op=.store 87 x y) (hx:a.eval x=.pointer (some ⟨b,0,none⟩)) (hy:a.eval y=an p)
  (hR:R undef (w.setCells b 0 (ab p))):dE Tryz.prog (execOp a.eval o) w R:=by
 have hs:=run_storeVar_mid (P:=Tryz.prog) w b 0 87 (ab p).toArray (by rw [List.size_toArray,aj,hp];exact k.free) (by rw [aY,List.size_toArray,aj,hp]) (all_oneCell_toArray (bV p))
 rw [tM] at hs
 have hrun:(execOp a.eval o).run Tryz.prog w=.ok .skip (w.setCells b 0 (ab p))∨(execOp a.eval o).run Tryz.prog w=.ok (.value undef) (w.setCells b 0 (ab p)):=by
  unfold execOp
  simp only [ho,hx,hy,Instr.storeAt,Instr.sureAddr,Sem.run_bind,Sem.run_pure,Result.andThen_ok,hs]
  simp
 unfold dE
 rcases hrun with h | h <;> (rw [h];exact hR)
theorem xp (s:Dk.St) (l:List Chg):Jn.runs s [l]=Jn.cj s l:=by
 unfold Jn.runs
 split
 ·rename_i h
  unfold Jn.runs
  rw [← h]
 ·rfl
theorem vx {s:Dk.St} {l:List Chg} {r:List (List Chg)} (h:(Jn.cj s l).2=0):Jn.runs s (l::r)=Jn.runs (Jn.cj s l).1 r:=by rw [Jn.runs,if_pos h]
theorem rl {s:Dk.St} {l:List Chg} {r:List (List Chg)} (h:(Jn.cj s l).2≠0):Jn.runs s (l::r)=Jn.cj s l:=by rw [Jn.runs,if_neg h]
theorem wR {w:World} {j d l m a z:Nat} {q:Int} {o:Bool} {s:Dk.St} (hj:JAt w j d a z q o) (h:aG w d l m s) (hjd:j∉[d,l,m]) (ha:a≤900) (hup:s.down=false) (hal:a<s.last.length) (hq:Jn.qU (Dk.gJ s (a:Int))) (hn:Hd.dy [Dk.gJ s (a:Int)]<4294967296):
  Calls Tryz.prog 207 #[.pointer (some ⟨j,0,none⟩)] w fun e w'=>e=.returned (.tuple #[.int .i64 0,.int .i64 (Jn.runs s [[⟨(a:Int),aM (bk (Hd.dy [Dk.gJ s (a:Int)]))⟩]]).2])∧aG w' d l m (Jn.runs s [[⟨(a:Int),aM (bk (Hd.dy [Dk.gJ s (a:Int)]))⟩]]).1∧JAt w' j d a z (Hd.dy [Dk.gJ s (a:Int)]) o∧aB [d,l,m,j] w w':=by
 rw [xp]
 have HI:Hid (ED w j d l m s a z q o w):=Lib.hid ⟨h,hj,Below.refl _ _⟩
 have HJD:=Lib.hid hjd
 have HJL:=Lib.hid hj.lt
 have HDL:Hid (d<w.heap.size∧l<w.heap.size∧m<w.heap.size):=Lib.hid ⟨h.dlt,h.llt,h.mlt⟩
 have HPL:=Lib.hid (Dk.ot h.ok (a:Int))
 have HRD:Hid (∀ W,ED w j d l m s a z q o W→Calls Tryz.prog 155 #[.pointer (some ⟨d,0,none⟩),.int .i64 (a:Int)] W fun e w'=>e=.returned (.tuple #[an (Dk.gJ s (a:Int)),.int .i64 0])∧Below W.heap.size W w'):=Lib.hid (fun W hW=>by
  have:=rD hW.ew (a:Int)
  rw [Dk.kZ hup (Dk.pa hal)] at this
  exact this)
 clear h hj hjd hup hal
 generalize Dk.gJ s (a:Int)=p at HPL HRD hq hn ⊢
 have HN0:=Lib.hid (Hd.jq [p])
 have HDC:=Lib.hid (fun (w:World)=>Al p w HPL.out)
 have HNX:Hid (∀ W A,gj W A 1 [p]→Calls Tryz.prog 246 #[.slice A 1 1] W fun e w'=>e=.returned (.int .i64 (Hd.dy [p]))∧Below W.heap.size W w'):=Lib.hid (fun W A hr=>FX A 1 1 [p] W hr)
 have HQ:=Lib.hid hq
 clear hq
 generalize hnn:Hd.dy [p]=n at HN0 HNX hn ⊢
 clear hnn
 go_enter Tryz.func207,Tryz.ntmps207
 go_wp2_with fail
 refine cq (BgS w j d l m s a z q o p) (fun i=>i == 14 || i == 15) (fun i=>[.pointer (some ⟨j,0,none⟩),.pointer (some ⟨j,0,none⟩),.pointer (some ⟨j,0,none⟩),.pointer (some ⟨j,0,none⟩),.pointer (some ⟨d,0,none⟩),.pointer (some ⟨j,0,none⟩),.pointer (some ⟨j,0,none⟩),.pointer (some ⟨j,0,none⟩),.pointer (some ⟨j,1,none⟩),.int .i64 (a:Int),.tuple #[an p,.int .i64 0],.tuple #[an p,.int .i64 0],an p,.int .i64 0,undef,undef,.int .i64 0].getD i undef) (none) (by kernel_rfl) (by kernel_rfl) (⟨HI.out.call (Below.refl _ _).drew,trivial⟩) ?_
 refine ar (i:=0) (d:=some 11) (v:=.pointer (some ⟨j,0,none⟩)) rfl rfl (by kernel_rfl) (by kernel_rfl) rfl rfl (ae (by kernel_rfl) ?_) ?_
 ·intro _ W hS;have c0:=hS.1.jr.c0;have c1:=hS.1.jr.c1;go_simp
 (try simp only [Act.put,puA,puB,puC])
 refine ar (i:=1) (d:=some 12) (v:=.pointer (some ⟨j,0,none⟩)) rfl rfl (by kernel_rfl) (by kernel_rfl) rfl rfl (ae (by kernel_rfl) ?_) ?_
 ·intro _ W hS;have c0:=hS.1.jr.c0;have c1:=hS.1.jr.c1;go_simp
 (try simp only [Act.put,puA,puB,puC])
 refine ar (i:=2) (d:=some 13) (v:=.pointer (some ⟨j,0,none⟩)) rfl rfl (by kernel_rfl) (by kernel_rfl) rfl rfl (ae (by kernel_rfl) ?_) ?_
 ·intro _ W hS;have c0:=hS.1.jr.c0;have c1:=hS.1.jr.c1;go_simp
 (try simp only [Act.put,puA,puB,puC])
 refine ar (i:=3) (d:=some 14) (v:=.pointer (some ⟨j,0,none⟩)) rfl rfl (by kernel_rfl) (by kernel_rfl) rfl rfl (ae (by kernel_rfl) ?_) ?_
 ·intro _ W hS;have c0:=hS.1.jr.c0;have c1:=hS.1.jr.c1;go_simp
 (try simp only [Act.put,puA,puB,puC])
 refine ar (i:=4) (d:=some 15) (v:=.pointer (some ⟨d,0,none⟩)) rfl rfl (by kernel_rfl) (by kernel_rfl) rfl rfl (ae (by kernel_rfl) ?_) ?_
 ·intro _ W hS;have c0:=hS.1.jr.c0;have c1:=hS.1.jr.c1;go_simp
 (try simp only [Act.put,puA,puB,puC])
 refine ar (i:=5) (d:=some 16) (v:=.pointer (some ⟨j,0,none⟩)) rfl rfl (by kernel_rfl) (by kernel_rfl) rfl rfl (ae (by kernel_rfl) ?_) ?_
 ·intro _ W hS;have c0:=hS.1.jr.c0;have c1:=hS.1.jr.c1;go_simp
 (try simp only [Act.put,puA,puB,puC])
 refine ar (i:=6) (d:=some 17) (v:=.pointer (some ⟨j,0,none⟩)) rfl rfl (by kernel_rfl) (by kernel_rfl) rfl rfl (ae (by kernel_rfl) ?_) ?_
 ·intro _ W hS;have c0:=hS.1.jr.c0;have c1:=hS.1.jr.c1;go_simp
 (try simp only [Act.put,puA,puB,puC])
 refine ar (i:=7) (d:=some 18) (v:=.pointer (some ⟨j,0,none⟩)) rfl rfl (by kernel_rfl) (by kernel_rfl) rfl rfl (ae (by kernel_rfl) ?_) ?_
 ·intro _ W hS;have c0:=hS.1.jr.c0;have c1:=hS.1.jr.c1;go_simp
 (try simp only [Act.put,puA,puB,puC])
 refine ar (i:=8) (d:=some 19) (v:=.pointer (some ⟨j,1,none⟩)) rfl rfl (by kernel_rfl) (by kernel_rfl) rfl rfl (ae (by kernel_rfl) ?_) ?_
 ·intro _ W hS;have c0:=hS.1.jr.c0;have c1:=hS.1.jr.c1;go_simp
 (try simp only [Act.put,puA,puB,puC])
 refine ar (i:=9) (d:=some 20) (v:=.int .i64 (a:Int)) rfl rfl (by kernel_rfl) (by kernel_rfl) rfl rfl (ae (by kernel_rfl) ?_) ?_
 ·intro _ W hS;have c0:=hS.1.jr.c0;have c1:=hS.1.jr.c1;go_simp
 (try simp only [Act.put,puA,puB,puC])
 refine ar (i:=10) (d:=some 21) (v:=.tuple #[an p,.int .i64 0]) rfl rfl (by kernel_rfl) (by kernel_rfl) rfl rfl (aR (f:=155) (args:=#[.pointer (some ⟨d,0,none⟩),.int .i64 (a:Int)]) (by kernel_rfl) ?_ (fun _ _ hS=>(HRD.out _ hS.1).mono fun _ _ ⟨he,hb⟩=>⟨he,BgS.call hS hb⟩)) ?_
 ·intro _;go_simp
 (try simp only [Act.put,puA,puB,puC])
 refine ar (i:=11) (d:=some 10) (v:=.tuple #[an p,.int .i64 0]) rfl rfl (by kernel_rfl) (by kernel_rfl) rfl rfl (ae (by kernel_rfl) ?_) ?_
 ·intro _ W hS;have c0:=hS.1.jr.c0;have c1:=hS.1.jr.c1;go_simp
 (try simp only [Act.put,puA,puB,puC])
 refine ar (i:=12) (d:=some 22) (v:=an p) rfl rfl (by kernel_rfl) (by kernel_rfl) rfl rfl (ae (by kernel_rfl) ?_) ?_
 ·intro _ W hS;have c0:=hS.1.jr.c0;have c1:=hS.1.jr.c1;go_simp
 (try simp only [Act.put,puA,puB,puC])
 refine ar (i:=13) (d:=some 23) (v:=.int .i64 0) rfl rfl (by kernel_rfl) (by kernel_rfl) rfl rfl (ae (by kernel_rfl) ?_) ?_
 ·intro _ W hS;have c0:=hS.1.jr.c0;have c1:=hS.1.jr.c1;go_simp
 (try simp only [Act.put,puA,puB,puC])
 refine dS (i:=14) (d:=some 4) (fun u s=>∃ g,w.heap.size≤g∧u=.pointer (some ⟨g,0,none⟩)∧s=some (g,false)) rfl rfl (by kernel_rfl) (by kernel_rfl) rfl (by kernel_rfl) (⟨_,_,w.heap.size,Nat.le_refl _,rfl,rfl⟩) (by kernel_rfl) (fun W hS=>eX (v:=.pointer (some ⟨W.heap.size,0,none⟩)) (w':=W.alloc (.cells zeroCells 87)) (by rw [az];go_simp) ⟨some (W.heap.size,false),⟨W.heap.size,hS.1.below.size,rfl,rfl⟩,BgS.alloc hS.1⟩) ?_
 rintro _ _ ⟨C,hC,rfl,rfl⟩
 (try simp only [Act.put,puA,puB,puC])
 refine dS (i:=15) (d:=none) (fun u s=>u=undef∧s=some (C,true)) rfl rfl (by kernel_rfl) (by kernel_rfl) rfl (by kernel_rfl) (⟨_,_,rfl,rfl⟩) (by kernel_rfl) (fun W hS=>iV hS.2.2 HPL.out (.tmp 4) (.tmp 22) rfl rfl rfl ⟨some (C,true),⟨rfl,rfl⟩,BgS.put hS HPL.out HJL.out HDL.out⟩) ?_
 rintro _ _ ⟨rfl,rfl⟩
 (try simp only [Act.put,puA,puB,puC])
 refine ar (i:=16) (d:=some 5) (v:=.int .i64 0) rfl rfl (by kernel_rfl) (by kernel_rfl) rfl rfl (ae (by kernel_rfl) ?_) ?_
 ·intro _ W hS;have c0:=hS.1.jr.c0;have c1:=hS.1.jr.c1;go_simp
 (try simp only [Act.put,puA,puB,puC])
 refine fz (by kernel_rfl) ?_
 intro w3 hS3
 have HI3:=Lib.hid hS3.1
 have HP3:Hid (aD w3 C p):=Lib.hid hS3.2.2
 have HC:=Lib.hid hC
 clear hS3 hC HI HRD
 have HLD:Hid (∀ W,ED w j d l m s a z q o W→Calls Tryz.prog 245 #[.pointer (some ⟨j,0,none⟩),.agg #[.int .i64 n,.bool false,.int .i64 0,.int .u32 0]] W fun e w'=>e=.returned (.int .i64 (Jn.cj s [⟨(a:Int),aM (bk n)⟩]).2)∧aG w' d l m (Jn.cj s [⟨(a:Int),aM (bk n)⟩]).1∧JAt w' j d a z n o∧aB [d,l,m,j] W w'):=Lib.hid (fun W hW=>sc hW.jr hW.ew HJD.out ha (bk n) (Jn.jk HN0.out hn) (Int.le_refl 0) (show (0:Int)<4294967296 by omega))
 obtain ⟨hh,wb,hdec,hwb⟩:∃ (hh:Head) (wb:Bool),(∀ W,Calls Tryz.prog 244 #[an p] W fun e w'=>e=.returned (.tuple #[dC hh,.bool wb])∧Below W.heap.size W w')∧(wb=false∨(wb=true∧hh.live=false)):=by
  refine ⟨Hd.LX p,Hd.fw p,HDC.out,?_⟩
  cases hw:Hd.fw p with
  | false=>exact Or.inl rfl
  |
   true=>
   right
   refine ⟨rfl,?_⟩
   unfold Hd.LX
   rw [if_pos hw]
   cases hl:(Hd.cE p).live with
   | false=>rfl
   | true=>exact absurd ⟨hw,hl⟩ HQ.out
 have HDE:=Lib.hid hdec
 clear hdec HDC HQ
 rcases hwb with rfl | ⟨rfl,hlv⟩
 ·go_wp2_with (with_reducible refine ah HP3.out rfl (.tmp 4) rfl rfl ?_)
  refine (HDE.out _).mono ?_
  rintro e w4 ⟨rfl,hB4⟩
  have HI4:=Lib.hid (HI3.out.call hB4)
  have HP4:=Lib.hid (HP3.out.below hB4 HP3.out.lt)
  clear HI3 HP3 hB4
  go_wp2_with (first
   | ((with_reducible refine cm gZ (h:=hh) rfl (.tmp 6) (.tmp 30) rfl rfl ?_ ?_ ?_);(exact rfl);(exact rfl);intro w5 hH hB5 hz5;have HI5:=Lib.hid (HI4.out.call hB5);have HP5:=Lib.hid (HP4.out.below hB5 HP4.out.lt);have g1:=hH.c1;clear HI4 HP4 hH hB5 hz5;generalize w4.heap.size=D at g1 ⊢)
   | (with_reducible refine ah HP5.out rfl (.tmp 4) rfl rfl ?_)
   | ((with_reducible refine iP HPL.out rfl (.tmp 40) rfl ?_ ?_);(exact rfl)))
  have HI6:=Lib.hid (HI5.out.call (W':=w5.alloc (.cells (ab p).toArray 87)) ((Below.refl _ _).alloc (Nat.le_refl _) _))
  have HR6:=Lib.hid (((kU w5 p HPL.out 87).slice (L:=[]) (by simp)).row (by simp) (kU w5 p HPL.out 87).size)
  clear HI5 HP5 g1
  generalize w5.alloc (.cells (ab p).toArray 87)=w6 at HI6 HR6 ⊢
  refine (HNX.out _ _ HR6.out).mono ?_
  rintro e w7 ⟨rfl,hB7⟩
  have HI7:=Lib.hid (HI6.out.call hB7)
  clear HI6 HR6 hB7
  go_wp2_with fail
  refine (HLD.out _ HI7.out).mono ?_
  rintro e w8 ⟨rfl,hd8,hj8,ho8⟩
  have HO8:Hid (aB [d,l,m,j] w w8):=Lib.hid ((aB.below (l:=[]) (HI7.out.below.mono (Nat.le_refl _))).mono (by simp) |>.trans ho8)
  have HD8:=Lib.hid hd8
  have HJ8:=Lib.hid hj8
  clear HI7 hd8 hj8 ho8
  go_wp2_with fail
  go_ret2
  exact ⟨rfl,HD8.out,HJ8.out,HO8.out⟩
 ·go_wp2_with (with_reducible refine ah HP3.out rfl (.tmp 4) rfl rfl ?_)
  refine (HDE.out _).mono ?_
  rintro e w4 ⟨rfl,hB4⟩
  have HI4:=Lib.hid (HI3.out.call hB4)
  have HP4:=Lib.hid (HP3.out.below hB4 HP3.out.lt)
  clear HI3 HP3 hB4
  go_wp2_with (first
   | ((with_reducible refine cm gZ (h:=hh) rfl (.tmp 6) (.tmp 30) rfl rfl ?_ ?_ ?_);(exact rfl);(exact rfl);intro w5 hH hB5 hz5;have HI5:=Lib.hid (HI4.out.call hB5);have HP5:=Lib.hid (HP4.out.below hB5 HP4.out.lt);have g1:=hH.c1;rw [hlv] at g1;clear HI4 HP4 hH hB5 hz5;generalize w4.heap.size=D at g1 ⊢)
   | (with_reducible refine ah HP5.out rfl (.tmp 4) rfl rfl ?_)
   | ((with_reducible refine iP HPL.out rfl (.tmp 40) rfl ?_ ?_);(exact rfl)))
  have HI6:=Lib.hid (HI5.out.call (W':=w5.alloc (.cells (ab p).toArray 87)) ((Below.refl _ _).alloc (Nat.le_refl _) _))
  have HR6:=Lib.hid (((kU w5 p HPL.out 87).slice (L:=[]) (by simp)).row (by simp) (kU w5 p HPL.out 87).size)
  clear HI5 HP5 g1
  generalize w5.alloc (.cells (ab p).toArray 87)=w6 at HI6 HR6 ⊢
  refine (HNX.out _ _ HR6.out).mono ?_
  rintro e w7 ⟨rfl,hB7⟩
  have HI7:=Lib.hid (HI6.out.call hB7)
  clear HI6 HR6 hB7
  go_wp2_with fail
  refine (HLD.out _ HI7.out).mono ?_
  rintro e w8 ⟨rfl,hd8,hj8,ho8⟩
  have HO8:Hid (aB [d,l,m,j] w w8):=Lib.hid ((aB.below (l:=[]) (HI7.out.below.mono (Nat.le_refl _))).mono (by simp) |>.trans ho8)
  have HD8:=Lib.hid hd8
  have HJ8:=Lib.hid hj8
  clear HI7 hd8 hj8 ho8
  go_wp2_with fail
  go_ret2
  exact ⟨rfl,HD8.out,HJ8.out,HO8.out⟩
end

section
open Go.RowKit
open Dk (av aa)
open Hd (Head aA aM)
open Jn (Chg bk fy)
end

section
open Go.RowKit
open Dk (av aa)
open Hd (Head aA aM)
open Jn (Chg bk fy)
theorem aB.drop {L L':List Nat} {w w1 w2:World} (h1:aB L w w1) (h2:aB L' w1 w2) (hL:∀ x∈L',x∈L∨w.heap.size≤x):aB L w w2:=
 ⟨h2.os.trans h1.os,h2.tape.trans h1.tape,h2.output.trans h1.output,Nat.le_trans h1.size h2.size,fun k hk hn=>(h2.block k (Nat.lt_of_lt_of_le hk h1.size) (fun e=>by
  rcases hL k e with g | g
  ·exact hn g
  ·omega)).trans (h1.block k hk hn)⟩
theorem Jt (w:World) (d a z:Nat) (t:TypeId):JAt (w.alloc (.cells (oX d a z 0 false).toArray t)) w.heap.size d a z 0 false:=⟨bh w _ t⟩
def EC (w:World) (d l m a z:Nat) (R:Dk.St × Int) (P:Int→Int→Prop) (e:Ending) (w':World):Prop:=
  aG w' d l m R.1∧aB [d,l,m] w w' ∧
  ((R.2=0∧∃ j cnt q,e=.returned (.tuple #[.pointer (some ⟨j,0,none⟩),.int .i64 cnt,.int .i64 0])∧JAt w' j d a z q false∧P cnt q∧w.heap.size≤j) ∨
   (R.2≠0∧e=.returned (.tuple #[.pointer none,.int .i64 0,.int .i64 R.2])))
theorem Cv {w:World} {d l m a z r:Nat} {s:Dk.St} (h:aG w d l m s) (ha:a≤900) (hz:z≤900) (hroom:mO z r) (hr:1≤r) (hup:s.down=false) (hreg:a+z≤s.last.length) (R:Dk.St × Int) (P:Int→Int→Prop)
  (hb:∀ W j,JAt W j d a z 0 false→aG W d l m s→j∉[d,l,m]→Calls Tryz.prog 207 #[.pointer (some ⟨j,0,none⟩)] W fun e w'=>∃ (cnt q:Int),e=.returned (.tuple #[.int .i64 cnt,.int .i64 R.2])∧aG w' d l m R.1∧JAt w' j d a z q false∧P cnt q∧aB [d,l,m,j] W w'):
  Calls Tryz.prog 157 #[.pointer (some ⟨d,0,none⟩),.int .i64 (a:Int),.int .i64 (z:Int)] w (EC w d l m a z R P):=by
 have HDN:=Lib.hid (lz h)
 rw [hup] at HDN
 have HRM:Hid (∀ w,Calls Tryz.prog 206 #[.int .i64 (z:Int)] w fun e w'=>e=.returned (.int .i64 (r:Int))∧w=w'):=Lib.hid hroom
 have HPG:=Lib.hid (gT h)
 have HBG:=Lib.hid (hb _ _ (Jt w d a z 229) (h.alloc _) (by have:=h.dlt;have:=h.llt;have:=h.mlt;simp;omega))
 have HLT:Hid (d<w.heap.size∧l<w.heap.size∧m<w.heap.size):=Lib.hid ⟨h.dlt,h.llt,h.mlt⟩
 have hsm:=h.ok.small
 clear h hb hroom hup
 generalize s.last.length=n at HPG hreg hsm
 have hr1:((r:Int) == 0)=false:=by rw [beq_eq_false_iff_ne];omega
 have hr2:¬ ((a:Int)<0):=by omega
 have hr3:¬ ((n:Int) - (z:Int)<(a:Int)):=by omega
 have HO1:Hid (aB [d,l,m] w (w.alloc (.cells (oX d a z 0 false).toArray 229))):=Lib.hid ((aB.refl _ _).alloc _)
 unfold oX at HBG HO1
 go_enter Tryz.func157,Tryz.ntmps157
 go_wp2_with fail
 refine HDN.out.mono ?_
 rintro e w' ⟨rfl,rfl⟩
 go_wp2_with fail
 refine (HRM.out _).mono ?_
 rintro e w' ⟨rfl,rfl⟩
 go_wp2_with fail
 refine HPG.out.mono ?_
 rintro e w' ⟨rfl,rfl⟩
 clear HDN HRM HPG
 go_wp2_with fail
 refine HBG.out.mono ?_
 rintro e w2 ⟨cnt,q,rfl,hd2,hj2,hP2,ho2⟩
 have HD2:=Lib.hid hd2
 have HJ2:=Lib.hid hj2
 have HP2:=Lib.hid hP2
 have HO2:Hid (aB [d,l,m] w w2):=Lib.hid (HO1.out.drop ho2 (by intro x hx;simp at hx ⊢;omega))
 clear hd2 hj2 hP2 ho2 HBG HO1 hr1 hr2 hr3
 by_cases hE:R.2=0
 ·have HE:=Lib.hid hE
  rw [hE]
  clear hE
  go_wp2_with fail
  go_ret3
  exact ⟨HD2.out,HO2.out,Or.inl ⟨HE.out,_,_,_,rfl,HJ2.out,HP2.out,Nat.le_refl _⟩⟩
 ·have HE:=Lib.hid hE
  have hne2:(R.2 == 0)=false:=by simpa using hE
  have hne3:(R.2 != 0)=true:=by simpa using hE
  clear hE
  go_wp2_with fail
  go_ret3
  exact ⟨HD2.out,HO2.out,Or.inr ⟨HE.out,rfl⟩⟩
end
end Go.Proofs.YtagfoogfpabdfaaGreat
