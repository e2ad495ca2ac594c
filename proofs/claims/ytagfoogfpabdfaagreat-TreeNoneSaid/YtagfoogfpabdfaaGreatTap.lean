/- Texts of the proof. -/
import Derived.Test.YtagfoogfpabdfaaGreatTao
import Derived.Maps.AppendAt
import Derived.OwnWalk
import Derived.BigQuiet
import Derived.Test.YtagfoogfpabdfaaGreatTaj
import Derived.Test.YtagfoogfpabdfaaGreatTah
import Derived.Lib.Builder
import Derived.Lib.UnsafeStr
import Derived.Lib.MakeNoZero
import Derived.Lib.Walk
import Derived.Laws.Externs
import Derived.Laws.AppendOwn
import Derived.RegionTactic
import Derived.Laws.MakeOwn
import Derived.Test.YtagfoogfpabdfaaGreatTan
set_option maxRecDepth 100000
set_option maxHeartbeats 16000000
namespace Go.Proofs.YtagfoogfpabdfaaGreat
section
open Dk (av aa)
open Go.ChangeShapes Go.WideShapes Go.ChangeAt Go.RowKit Go.Maps
structure yt (w:World) (A:Option Addr) (z:Nat) (rs:List (List Value)):Prop where
 cells:0<rs.length→∃ b off,A=some ⟨b,off,none⟩∧b<w.heap.size∧∀ i r,rs[i]?=some r→w.rangeAt b (off+i*z) r
theorem yt.step {w w':World} {A:Option Addr} {z:Nat} {rs:List (List Value)} (h:yt w A z rs) (hb:Below w.heap.size w w'):yt w' A z rs:=
 ⟨fun h0=>by
  obtain ⟨b,off,e,hlt,hc⟩:=h.cells h0
  exact ⟨b,off,e,Nat.lt_of_lt_of_le hlt hb.size,fun i r hi j v hv=>(hb.cell (p:=⟨b,off+i*z+j,none⟩) hlt).trans (hc i r hi j v hv)⟩⟩
structure dM (w:World) (A:Option Addr) (n:Nat) (ps:List (List UInt8)):Prop where
 len:ps.length=n
 small:n≤maxLen
 size:∀ p∈ps,p.length=64
 rows:yt w A 64 (ps.map ab)
def kP (p:List UInt8):List (List UInt8):=[Nm.at_ p 0,Nm.at_ p 1,Nm.at_ p 2,Nm.at_ p 3]
def blocks (ps:List (List UInt8)):List (List UInt8):=ps.flatMap kP
def okE (b:List UInt8):Bool:=(Nm.ent b).isSome
def jc (bs:List (List UInt8)):Bool:=bs.all okE
def eL (b:List UInt8):List Value:=jD (Nm.MD (Nm.ent b)) (strOf (Nm.MC (Nm.ent b)))
theorem po (b:List UInt8):(eL b).length=2:=rfl
theorem lE (ps:List (List UInt8)):(blocks ps).length=4*ps.length:=by
 induction ps with
 | nil=>rfl
 | cons p t ih=>unfold blocks at ih ⊢;rw [List.flatMap_cons,List.length_append,ih,List.length_cons];unfold kP;simp;omega
theorem DT (b:List UInt8):∀ v∈eL b,v.oneCell'=true:=iJ _ _
theorem tf (p:List UInt8):(kP p).length=4:=rfl
theorem Fk (p:List UInt8) (j:Nat) (h:j<4):(kP p).take (j+1)=(kP p).take j++[Nm.at_ p j]:=by
 have:j=0∨j=1∨j=2∨j=3:=by omega
 rcases this with rfl | rfl | rfl | rfl <;> rfl
theorem wQ (ps:List (List UInt8)) (k:Nat) (p:List UInt8) (h:ps[k]?=some p):blocks (ps.take (k+1))=blocks (ps.take k)++kP p:=by
 obtain ⟨hk,he⟩:=List.getElem?_eq_some_iff.1 h
 rw [List.take_succ_eq_append_getElem hk,he]
 unfold blocks
 rw [List.flatMap_append]
 simp
theorem Ev (a b:List (List UInt8)):jc (a++b)=(jc a && jc b):=by unfold jc;rw [List.all_append]
theorem Hp (ps:List (List UInt8)) (k:Nat) (p:List UInt8) (h:ps[k]?=some p) (j:Nat) (hj:j<4) (hb:okE (Nm.at_ p j)=false):jc (blocks ps)=false:=by
 cases hc:jc (blocks ps) with
 | false=>rfl
 |
  true=>
  exfalso
  have hm:Nm.at_ p j∈blocks ps:=by
   unfold blocks
   rw [List.mem_flatMap]
   refine ⟨p,List.mem_of_getElem? h,?_⟩
   have:j=0∨j=1∨j=2∨j=3:=by omega
   rcases this with rfl | rfl | rfl | rfl <;> simp [kP]
  have:=List.all_eq_true.1 hc _ hm
  rw [hb] at this
  cases this
theorem Gl:(Tryz.prog.info? 66).map (fun i=>(i.zero,i.size,i.bytes))=some (some (.agg #[.int .i64 0,.string ⟨#[]⟩]),2,24):=by kernel_rfl
theorem qx {w w':World} {base:Nat} {e:TypeId} {size:Nat} {v:Value} {n:Nat} {xs:List Value} (h:w.ownsRow base e size v n xs) (hb:Below w.heap.size w w'):w'.ownsRow base e size v n xs:=by
 refine ⟨h.1,?_⟩
 rcases h.2 with h2 | ⟨g,cap,cur,h1,h2,h3,h4⟩
 ·exact Or.inl h2
 ·exact Or.inr ⟨g,cap,cur,h1,h2,(hb.block g (Array.getElem?_eq_some_iff.1 h3).1).trans h3,h4⟩
theorem vT {w:World} {base:Nat} {e:TypeId} {size:Nat} {v:Value} {k:Nat} {xs:List Value} (h:w.ownsRow base e size v k xs):∃ A c,v=.slice A k c:=by
 rcases h.2 with ⟨e1,e2⟩ | ⟨g,cap,cur,e1,_⟩
 ·exact ⟨none,0,by rw [e1,e2]⟩
 ·exact ⟨_,_,e1⟩
theorem CG (w:World) (vs:List Value) (t:TypeId):∀ j u,vs[j]?=some u→(w.alloc (.cells vs.toArray t)).cell? ((⟨w.heap.size,0,none⟩:Addr).add j)=some u:=fun j u hj=>by
 have:=(bh w vs t).range j u hj
 rw [Nat.zero_add] at this
 unfold Addr.add
 by_cases e:j=0
 ·subst e;rw [if_pos rfl];exact this
 ·rw [if_neg e,Nat.zero_add];exact this
theorem jm {t:TypeId} {n:Nat} (ht:mN t n) {ops:Array Oper} {rest:List Oper} {op:Oper} {a:Act} {Q:Exit→Act→World→Prop} {w:World} {b o:Nat} {vs:List Value} (hr:w.rangeAt b o vs) (hl:vs.length=n) (hgd:op.guard=none) (x:Operand) (ho:op.op=.load t x)
  (hx:a.eval x=.pointer (some ⟨b,o,none⟩)) (h:wpList Tryz.prog ops Q rest (a.put op.dst (.agg vs.toArray)) w):wpList Tryz.prog ops Q (op::rest) a w:=by
 obtain ⟨d,hd,hrow⟩:=ht.row
 exact wpList_load_mid hgd t x ho b o hx vs d hr hd hrow (by rw [ht.info,hl]) h
theorem IP (n:Int) (s:ByteArray) (w:World):(Instr.buildSlice 34 1 #[(0,jC n s)]).run Tryz.prog w=.ok (.slice (some ⟨w.heap.size,0,none⟩) 1 1) (w.alloc (.cells (jD n s).toArray 66)):=by
 unfold jC jD
 go_simp
theorem GG {ρ:Operand→Value} {op:Oper} {y:Operand} {n:Int} {s:ByteArray} {w:World} (ho:op.op=.buildSlice 34 1 #[(0,y)]) (hy:ρ y=jC n s):
  (execOp ρ op).run Tryz.prog w=.ok (.value (.slice (some ⟨w.heap.size,0,none⟩) 1 1)) (w.alloc (.cells (jD n s).toArray 66)):=by
 have hr:=IP n s w
 unfold execOp
 simp only [ho,List.map_toArray,List.map_cons,List.map_nil,hy,Sem.run_bind,hr,Result.andThen_ok,Sem.run_pure]
theorem yz {ops:Array Oper} {rest:List Oper} {op:Oper} {a:Act} {Q:Exit→Act→World→Prop} {w:World} {b:List UInt8} (hgd:op.guard=none) (y:Operand) (ho:op.op=.buildSlice 34 1 #[(0,y)]) (hy:a.eval y=.agg (eL b).toArray)
  (h:wpList Tryz.prog ops Q rest (a.put op.dst (.slice (some ⟨w.heap.size,0,none⟩) 1 1)) (w.alloc (.cells (eL b).toArray 66))):wpList Tryz.prog ops Q (op::rest) a w:=
 wpList_plain hgd fun _ hK=>by
  unfold Oper.wp
  rw [GG ho (hy.trans (GK _ _))]
  exact hK _ _ h
theorem KT:mN 87 64:=⟨⟨_,Tryz.underlying87,rfl⟩,by kernel_rfl⟩
structure AlS (w0:World) (A:Option Addr) (n:Nat) (ps:List (List UInt8)) (l:Value) (bs:List (List UInt8)) (W:World):Prop where
 dJ:dM W A n ps
 far:0<n→∀ b off,A=some ⟨b,off,none⟩→b<w0.heap.size
 own:W.ownsRow w0.heap.size 66 2 l bs.length (bs.flatMap eL)
 bel:Below w0.heap.size w0 W
theorem dM.step {w w':World} {A:Option Addr} {n:Nat} {ps:List (List UInt8)} (h:dM w A n ps) (hb:Below w.heap.size w w'):dM w' A n ps:=⟨h.len,h.small,h.size,h.rows.step hb⟩
theorem AlS.call {w0:World} {A:Option Addr} {n:Nat} {ps:List (List UInt8)} {l:Value} {bs:List (List UInt8)} {W W':World} (k:AlS w0 A n ps l bs W) (hb:Below W.heap.size W W'):AlS w0 A n ps l bs W':=
 ⟨k.dJ.step hb,k.far,qx k.own hb,k.bel.trans (hb.mono k.bel.size)⟩
theorem AlS.grow {w0:World} {A:Option Addr} {n:Nat} {ps:List (List UInt8)} {l l':Value} {bs:List (List UInt8)} {b:List UInt8} {W W':World} (k:AlS w0 A n ps l bs W) (hg:W.grownBy W' l.ownBlock) (hown:W'.ownsRow w0.heap.size 66 2 l' (bs.length+1) (bs.flatMap eL++eL b)):AlS w0 A n ps l' (bs++[b]) W' where
 dJ:=⟨k.dJ.len,k.dJ.small,k.dJ.size,⟨fun h0=>by
  obtain ⟨g,off,e,hlt,hc⟩:=k.dJ.rows.cells h0
  have hgl:=k.far (by rw [List.length_map,k.dJ.len] at h0;exact h0) g off e
  refine ⟨g,off,e,Nat.lt_of_lt_of_le hlt hg.size,fun i r hi j v hv=>?_⟩
  have hne:some g≠l.ownBlock:=fun q=>by have:=(k.own.lt g q.symm).1;omega
  have hblk:=hg.block g hlt hne
  have:=hc i r hi j v hv
  rw [← this]
  exact World.cell?_of_block (a:=⟨g,off+i*64+j,none⟩) hblk⟩⟩
 far:=k.far
 own:=by
  rw [List.flatMap_append,List.length_append]
  simpa using hown
 bel:=k.bel.grown hg k.bel.size (fun j hj=>(k.own.lt j hj).1)
structure AlP (w0:World) (A:Option Addr) (n:Nat) (ps:List (List UInt8)) (l:Value) (bs:List (List UInt8)) (B:Nat) (p:List UInt8) (W:World):Prop where
 al:AlS w0 A n ps l bs W
 aK:aD W B p
 ne:l.ownBlock≠some B
theorem AlP.call {w0:World} {A:Option Addr} {n:Nat} {ps:List (List UInt8)} {l:Value} {bs:List (List UInt8)} {B:Nat} {p:List UInt8} {W W':World} (k:AlP w0 A n ps l bs B p W) (hb:Below W.heap.size W W'):AlP w0 A n ps l bs B p W':=⟨k.al.call hb,k.aK.step hb,k.ne⟩
theorem AlP.grow {w0:World} {A:Option Addr} {n:Nat} {ps:List (List UInt8)} {l l':Value} {bs:List (List UInt8)} {b:List UInt8} {B:Nat} {p:List UInt8} {W W':World} (k:AlP w0 A n ps l bs B p W) (hg:W.grownBy W' l.ownBlock) (hown:W'.ownsRow w0.heap.size 66 2 l' (bs.length+1) (bs.flatMap eL++eL b)) (hloc:l'.ownBlock=l.ownBlock∨l'.ownBlock=some W.heap.size):AlP w0 A n ps l' (bs++[b]) B p W' where
 al:=k.al.grow hg hown
 aK:=BH (by
  have hB:=k.aK.lt
  have hblk:=hg.block B hB (Ne.symm k.ne)
  refine ⟨fun j v hv=>?_,fun j hj=>?_⟩
  ·have:=(tL k.aK).range j v hv
   rw [← this]
   exact World.cell?_of_block (a:=⟨B,0+j,none⟩) hblk
  ·have:=(tL k.aK).free j hj
   rw [World.cell?_of_block (a:=⟨B,0+j,none⟩) hblk,World.frozen?_of_block (a:=⟨B,0+j,none⟩) hblk]
   exact this) k.aK.len
 ne:=by
  rcases hloc with e | e
  ·rw [e];exact k.ne
  ·rw [e]
   intro q
   injection q with q
   have:=k.aK.lt
   omega
theorem AlP.start {w0:World} {A:Option Addr} {n:Nat} {ps:List (List UInt8)} {l:Value} {bs:List (List UInt8)} {p:List UInt8} {W W2:World} (k:AlS w0 A n ps l bs W) (hb:Below W.heap.size W W2) (hp:aD W2 W.heap.size p):AlP w0 A n ps l bs W.heap.size p W2:=
 ⟨k.call hb,hp,fun q=>by have:=(k.own.lt _ q).2;omega⟩
end

section
open Dk (av aa)
open Go.RowKit Go.Maps
def kD (ps:List (List UInt8)) (w:World) (e:Ending) (w':World):Prop:=
 if jc (blocks ps)=true then ∃ A c,e=.returned (.tuple #[.slice A (blocks ps).length c,.int .i64 0])∧w'.ownsRow w.heap.size 66 2 (.slice A (blocks ps).length c) (blocks ps).length ((blocks ps).flatMap eL)∧Below w.heap.size w w'
 else e=.returned (.tuple #[.slice none 0 0,.int .i64 5])∧Below w.heap.size w w'
theorem Ew (w:World) (A:Option Addr) (n:Nat) (ps:List (List UInt8)) (h:dM w A n ps) (hf:0<n→∀ b off,A=some ⟨b,off,none⟩→b<w.heap.size):AlS w A n ps (.slice none 0 0) [] w:=
 ⟨h,hf,⟨rfl,Or.inl ⟨rfl,rfl⟩⟩,Below.refl _ _⟩
theorem Dv {ps:List (List UInt8)} {w:World} (h:jc (blocks ps)=false) (w':World) (hb:Below w.heap.size w w'):kD ps w (.returned (.tuple #[.slice none 0 0,.int .i64 5])) w':=by
 unfold kD
 rw [if_neg (by rw [h];decide)]
 exact ⟨rfl,hb⟩
theorem Gq {A0:Option Addr} {n:Nat} {ps:List (List UInt8)} {w w':World} {A:Option Addr} {m c:Nat} (h:jc (blocks ps)=true) (hm:m=(blocks ps).length) (hS:AlS w A0 n ps (.slice A m c) (blocks ps) w'):kD ps w (.returned (.tuple #[.slice A m c,.int .i64 0])) w':=by
 unfold kD
 rw [if_pos h]
 subst hm
 exact ⟨A,c,rfl,hS.own,hS.bel⟩
theorem Eu (A:Option Addr) (n c:Nat) (ps:List (List UInt8)) (w:World) (hin:dM w A n ps) (hf:0<n→∀ b off,A=some ⟨b,off,none⟩→b<w.heap.size) (hn:n≤1100):
  Calls Tryz.prog 186 #[.slice A n c] w (kD ps w):=by
 have S0:=Lib.hid (Ew w A n ps hin hf)
 have HL:=Lib.hid hin.len
 have HZ:=Lib.hid hin.size
 obtain ⟨i0,hi0,hz0,hs0,hb0⟩:=info_parts Gl
 have HI0:=Lib.hid hi0
 have HZ0:=Lib.hid hz0
 have HS0:=Lib.hid hs0
 have HB0:=Lib.hid hb0
 clear hin hf hi0 hz0 hs0 hb0
 go_enter Tryz.func186,Tryz.ntmps186
 go_wp2_with fail
 go_loopw [4,12] (fun l x wr=>∃ (k:Nat) (A':Option Addr) (m c':Nat),k≤n∧x=.int .i64 (k:Int)∧l=.slice A' m c'∧Hid (m=(blocks (ps.take k)).length)∧Hid (AlS w A n ps (.slice A' m c') (blocks (ps.take k)) wr)∧Hid (jc (blocks (ps.take k))=true)) (fun _ x _=>n - (intOf x).toNat)
 case atStart=>exact ⟨0,none,0,0,Nat.zero_le _,rfl,rfl,Lib.hid rfl,S0,Lib.hid rfl⟩
 case round=>
  clear S0
  obtain ⟨k,A',m,c',hk,rfl,rfl,HM,S,HO⟩:=hrel
  rename World=>wo
  by_cases hlt:k<n
  ·obtain ⟨b,off,hA,hb,hc⟩:=S.out.dJ.rows.cells (by rw [List.length_map,HL.out];omega)
   obtain ⟨p,hp⟩:∃ p,ps[k]?=some p:=⟨_,List.getElem?_eq_getElem (by rw [HL.out];exact hlt)⟩
   have HP:=Lib.hid (hc k (ab p) (by rw [List.getElem?_map,hp];rfl))
   have HPL:=Lib.hid (HZ.out p (List.mem_of_getElem? hp))
   have HBL:=Lib.hid (show (ab p).length=64 by rw [aj,HPL.out])
   have HMore:=Lib.hid (wQ ps k p hp)
   have HNo:=Lib.hid (fun j hj=>Hp ps k p hp j hj)
   subst hA
   have hk0:(0:Int)≤(k:Int):=by omega
   have hk1:(k:Int)<(n:Int):=by omega
   clear hc hp hb
   have HLen:Hid ((blocks (ps.take k)).length≤4400):=Lib.hid (by rw [lE,List.length_take];omega)
   generalize blocks (ps.take k)=bs at HM S HO HMore HLen
   go_wp2_with (first
    | ((with_reducible refine jm KT HP.out HBL.out rfl (.tmp 14) rfl ?_ ?_);(exact rfl))
    | ((with_reducible refine aq (p:=p) rfl (.tmp 6) (.tmp 15) rfl rfl ?_ ?_ HPL.out ?_);(exact rfl);(exact rfl);intro W2 hP hB2 hz2;have P:=Lib.hid (AlP.start S.out hB2 hP);clear hP hB2 hz2 S;generalize wo.heap.size=B at P ⊢))
   go_loopw [4,16] (fun l x wr=>∃ (j:Nat) (A':Option Addr) (m c':Nat),j≤4∧x=.int .i64 (j:Int)∧l=.slice A' m c'∧Hid (m=(bs++(kP p).take j).length)∧Hid (AlP w (some ⟨b,off,none⟩) n ps (.slice A' m c') (bs++(kP p).take j) B p wr)∧Hid (jc (bs++(kP p).take j)=true)) (fun _ x _=>4 - (intOf x).toNat)
   case atStart=>exact ⟨0,A',m,c',by omega,rfl,rfl,Lib.hid (by rw [HM.out];simp),Lib.hid (by simpa using P.out),Lib.hid (by simpa using HO.out)⟩
   case round=>
    clear P HM HO
    obtain ⟨j,A1,m1,c1,hj,rfl,rfl,HM,P,HO⟩:=hrel
    by_cases hj4:j<4
    ·have HG:=Lib.hid (fun w=>get_at p j w HPL.out hj4)
     have HAt:=Lib.hid (Fk p j hj4)
     have HNo2:=Lib.hid (HNo.out j hj4)
     generalize Nm.at_ p j=blk at HG HAt HNo2
     change Hid (∀ w,Calls Tryz.prog 227 #[an p,.int .i64 (j:Int)] w fun e w'=>e=.returned (.tuple #[.agg (eL blk).toArray,.int .i64 (Ku (Nm.ent blk))])∧Below w.heap.size w w') at HG
     have hj0:(0:Int)≤(j:Int):=by omega
     have hj1:(j:Int)<4:=by omega
     have hm1:m1≤4410:=by
      have h1:=HLen.out
      have h2:((kP p).take j).length≤4:=by rw [List.length_take,tf];omega
      rw [HM.out,List.length_append]
      omega
     cases hok:okE blk with
     |
      true=>
      have he:Ku (Nm.ent blk)=0:=by unfold Ku;rw [show (Nm.ent blk).isSome=true from hok];rfl
      rw [he] at HG
      have HOK:=Lib.hid hok
      clear he hok
      go_wp2_with (first
       | (with_reducible refine ah P.out.aK rfl (.tmp 6) rfl rfl ?_)
       | (go_at_call 227;(with_reducible refine (HG.out _).mono ?_);rintro e w3 ⟨rfl,hb⟩;replace P:=Lib.hid (P.out.call hb);clear hb)
       | ((with_reducible refine ai pn (vs:=eL blk) (po _) (DT _) rfl (.tmp 8) (.tmp 23) rfl rfl ?_ ?_ ?_);(exact rfl);(exact rfl);intro W4 hP hb hz;have R:=Lib.hid hP;replace P:=Lib.hid (P.out.call hb);clear hP hb hz;generalize w3.heap.size=G at R ⊢)
       | (with_reducible refine af pn R.out (po _) rfl (.tmp 8) rfl rfl ?_)
       | ((with_reducible refine yz (b:=blk) rfl (.tmp 29) rfl ?_ ?_);(exact rfl);have HNW:=Lib.hid (CG W4 (eL blk) 66);have HBel:Hid (Below W4.heap.size W4 (W4.alloc (.cells (eL blk).toArray 66))):=Lib.hid ((Below.refl _ _).alloc (Nat.le_refl _) _);replace P:=Lib.hid (P.out.call HBel.out);have HSZ:Hid (w.heap.size≤(W4.alloc (.cells (eL blk).toArray 66)).heap.size):=Lib.hid P.out.al.bel.size;have HOwn:=Lib.hid P.out.al.own;rw [← HM.out] at HOwn;clear HBel;generalize W4.heap.size=E at HNW ⊢;generalize W4.alloc (.cells (eL blk).toArray 66)=W5 at HNW P HSZ HOwn ⊢)
       | (at_builtin;go_must (refine wpList_append_own_at _ rfl (.tmp 28) (.tmp 30) 34 rfl w.heap.size 66 i0 _ 2 24 Tryz.underlying34 HI0.out HZ0.out HS0.out HB0.out rfl (by omega) _ m1 _ rfl HOwn.out ⟨E,0,none⟩ 1 1 (eL blk) rfl rfl HNW.out (DT _) (by unfold maxLen;omega) (by omega) HSZ.out ?_);intro v' w5 hown' hgrow hnil hloc;obtain ⟨A',c',rfl⟩:=vT hown'))
      have P3:=Lib.hid (P.out.grow hgrow (b:=blk) (by rw [← HM.out];exact hown') hloc)
      have HM3:Hid (m1+1=(bs++(kP p).take (j+1)).length):=Lib.hid (by rw [HAt.out,← List.append_assoc,List.length_append,← HM.out];rfl)
      have HO3:Hid (jc (bs++(kP p).take (j+1))=true):=Lib.hid (by rw [HAt.out,← List.append_assoc,Ev,HO.out];simp [jc,HOK.out])
      rw [List.append_assoc,← HAt.out] at P3
      clear hown' hgrow hnil hloc P HM HO
      go_roundw
      case rel=>exact ⟨j+1,A',m1+1,c',by omega,by go_num,rfl,HM3,P3,HO3⟩
      case measure=>simp [intOf];omega
     |
      false=>
      have he:Ku (Nm.ent blk)=5:=by unfold Ku;rw [show (Nm.ent blk).isSome=false from hok];rfl
      rw [he] at HG
      have HF:=Lib.hid (Dv (w:=w) (HNo2.out hok))
      clear he hok
      go_wp2_with (first
       | (with_reducible refine ah P.out.aK rfl (.tmp 6) rfl rfl ?_)
       | (go_at_call 227;(with_reducible refine (HG.out _).mono ?_);rintro e w3 ⟨rfl,hb⟩;replace P:=Lib.hid (P.out.call hb);clear hb)
       | ((with_reducible refine ai pn (vs:=eL blk) (po _) (DT _) rfl (.tmp 8) (.tmp 23) rfl rfl ?_ ?_ ?_);(exact rfl);(exact rfl);intro W4 hP hb hz;replace P:=Lib.hid (P.out.call hb);clear hP hb hz;generalize w3.heap.size=G))
      go_ret2
      exact HF.out _ P.out.al.bel
    ·obtain rfl:j=4:=by omega
     have HB4:Hid (bs++(kP p).take 4=blocks (ps.take (k+1))):=Lib.hid (by rw [HMore.out];rfl)
     rw [HB4.out] at HM P HO
     have S3:=Lib.hid P.out.al
     clear P
     go_wp2
     go_roundw
     case rel=>exact ⟨k+1,A1,m1,c1,by omega,by go_num,rfl,HM,S3,HO⟩
     case measure=>simp [intOf];omega
  ·obtain rfl:k=n:=by omega
   have e:ps.take k=ps:=List.take_of_length_le (by rw [HL.out];exact Nat.le_refl _)
   rw [e] at HM S HO
   have HF:=Lib.hid (Gq HO.out HM.out S.out)
   clear e HM S HO hlt
   go_wp2
   go_ret2
   exact HF.out
end

section
open Go.RowKit Go.Maps
open Dk (av aa)
open Ii (Ino)
open Dm (Has Ent)
structure eA (w:World) (A:Option Addr) (n:Nat) (L:List Ent):Prop where
 len:L.length=n
 cells:0<n→∃ b off,A=some ⟨b,off,none⟩∧b<w.heap.size∧∀ i e,L[i]?=some e→w.rangeAt b (off+i*2) (jD e.1 (strOf e.2))
theorem eA.only {w w':World} {A:Option Addr} {n:Nat} {L:List Ent} {l:List Nat} (h:eA w A n L) (ho:aB l w w') (hl:0<n→∀ k∈l,∀ b off,A=some ⟨b,off,none⟩→b≠k):eA w' A n L:=
 ⟨h.len,fun h0=>by
  obtain ⟨b,off,e,hlt,hc⟩:=h.cells h0
  exact ⟨b,off,e,Nat.lt_of_lt_of_le hlt ho.size,fun i c hi=>cu (hc i c hi) (ho.block b hlt (fun q=>hl h0 b q b off e rfl))⟩⟩
theorem eA.below {w w':World} {A:Option Addr} {n:Nat} {L:List Ent} (h:eA w A n L) (hb:Below w.heap.size w w'):eA w' A n L:=
 ⟨h.len,fun h0=>by
  obtain ⟨b,off,e,hlt,hc⟩:=h.cells h0
  exact ⟨b,off,e,Nat.lt_of_lt_of_le hlt hb.size,fun i c hi=>cu (hc i c hi) (hb.block _ hlt)⟩⟩
theorem eU (l:List UInt8):(strOf l).data.toList=l:=by simp [strOf]
end

section
open Dk (av aa)
open Go.RowKit
theorem Ic:(Tryz.prog.info? 208).map (·.size)=some 2:=by kernel_rfl
theorem tF:(208:TypeId)≠5:=by decide
theorem zx:(Tryz.prog.info? 5).map (fun i=>(i.size,i.bytes))=some (1,1):=by kernel_rfl
theorem zn:(Tryz.prog.info? 5).map (fun i=>i.zero)=some (some (.int .u8 0)):=by kernel_rfl
abbrev jI (B b:Nat) (l:List UInt8) (w:World):Prop:=Lib.BuilderAt 208 5 B b (.pointer (some ⟨b,0,none⟩)) (ab l) w
theorem ow (b:Nat) (w:World) (h0:w.cell? ⟨b,0,none⟩=some (.pointer (some ⟨b,0,none⟩))):
  Calls Tryz.prog 228 #[.pointer (some ⟨b,0,none⟩)] w fun e w'=>e=.returned (.tuple #[])∧w=w':=by
 obtain ⟨j,hj,_⟩:=Option.map_eq_some_iff.1 Ic
 go_enter Tryz.func228,Tryz.ntmps228
 go_wp2
 rw [Lib.run_neq_ptr_same w _ Tryz.underlying206 hj]
 go_wp2
 go_end0
 exact ⟨rfl,rfl⟩
theorem iT (b:Nat) (w:World) (h0:w.cell? ⟨b,0,none⟩=some (.pointer none)) (hsh:w.shape? b=some (208,2)) (hfz:w.frozen? ⟨b,0,none⟩=false):
  Calls Tryz.prog 228 #[.pointer (some ⟨b,0,none⟩)] w fun e w'=>e=.returned (.tuple #[])∧w.setCell ⟨b,0,none⟩ (.pointer (some ⟨b,0,none⟩))=w':=by
 obtain ⟨j,hj,hjs⟩:=Option.map_eq_some_iff.1 Ic
 go_enter Tryz.func228,Tryz.ntmps228
 go_wp2
 rw [Lib.run_to_unsafe w ⟨b,0,none⟩ Tryz.underlying206 Tryz.underlying273 hj (by rw [hjs];decide) hsh (Nat.zero_lt_succ 1)]
 simp only [Result.andThen]
 rw [Oper.upon_value]
 go_wp2
 rw [run_callFunc_extern Tryz.func255 (by kernel_rfl) (by kernel_rfl) (by kernel_rfl) (e:=Extern.AbiNoEscape.same) (by kernel_rfl)]
 rw [Lib.run_noEscape]
 simp only [Result.andThen]
 rw [Oper.upon_value]
 go_wp2
 rw [Lib.run_from_unsafe w ⟨b,0,none⟩ Tryz.underlying273 Tryz.underlying206 hj hsh (by kernel_rfl)]
 simp only [Result.andThen]
 rw [Oper.upon_value]
 go_wp2
 go_end0
 exact ⟨rfl,rfl⟩
theorem ns {w:World} {b:Nat} {o:Obj} (h:w.heap[b]?=some o):b<w.heap.size:=(Array.getElem?_eq_some_iff.1 h).1
theorem vE (B b n:Nat) (w:World) (hB:B≤b) (hbk:w.heap[b]?=some (.cells #[.pointer (some ⟨b,0,none⟩),.slice none 0 0] 208 (0,0))) (hBw:B≤w.heap.size) (hn:n≤1000000):
  Calls Tryz.prog 256 #[.pointer (some ⟨b,0,none⟩),.int .i64 (n:Int)] w fun e w'=>e=.returned (.tuple #[])∧(jI B b [] w'∧Below B w w'):=by
 obtain ⟨cs,hrun,hle,hmax⟩:=Lib.run_makeNoZero (P:=Tryz.prog) w.drew #[3] 40 5 Tryz.underlying40 n (by omega)
 have hcall:(callFunc 275 #[.int .i64 (n:Int)]).run Tryz.prog w.drew=.ok (.value (.slice (some ⟨w.drew.heap.size,0,none⟩) n cs.size)) (w.drew.drew.drew.alloc (.cells cs 5)):=by
  rw [run_callFunc_extern Tryz.func275 (by kernel_rfl) (by kernel_rfl) (by kernel_rfl) (e:=Extern.BytealgMakeNoZero.makeNoZero #[3] #[40]) (by kernel_rfl),hrun]
  rfl
 have hlt:=ns hbk
 have c1:w.drew.cell? ⟨b,1,none⟩=some (.slice none 0 0):=by
  have:w.drew.heap[b]?=_:=hbk
  rw [Lib.cell_of_heap this];rfl
 have hb2:(w.alloc (.cells cs 5)).heap[b]?=_:=(Lib.alloc_old w _ b hlt).trans hbk
 have c2:(w.alloc (.cells cs 5)).cell? ⟨b,1,none⟩=some (.slice none 0 0):=by rw [Lib.cell_of_heap hb2];rfl
 have f2:(w.alloc (.cells cs 5)).frozen? ⟨b,1,none⟩=false:=Lib.frozen_of_heap hb2 1
 have hcopy:∀ W:World,(Builtin.copy_ #[40,40] 3 #[.slice (some ⟨w.heap.size,0,none⟩) 0 cs.size,.slice none 0 0]).run Tryz.prog W=.ok (goInt 0) W:=
  fun W=>run_copy_none W 40 40 3 5 _ _ 0 cs.size 0 0 Tryz.underlying40 (by kernel_rfl) rfl
 have hfin:=Lib.hid (Lib.grown_fresh (T:=208) (e:=5) (cs:=cs) hB hbk hBw (hmax (by unfold maxLen;omega)) tF)
 clear hrun hle hmax hb2 hbk hlt
 go_enter Tryz.func256,Tryz.ntmps256
 go_wp2
 go_region
 all_goals (go_wp2;go_end0;exact ⟨rfl,hfin.out⟩)
theorem BV (B b n:Nat) (w:World) (hB:B≤b) (hbk:w.heap[b]?=some (.cells #[.pointer none,.slice none 0 0] 208 (0,0))) (hBw:B≤w.heap.size) (hn:n≤1000000):
  Calls Tryz.prog 229 #[.pointer (some ⟨b,0,none⟩),.int .i64 (n:Int)] w fun e w'=>e=.returned (.tuple #[])∧(jI B b [] w'∧Below B w w'):=by
 have hbk1:(w.setCell ⟨b,0,none⟩ (.pointer (some ⟨b,0,none⟩))).heap[b]?=some (.cells #[.pointer (some ⟨b,0,none⟩),.slice none 0 0] 208 (0,0)):=by
  simp [World.setCell,Array.getElem?_modify,hbk]
 have hsz:B≤(w.setCell ⟨b,0,none⟩ (.pointer (some ⟨b,0,none⟩))).heap.size:=by simpa [World.setCell] using hBw
 have HC:=Lib.hid (iT b w (by rw [Lib.cell_of_heap hbk];rfl) (by simp [World.shape?,hbk]) (Lib.frozen_of_heap hbk 0))
 have HB1:=Lib.hid ((Below.refl B w).setCell (p:=⟨b,0,none⟩) hB (.pointer (some ⟨b,0,none⟩)))
 generalize w.setCell ⟨b,0,none⟩ (.pointer (some ⟨b,0,none⟩))=w1 at hbk1 hsz HC HB1
 have c1:w1.cell? ⟨b,1,none⟩=some (.slice none 0 0):=by rw [Lib.cell_of_heap hbk1];rfl
 have HU:Hid (jI B b [] w1):=Lib.hid ⟨hB,.slice none 0 0,hbk1,World.ownsRow_nil _ _ _ _,by simp [Value.ownBlock]⟩
 have HG:=Lib.hid (vE B b n w1.drew hB hbk1 hsz hn)
 clear hbk1 hbk hsz
 have h0:¬ (n:Int)<0:=by omega
 go_enter Tryz.func229,Tryz.ntmps229
 go_wp2_with (go_at_call 228;refine HC.out.mono ?_;rintro e w' ⟨rfl,rfl⟩)
 go_region
 by_cases hn0:0<n
 all_goals
  go_wp2_with (go_at_call 256;refine HG.out.mono ?_;rintro e w' ⟨rfl,h1,h2⟩)
  first
   | (go_end0;exact ⟨rfl,h1,HB1.out.drew.trans h2⟩)
   | (go_end0;exact ⟨rfl,HU.out.drew,HB1.out.drew⟩)
theorem zo (B b:Nat) (l:List UInt8) (ad:Addr) (m c:Nat) (news:List UInt8) (w:World) (h:jI B b l w)
  (hl:news.length=m) (hnews:∀ j u,(ab news)[j]?=some u→w.cell? (ad.add j)=some u) (hlen:l.length+m≤1000000) (hBw:B≤w.heap.size):
  Calls Tryz.prog 230 #[.pointer (some ⟨b,0,none⟩),.slice (some ad) m c] w fun e w'=>e=.returned (.tuple #[.int .i64 m,.nilIface])∧(jI B b (l++news) w'∧Below B w w'):=by
 obtain ⟨i,hi,hz⟩:=Option.map_eq_some_iff.1 zx
 have hzero:i.zero=some (.int .u8 0):=by
  have:=zn
  rw [hi] at this
  simpa using this
 obtain ⟨hB,v,hbk,hown,hne⟩:=h
 have c0:w.cell? ⟨b,0,none⟩=some (.pointer (some ⟨b,0,none⟩)):=by rw [Lib.cell_of_heap hbk];rfl
 have c1:w.cell? ⟨b,1,none⟩=some v:=by rw [Lib.cell_of_heap hbk];rfl
 have HC:=Lib.hid (ow b w c0)
 have hlt:=ns hbk
 rw [aj] at hown
 go_enter Tryz.func230,Tryz.ntmps230
 go_wp2_with (first
  | (go_at_call 228;refine HC.out.mono ?_;rintro e w' ⟨rfl,rfl⟩)
  | (at_builtin;refine wpList_append_own _ rfl _ _ 40 rfl B 5 i (.int .u8 0) 1 1 Tryz.underlying40 hi hzero (congrArg Prod.fst hz) (congrArg Prod.snd hz) rfl (by decide) _ _ _ rfl hown ad m c (ab news) rfl (by rw [aj];omega) hnews (bV _) ?c3 ?c4 hBw ?_))
 case c3=>unfold maxLen;omega
 case c4=>omega
 intro v' w2 hown' hgrow _
 have hb2:w2.heap[b]?=some (.cells #[.pointer (some ⟨b,0,none⟩),v] 208 (0,0)):=(hgrow.block b hlt (fun e=>hne e.symm)).trans hbk
 have d0:w2.cell? ⟨b,0,none⟩=some (.pointer (some ⟨b,0,none⟩)):=by rw [Lib.cell_of_heap hb2];rfl
 have d1:w2.cell? ⟨b,1,none⟩=some v:=by rw [Lib.cell_of_heap hb2];rfl
 have f1:w2.frozen? ⟨b,1,none⟩=false:=Lib.frozen_of_heap hb2 1
 have hbel:Below B w w2:=⟨hgrow.os,hgrow.tape,hgrow.output,hgrow.size,fun k hk=>hgrow.block k (by omega) (fun e=>by
  rcases hown.2 with ⟨hv,_⟩ | ⟨g,cap,cur,hv,hg,_⟩
  ·rw [hv] at e;cases e
  ·rw [hv] at e
   simp only [Value.ownBlock,Option.some.injEq] at e
   omega)⟩
 have HF:Hid (jI B b (l++news) (w2.setCell ⟨b,1,none⟩ v')):=Lib.hid (Lib.BuilderAt.put hB hb2 (by rw [aj,List.length_append,hl];unfold ab at hown' ⊢;rw [List.map_append];exact hown') tF)
 have HB:=Lib.hid (hbel.setCell (p:=⟨b,1,none⟩) hB v')
 obtain ⟨ao,n',cap,rfl⟩:∃ ao n' cap,v'=.slice ao n' cap:=by
  rcases hown'.2 with ⟨hv,_⟩ | ⟨g,cap,cur,hv,_⟩
  ·exact ⟨_,_,_,hv⟩
  ·exact ⟨_,_,_,hv⟩
 clear hbel hown' hgrow hb2 hown hbk hne
 go_wp2
 go_ret2
 exact ⟨rfl,HF.out,HB.out⟩
theorem tE (B b:Nat) (l:List UInt8) (w:World) (h:jI B b l w) (h0:l≠[]) (hm:l.length≤1000000):
  Calls Tryz.prog 190 #[.pointer (some ⟨b,0,none⟩)] w fun e w'=>e=.returned (.string (strOf l))∧Below B w w':=by
 obtain ⟨hB,v,hbk,hown,hne⟩:=h
 have hl0:l.length≠0:=by simpa using h0
 rw [aj] at hown
 obtain ⟨g,cap,cur,rfl,hbg,hg,hnc,hcm,hcs,htake⟩:∃ g cap cur,v=.slice (some ⟨g,0,none⟩) l.length cap∧B≤g∧w.heap[g]?=some (.cells cur 5 (0,0))∧l.length≤cap∧cap≤maxLen∧cur.size=cap*1∧cur.toList.take (l.length*1)=ab l:=by
  rcases hown.2 with ⟨_,hz⟩ | ⟨g,cap,cur,hv,r⟩
  ·exact absurd hz hl0
  ·exact ⟨g,cap,cur,hv,r⟩
 have c1:w.drew.cell? ⟨b,1,none⟩=some (.slice (some ⟨g,0,none⟩) l.length cap):=by
  have:w.drew.heap[b]?=_:=hbk
  rw [Lib.cell_of_heap this];rfl
 have hSD:(Builtin.unsafeSliceData_ #[40] 244 #[.slice (some ⟨g,0,none⟩) l.length cap]).run Tryz.prog w.drew=.ok (.pointer (some ⟨g,0,none⟩)) w.drew:=
  Lib.run_unsafeSliceData_row _ _ _ _ _ _ (by omega)
 have hUS:(Builtin.unsafeString_ #[244,3] 9 #[.pointer (some ⟨g,0,none⟩),.int .i64 l.length]).run Tryz.prog w.drew=.ok (.string (strOf l)) (w.drew.freeze ⟨g,0,none⟩ l.length):=by
  refine Lib.run_unsafeString_row w.drew 244 3 9 5 Tryz.underlying244 yl g cur.size (by have hg':w.drew.heap[g]?=some (.cells cur 5 (0,0)):=hg;simp [World.shape?,hg']) l h0 (by omega) (by omega) ?_
  intro j x hx
  exact hown.cells (g:=g) rfl j (.int .u8 x.toNat) (by simp [ab,hx])
 have HB:Hid (Below B w (w.drew.freeze ⟨g,0,none⟩ l.length)):=Lib.hid (Lib.below_freeze (Below.drew (Below.refl B w)) (p:=⟨g,0,none⟩) hbg _)
 have hk:l.length≤9223372036854775807:=by omega
 generalize strOf l=s at hUS ⊢
 clear hown htake hcs hg hbk hne h0 hl0
 go_enter Tryz.func190,Tryz.ntmps190
 go_wp2
 go_region
 all_goals (go_wp2;go_ret;exact ⟨rfl,HB.out⟩)
theorem vD (B b:Nat) (p:Value) (w:World) (hbk:w.heap[b]?=some (.cells #[p,.slice none 0 0] 208 (0,0))):
  Calls Tryz.prog 190 #[.pointer (some ⟨b,0,none⟩)] w fun e w'=>e=.returned (.string (strOf []))∧Below B w w':=by
 have hUS:∀ (W:World) (q:Option Addr),(Builtin.unsafeString_ #[244,3] 9 #[.pointer q,.int .i64 0]).run Tryz.prog W=.ok (.string .empty) W:=fun W q=>Lib.run_unsafeString_none W _ _ _ q
 have c1:w.drew.cell? ⟨b,1,none⟩=some (.slice none 0 0):=by
  have:w.drew.heap[b]?=_:=hbk
  rw [Lib.cell_of_heap this];rfl
 have hSD:(Builtin.unsafeSliceData_ #[40] 244 #[.slice none 0 0]).run Tryz.prog w.drew=.ok (.pointer none) w.drew:=rfl
 clear hbk
 go_enter Tryz.func190,Tryz.ntmps190
 go_wp2
 go_region
 all_goals (go_wp2;go_ret;exact ⟨rfl,Below.drew (Below.refl B w)⟩)
end

section
open Dk (av aa)
open Go.RowKit
structure ei (w:World) (A:Option Addr) (n:Nat) (ps:List (List UInt8)):Prop where
 len:ps.length=n
 small:n≤maxLen
 size:∀ i,i<n→(ps.getD i []).length=64
 cells:0<n→∃ b off,A=some ⟨b,off,none⟩∧b<w.heap.size∧∀ i,i<n→w.rangeAt b (off+i*64) (ab (ps.getD i []))
theorem ye (ps:List (List UInt8)) (k:Nat) (h:k<ps.length):(ps.take (k+1)).flatten=(ps.take k).flatten++ps.getD k []:=by
 rw [take_one ps [] k h,List.flatten_append];simp
theorem pk (ps:List (List UInt8)) (n:Nat) (hl:ps.length=n) (hs:∀ i,i<n→(ps.getD i []).length=64):∀ k,k≤n→(ps.take k).flatten.length=k*64
 | 0,_=>by simp
 |
  k+1,hk=>by
  rw [ye ps k (by omega),List.length_append,pk ps n hl hs k (by omega),hs k (by omega)];omega
theorem jI.below {N B b:Nat} {l:List UInt8} {w w':World} (h:jI B b l w) (hb:Below N w w') (hN:w.heap.size≤N):jI B b l w':=by
 obtain ⟨hB,v,hbk,hown,hne⟩:=h
 have hlt:=ns hbk
 refine ⟨hB,v,(hb.block b (by omega)).trans hbk,⟨hown.1,?_⟩,hne⟩
 rcases hown.2 with h1 | ⟨g,cap,cur,hv,hg,hgk,r⟩
 ·exact Or.inl h1
 ·have:=ns hgk
  exact Or.inr ⟨g,cap,cur,hv,hg,(hb.block g (by omega)).trans hgk,r⟩
theorem zy (B b:Nat) (w:World) (hB:B≤b) (hbk:w.heap[b]?=some (.cells #[.pointer none,.slice none 0 0] 208 (0,0))):
  Calls Tryz.prog 229 #[.pointer (some ⟨b,0,none⟩),.int .i64 0] w fun e w'=>e=.returned (.tuple #[])∧(w'.heap[b]?=some (.cells #[.pointer (some ⟨b,0,none⟩),.slice none 0 0] 208 (0,0))∧Below B w w'):=by
 have hbk1:(w.setCell ⟨b,0,none⟩ (.pointer (some ⟨b,0,none⟩))).heap[b]?=some (.cells #[.pointer (some ⟨b,0,none⟩),.slice none 0 0] 208 (0,0)):=by
  simp [World.setCell,Array.getElem?_modify,hbk]
 have HC:=Lib.hid (iT b w (by rw [Lib.cell_of_heap hbk];rfl) (by simp [World.shape?,hbk]) (Lib.frozen_of_heap hbk 0))
 have HB1:=Lib.hid ((Below.refl B w).setCell (p:=⟨b,0,none⟩) hB (.pointer (some ⟨b,0,none⟩)))
 generalize w.setCell ⟨b,0,none⟩ (.pointer (some ⟨b,0,none⟩))=w1 at hbk1 HC HB1
 have c1:w1.cell? ⟨b,1,none⟩=some (.slice none 0 0):=by rw [Lib.cell_of_heap hbk1];rfl
 have HK:Hid (w1.drew.heap[b]?=_):=Lib.hid hbk1
 clear hbk1 hbk
 go_enter Tryz.func229,Tryz.ntmps229
 go_wp2_with (go_at_call 228;refine HC.out.mono ?_;rintro e w' ⟨rfl,rfl⟩)
 go_region
 go_wp2
 go_end0
 exact ⟨rfl,HK.out,HB1.out.drew⟩
theorem mE (w:World):(w.alloc (.cells #[.pointer none,.slice none 0 0] 208)).heap[w.heap.size]?=some (.cells #[.pointer none,.slice none 0 0] 208 (0,0)):=by
 unfold World.alloc;exact Array.getElem?_push_size
theorem Dh (A:Option Addr) (c:Nat) (w:World):
  Calls Tryz.prog 193 #[.slice A 0 c] w fun e w'=>e=.returned (.string (strOf []))∧Below w.heap.size w w':=by
 have HB:Hid (Below w.heap.size w (w.alloc (.cells #[.pointer none,.slice none 0 0] 208))):=Lib.hid ((Below.refl _ _).alloc (Nat.le_refl _) _)
 have HG:=Lib.hid (zy w.heap.size w.heap.size _ (Nat.le_refl _) (mE w))
 go_enter Tryz.func193,Tryz.ntmps193
 go_wp2_with (go_at_call 229;refine HG.out.mono ?_;rintro e w1 ⟨rfl,hk,hb⟩)
 have HS:=Lib.hid (vD w.heap.size w.heap.size _ w1 hk)
 clear hk
 go_loop [12] (fun i=>i=.int .i64 0) (fun _=>0)
 case atStart=>exact rfl
 case round=>
  obtain rfl:=hrel
  go_wp2_with (go_at_call 190;refine HS.out.mono ?_;rintro e w2 ⟨rfl,hb2⟩)
  go_ret
  exact ⟨rfl,(HB.out.trans hb).trans hb2⟩
theorem Gi (b off n c:Nat) (ps:List (List UInt8)) (w:World) (hl:ps.length=n) (hn:n≤1000) (hpos:0<n) (hb:b<w.heap.size)
    (hsize:∀ i,i<n→(ps.getD i []).length=64) (hcell:∀ i,i<n→w.rangeAt b (off+i*64) (ab (ps.getD i []))):
    Calls Tryz.prog 193 #[.slice (some ⟨b,off,none⟩) n c] w fun e w'=>e=.returned (.string (strOf ps.flatten))∧Below w.heap.size w w':=by
  have HB:Hid (Below w.heap.size w (w.alloc (.cells #[.pointer none,.slice none 0 0] 208))):=Lib.hid ((Below.refl _ _).alloc (Nat.le_refl _) _)
  have hg:=BV w.heap.size w.heap.size (n*64) _ (Nat.le_refl _) (mE w) (by simp) (by omega)
  rw [Int.natCast_mul] at hg
  have HG:=Lib.hid hg
  clear hg
  have HC:=Lib.hid hcell
  have HL:=Lib.hid hl
  have HZ:=Lib.hid hsize
  have HF:=Lib.hid (pk ps n hl hsize)
  clear hcell hl hsize
  go_enter Tryz.func193,Tryz.ntmps193
  go_wp2_with fail
  refine HG.out.mono ?_
  rintro e w1 ⟨rfl,hk1,hb1⟩
  have HK1:=Lib.hid hk1
  have HB1:=Lib.hid (HB.out.trans hb1)
  clear hk1 hb1 HG HB
  go_wp2_with fail
  go_loopw [12] (fun i wr=>∃ k:Nat,k≤n∧i=.int .i64 k∧jI w.heap.size w.heap.size (ps.take k).flatten wr∧Below w.heap.size w wr) (fun i _=>n - (intOf i).toNat)
  case atStart=>exact ⟨0,Nat.zero_le _,rfl,HK1.out,HB1.out⟩
  case round=>
    obtain ⟨k,hk,rfl,hbk,hbel⟩:=hrel
    have HBK:=Lib.hid hbk
    clear hbk
    have hfl:=HF.out k hk
    by_cases hlt:k<n
    · have HS:=Lib.hid (ye ps k (by rw [HL.out];exact hlt))
      have hcr:Hid (wr.rangeAt b (off+k*64) (ab (ps.getD k []))):=Lib.hid fun j v hv=>(hbel.cell (p:=⟨b,off+k*64+j,none⟩) hb).trans (HC.out k hlt j v hv)
      have hz:=Lib.hid (HZ.out k hlt)
      generalize ps.getD k []=p at hcr HS hz
      have hlen:Hid ((ab p).length=64):=Lib.hid (by rw [aj];exact hz.out)
      have hfl':(ps.take k).flatten.length≤64000:=by omega
      clear hfl
      generalize (ps.take k).flatten=l at HBK HS hfl'
      go_wp2_with (first
        | (with_reducible refine wpList_load_mid rfl 87 (.tmp 14) rfl b (off+k*64) rfl (ab p) _ hcr.out Tryz.underlying87 rfl (aY.trans (congrArg some hlen.out.symm)) ?_)
        | ((with_reducible refine aq rfl (.tmp 5) (.tmp 15) rfl rfl ?_ ?_ hz.out ?_);(exact rfl);(exact rfl);intro W2 hP hB2 hz2
           have hsl:=kT W2 wr.heap.size
           have HW:=Lib.hid (zo w.heap.size w.heap.size l ⟨wr.heap.size,0,none⟩ 64 64 p W2 (HBK.out.below hB2 (Nat.le_refl _)) hz.out (fun j u hu=>by rw [Addr.add_mid];exact hP.range j u hu) (by omega) (Nat.le_trans hbel.size hB2.size)))
        | (go_at_call 230;refine HW.out.mono ?_;rintro e w3 ⟨rfl,hk3,hb3⟩))
      go_roundw
      case rel=>exact ⟨k+1,by omega,by go_num,by rw [HS.out];exact hk3,(hbel.trans (hB2.mono hbel.size)).trans hb3⟩
      case measure=>simp [intOf];omega
    · have HKK:ps.take k=ps:=List.take_of_length_le (by rw [HL.out];omega)
      obtain rfl:k=n:=by omega
      rw [HKK] at HBK hfl
      have HS:=Lib.hid (tE w.heap.size w.heap.size ps.flatten wr HBK.out (fun e=>by rw [e] at hfl;simp at hfl;omega) (by omega))
      clear hfl HKK
      go_wp2_with (go_at_call 190;refine HS.out.mono ?_;rintro e w2 ⟨rfl,hb2⟩)
      go_ret
      exact ⟨rfl,hbel.trans hb2⟩
theorem BU (A:Option Addr) (n c:Nat) (ps:List (List UInt8)) (w:World) (h:ei w A n ps) (hn:n≤1000):
  Calls Tryz.prog 193 #[.slice A n c] w fun e w'=>e=.returned (.string (strOf ps.flatten))∧Below w.heap.size w w':=by
 by_cases h0:n=0
 ·subst h0
  have hs:ps=[]:=List.eq_nil_of_length_eq_zero h.len
  subst hs
  exact Dh A c w
 ·obtain ⟨b,off,rfl,hlt,hc⟩:=h.cells (by omega)
  exact Gi b off n c ps w h.len hn (by omega) hlt h.size hc
end

section
open Dk (av aa)
open Go.RowKit
structure hU (w:World) (b:Nat) (L:List UInt8):Prop where
 range:w.rangeAt b 0 (ab L)
 free:w.there b 0 L.length
theorem zr (w:World) (L:List UInt8) (t:TypeId):hU (w.alloc (.cells (ab L).toArray t)) w.heap.size L where
 range:=fun j v hv=>by
  rw [Nat.zero_add,World.cell?_alloc_mark]
  simpa using hv
 free:=eY w _ t _ (by rw [List.size_toArray,aj];omega)
theorem hU.over {w:World} {b:Nat} {L:List UInt8} (h:hU w b L) (a:Nat) (s:List UInt8) (hs:a+s.length≤L.length):hU (w.setCells b a (ab s)) b (Pg.over L a s) where
 range:=fun j v hv=>by
  rw [Nat.zero_add]
  have hv':(Pg.over L a s)[j]?.map (fun c=>Value.int .u8 (c.toNat:Int))=Option.some v:=by rw [← hv];unfold ab;rw [List.getElem?_map]
  rw [Pg.eF _ _ _ _ hs] at hv'
  by_cases h1:a≤j∧j<a+s.length
  ·rw [if_neg (by omega),if_pos h1.2] at hv'
   have hin:=World.cell?_setCells_in b (ab s) a w (fun i hi=>by
    have:=(h.free (a+i) (by rw [aj] at hi;omega)).1
    rwa [Nat.zero_add] at this) (j - a) (by rw [aj];omega)
   rw [show a+(j - a)=j by omega] at hin
   rw [hin,← hv',← List.getElem?_eq_getElem]
   unfold ab
   rw [List.getElem?_map]
  ·rw [World.cell?_setCells_out b (ab s) a w ⟨b,j,none⟩ (fun _ _=>by rw [aj];show j<a∨a+s.length≤j;omega)]
   have hpj:L[j]?.map (fun c=>Value.int .u8 (c.toNat:Int))=Option.some v:=by
    by_cases h2:j<a
    ·rw [if_pos h2] at hv';exact hv'
    ·rw [if_neg h2,if_neg (by omega)] at hv';exact hv'
   have:=h.range j v (by unfold ab;rw [List.getElem?_map];exact hpj)
   rwa [Nat.zero_add] at this
 free:=by
  rw [Pg.bj _ _ _ hs]
  exact World.there_setCells h.free _ _ _
theorem hU.drew {w:World} {b:Nat} {L:List UInt8} (h:hU w b L):hU w.drew b L:=⟨(World.rangeAt_drew ..).2 h.range,(World.there_drew ..).2 h.free⟩
theorem hU.part {w:World} {b:Nat} {L:List UInt8} (h:hU w b L) (a n:Nat):w.rangeAt b a (ab ((L.drop a).take n)):=fun j v hv=>by
 unfold ab at hv
 rw [List.getElem?_map,List.getElem?_take] at hv
 by_cases hj:j<n
 ·rw [if_pos hj,List.getElem?_drop] at hv
  have:=h.range (a+j) v (by unfold ab;rw [List.getElem?_map];exact hv)
  rwa [Nat.zero_add] at this
 ·rw [if_neg hj] at hv;cases hv
theorem zv (N:Nat):madeCells (Value.agg zeroCells).cells N=(ab (List.replicate N 0)).toArray:=by
 apply Array.ext'
 have hz:∀ i,i<64→(zeroCells:Array Value)[i]! = .int .u8 0:=fun i hi=>by
  have h1:zeroCells[i]?=some (.int .u8 0):=by
   unfold zeroCells
   rw [List.getElem?_toArray,cd av i (by rw [aa];exact hi)]
   have h2:∀ (j:Nat) (hj:j<av.length),av[j]=0:=fun j hj=>List.getElem_replicate ..
   rw [h2];rfl
  rw [getElem!_def,h1]
 have hs:(Value.agg zeroCells).cells=zeroCells:=rfl
 have hsz:zeroCells.size=64:=rfl
 rw [hs]
 unfold madeCells
 rw [hsz,Array.toList_map,Array.toList_range]
 unfold ab
 rw [List.map_replicate]
 apply List.ext_getElem
 ·simp
 ·intro i h1 h2
  simp only [List.getElem_map,List.getElem_range,List.getElem_replicate]
  exact hz _ (Nat.mod_lt _ (by omega))
theorem zw:(Tryz.prog.info? 87).map (fun i=>(i.zero,i.size,i.bytes))=some (some (.agg zeroCells),64,64):=by kernel_rfl
theorem ov (w:World) (n:Nat) (hn:n≤1100):(Instr.makeSlice 81 (.int .i64 (n:Int)) (.int .i64 (n:Int))).run Tryz.prog w=.ok (.slice (some ⟨w.heap.size,0,none⟩) n n) (w.alloc (.cells (ab (List.replicate (n*64) 0)).toArray 87)):=by
 obtain ⟨i,hi,hz,hs,hb⟩:=info_parts zw
 have:=run_make (P:=Tryz.prog) w 81 87 i (.agg zeroCells) Tryz.underlying81 hi hz .i64 .i64 (n:Int) (n:Int) (by omega) (by omega) (by rw [hb];omega) (by omega)
 rw [hs,Int.toNat_natCast,zv] at this
 exact this
theorem pL (w:World) (b o:Nat):
  (Instr.sliceAt 87 (.pointer (some ⟨b,o,none⟩)) none none none).run Tryz.prog w=.ok (.slice (some ⟨b,o,none⟩) 64 64) w:=by
 rw [run_sliceAt_array_all w _ _ sL,Ai,fU,Hl,Result.andThen_ok]
 unfold slicedAt
 rw [if_neg (by omega),Nat.zero_mul,Addr.add_mid,Nat.add_zero]
theorem rv (w:World) (b o:Nat) (s:ByteArray) (a:Nat) (l:List UInt8) (hl:l=(s.data.toList.drop a).take 64) (ha:a≤s.size) (ht:w.there b o l.length):
  (Builtin.copy_ #[40,9] 3 #[.slice (some ⟨b,o,none⟩) 64 64,.string (s.extract a s.size)]).run Tryz.prog w=.ok (goInt l.length) (w.setCells b o (ab l)):=by
 have hu:(s.extract a s.size).data.toList=s.data.toList.drop a:=by
  rw [ByteArray.data_extract,Array.toList_extract]
  apply List.take_of_length_le
  simp
 have husz:(s.extract a s.size).size=s.size - a:=by simp
 have hll:l.length=min 64 (s.size - a):=by rw [hl];simp
 have hmin:Nat.min (s.extract a s.size).size 64=l.length:=by rw [husz,hll];exact Nat.min_comm _ _
 have hcells:((s.extract a s.size).extract 0 l.length).data.map (fun b=>Value.int .u8 (b.toNat:Int))=(ab l).toArray:=by
  unfold ab
  apply Array.ext'
  rw [Array.toList_map]
  congr 1
  rw [ByteArray.data_extract,Array.toList_extract,hu,List.extract_eq_take_drop,List.drop_zero,Nat.sub_zero]
  conv=>rhs;rw [hl]
  rw [List.take_eq_take_iff]
  rw [hll]
  simp
 have hst:=run_storeCells_cells (P:=Tryz.prog) b o (ab l) 0 w (fun j hj=>(ht j (by rw [aj] at hj;exact hj)).1) (fun j hj=>(ht j (by rw [aj] at hj;exact hj)).2) (bV _)
 rw [Nat.add_zero] at hst
 have hsz:=fU w
 unfold Builtin.copy_
 simp only [List.getElem?_toArray,List.getElem?_cons_zero,List.getElem?_cons_succ,Sem.run_bind,run_underlying Tryz.underlying40,Result.andThen_ok,Builtin.lenOf,Sem.run_pure,hmin,hsz,Builtin.firstCells,hcells,hst]
theorem zu (p a c:List UInt8):Pg.over (Pg.over p 0 a) a.length c=Pg.over p 0 (a++c):=by
 unfold Pg.over
 simp [List.drop_append,List.take_append]
def eR (n:Nat) (l:List UInt8):List UInt8:=Pg.over (List.replicate (n*64) 0) 0 l
theorem yW (s:ByteArray) (n:Nat) (w:World) (hn:n=(s.size+63) / 64) (hs:s.size≤70000):
  Calls Tryz.prog 185 #[.string s] w fun e w'=>e=.returned (.slice (some ⟨w.heap.size,0,none⟩) n n)∧hU w' w.heap.size (eR n s.data.toList)∧w.heap.size<w'.heap.size∧Below w.heap.size w w':=by
 have hq:((s.size:Int)+64 - 1) / 64=(n:Int):=by omega
 have hmk:=ov w n (by omega)
 have HN:=Lib.hid hn
 clear hn
 go_enter Tryz.func185,Tryz.ntmps185
 go_wp2_with fail
 have HR:=Lib.hid (zr w (List.replicate (n*64) 0) 87)
 have HB:Hid (Below w.heap.size w (w.alloc (.cells (ab (List.replicate (n*64) 0)).toArray 87))):=Lib.hid ((Below.refl _ _).alloc (Nat.le_refl _) _)
 have hz:w.heap.size<(w.alloc (.cells (ab (List.replicate (n*64) 0)).toArray 87)).heap.size:=by simp
 have HZ:=Lib.hid hz
 clear hz hmk hq
 generalize w.alloc (.cells (ab (List.replicate (n*64) 0)).toArray 87)=w1 at HR HB HZ ⊢
 go_loopw [13] (fun i wr=>∃ k:Nat,k≤n∧i=.int .i64 k∧hU wr w.heap.size (eR n (s.data.toList.take (k*64)))∧w.heap.size<wr.heap.size∧Below w.heap.size w wr) (fun i _=>n - (intOf i).toNat)
 case atStart=>exact ⟨0,Nat.zero_le _,rfl,by rw [Nat.zero_mul,List.take_zero,eR,Pg.xI];exact HR.out,HZ.out,HB.out⟩
 case round=>
  obtain ⟨k,hk,rfl,hr,hsz,hbel⟩:=hrel
  have HRK:=Lib.hid hr
  clear hr
  by_cases hlt:k<n
  ·have hsl:=pL wr.drew w.heap.size (k*64)
   have hb1:(k:Int)*64≤(s.size:Int):=by have:=HN.out;omega
   have hb0:0≤(k:Int)*64:=by omega
   obtain ⟨l,hl⟩:∃ l,l=(s.data.toList.drop (k*64)).take 64:=⟨_,rfl⟩
   have hll:l.length≤64:=by rw [hl];simp;omega
   have htk:(s.data.toList.take (k*64)).length=k*64:=by simp;omega
   have hstep:eR n (s.data.toList.take ((k+1)*64))=Pg.over (eR n (s.data.toList.take (k*64))) (k*64) l:=by
    unfold eR
    have:=zu (List.replicate (n*64) 0) (s.data.toList.take (k*64)) l
    rw [htk] at this
    rw [this,hl,Nat.add_mul,Nat.one_mul,List.take_add]
   have hfit:k*64+l.length≤(eR n (s.data.toList.take (k*64))).length:=by
    unfold eR
    rw [Pg.bj _ _ _ (by rw [htk,List.length_replicate];omega),List.length_replicate];omega
   have hcp:=rv wr.drew w.heap.size (k*64) s (k*64) l hl (by omega) (fun j hj=>by
    have:=HRK.out.drew.free (k*64+j) (by omega)
    rwa [Nat.zero_add] at this)
   have HR2:=Lib.hid (HRK.out.drew.over (k*64) l hfit)
   have HS:=Lib.hid hstep
   clear hl htk hstep hfit hll
   go_wp2_with fail
   go_region
   go_wp2_with fail
   go_roundw
   case rel=>
    refine ⟨k+1,by omega,by go_num,by rw [HS.out];exact HR2.out,?_,?_⟩
    ·rw [bC];exact hsz
    ·exact below_setCells _ (Nat.le_refl _) _ _ _ hbel.drew
   case measure=>simp [intOf];omega
  ·have htk:s.data.toList.take (k*64)=s.data.toList:=List.take_of_length_le (by have:=HN.out;simp;omega)
   rw [htk] at HRK
   clear htk
   go_wp2
   go_ret
   exact ⟨rfl,HRK.out,hsz,hbel⟩
end

section
open Dk (av aa)
open Go.RowKit
def kq (n:Nat) (L:List UInt8):List (List UInt8):=(List.range n).map fun i=>(L.drop (i*64)).take 64
theorem lD (n:Nat) (L:List UInt8):(kq n L).length=n:=by simp [kq]
theorem uB (n:Nat) (L:List UInt8) (i:Nat) (h:i<n):(kq n L).getD i []=(L.drop (i*64)).take 64:=by
 unfold kq
 rw [List.getD_eq_getElem?_getD,List.getElem?_map,List.getElem?_range h];rfl
theorem Cm (n:Nat) (l:List UInt8):eR n l=l++List.replicate (n*64 - l.length) 0:=by
 unfold eR Pg.over
 simp [List.drop_replicate]
theorem rL (n:Nat) (l:List UInt8) (h:l.length≤n*64):(eR n l).length=n*64:=by
 rw [Cm];simp;omega
theorem hU.dJ {w:World} {b n:Nat} {L:List UInt8} (h:hU w b L) (hL:L.length=n*64) (hb:b<w.heap.size) (hn:n≤1100):ei w (some ⟨b,0,none⟩) n (kq n L) where
 len:=lD n L
 small:=by unfold maxLen;omega
 size:=fun i hi=>by rw [uB n L i hi];simp;omega
 cells:=fun _=>⟨b,0,rfl,hb,fun i hi=>by rw [uB n L i hi,Nat.zero_add];exact h.part (i*64) 64⟩
theorem qp (s:ByteArray) (n:Nat) (w:World) (hn:n=(s.size+63) / 64) (hs:s.size≤70000):
  Calls Tryz.prog 185 #[.string s] w fun e w'=>e=.returned (.slice (some ⟨w.heap.size,0,none⟩) n n)∧ei w' (some ⟨w.heap.size,0,none⟩) n (kq n (eR n s.data.toList))∧w.heap.size<w'.heap.size∧Below w.heap.size w w':=by
 refine (yW s n w hn hs).mono ?_
 rintro e w' ⟨rfl,hr,hz,hb⟩
 exact ⟨rfl,hr.dJ (rL n _ (by simp;omega)) hz (by omega),hz,hb⟩
end

end Go.Proofs.YtagfoogfpabdfaaGreat
set_option maxRecDepth 100000
namespace Go.Proofs.YtagfoogfpabdfaaGreat
open Go.RowKit Go.Maps
open Dk (av aa)
open Ii (Ino)
open Dm (Ent Has)
def dr (e:Ent):List Value:=jD e.1 (strOf e.2)
theorem bp (e:Ent):(dr e).length=2:=rfl
theorem nC (e:Ent):∀ v∈dr e,v.oneCell'=true:=iJ _ _
def rf (e:Ent):List UInt8:=Nm.slot e.1 e.2
theorem dj (E:List Ent):(E.flatMap dr).length=E.length*2:=by
 induction E with
 | nil=>rfl
 | cons b t ih=>rw [List.flatMap_cons,List.length_append,ih,bp,List.length_cons];omega
theorem nA:∀ (E:List Ent) (i:Nat) (e:Ent) (j:Nat) (v:Value),E[i]?=some e→(dr e)[j]?=some v→(E.flatMap dr)[i*2+j]?=some v
 | [],i,x,j,v,hx,_=>by simp at hx
 |
  y::r,0,x,j,v,hx,hv=>by
  simp at hx
  subst hx
  have hj:j<2:=(List.getElem?_eq_some_iff.1 hv).1
  rw [List.flatMap_cons,Nat.zero_mul,Nat.zero_add,List.getElem?_append_left (by rw [bp];exact hj)]
  exact hv
 |
  y::r,i+1,x,j,v,hx,hv=>by
  rw [List.flatMap_cons,List.getElem?_append_right (by rw [bp];omega),bp,show (i+1)*2+j - 2=i*2+j by omega]
  exact nA r i x j v (by simpa using hx) hv
def pgN (F:List UInt8):Nat:=(F.length+63) / 64
def eS (F:List UInt8):List (List UInt8):=kq (pgN F) (eR (pgN F) F)
def DP (b:List UInt8):Ent:=(Nm.ent b).getD (0,[])
def bg (F:List UInt8):List Ent:=(blocks (eS F)).map DP
def uV (n I d:Int) (V:Fs.View):Except Int (List UInt8):=match Fs.jb n I d 0 67840 V with
 | .error e=>.error e
 | .ok F=>if jc (blocks (eS F))=true then .ok F else .error 5
theorem lx {b:List UInt8} {e:Ent} (h:Nm.ent b=some e):Nm.bL e.1 e.2=true:=by
 unfold Nm.ent at h
 split at h
 ·injection h with h
  subst h
  rfl
 ·split at h
  ·cases h
  ·split at h
   ·rename_i c
    injection h with h
    subst h
    unfold Nm.bL
    rw [c.1,Bool.or_true]
   ·cases h
theorem wD (b:List UInt8):Nm.bL (DP b).1 (DP b).2=true:=by
 unfold DP
 cases h:Nm.ent b with
 | none=>rfl
 | some e=>exact lx h
theorem jB (F:List UInt8):∀ e∈bg F,Nm.bL e.1 e.2=true:=by
 intro e he
 obtain ⟨b,_,rfl⟩:=List.mem_map.1 he
 exact wD b
theorem JO (bs:List (List UInt8)):bs.flatMap eL=(bs.map DP).flatMap dr:=by
 rw [List.flatMap_map]
 rfl
theorem fe (F:List UInt8):(eS F).length=pgN F:=lD _ _
theorem eI (F:List UInt8):(bg F).length=4*pgN F:=by
 unfold bg
 rw [List.length_map,lE,fe]
theorem IC {n I d:Int} {V:Fs.View} {F:List UInt8} (h:uV n I d V=.ok F):Fs.jb n I d 0 67840 V=.ok F∧jc (blocks (eS F))=true:=by
 unfold uV at h
 cases hr:Fs.jb n I d 0 67840 V with
 | error e=>rw [hr] at h;cases h
 |
  ok G=>
  rw [hr] at h
  simp only at h
  split at h
  ·injection h with h
   subst h
   exact ⟨rfl,‹_›⟩
  ·cases h
theorem EX (p:List UInt8) (a n:Nat):(Pg.kj p a n).length≤n:=by
 unfold Pg.kj
 split
 ·rw [List.length_take];omega
 ·simp
theorem Jd:∀ (f off n:Nat),((Fs.pcs f off n).map (·.size)).sum≤n:=by
 intro f
 induction f with
 | zero=>intro off n;simp [Fs.pcs]
 |
  succ f ih=>
  intro off n
  unfold Fs.pcs
  split
  ·simp
  ·rw [List.map_cons,List.sum_cons]
   have:=ih (off+min n (64 - off % 64)) (n - min n (64 - off % 64))
   simp only
   omega
theorem xx {n I:Int} {x:Ino} {V:Fs.View}:∀ (cs:List Fs.Pc) {t:List UInt8},Fs.fb n I x V cs=.ok t→t.length≤(cs.map (·.size)).sum
 |
  [],t,h=>by
  rw [Fs.gQ] at h
  injection h with h
  subst h
  simp
 |
  c::cs,t,h=>by
  cases hp:Fs.gK n I x c.idx V with
  | error e=>rw [Fs.kY hp] at h;cases h
  |
   ok p=>
   rw [Fs.nr hp] at h
   cases hr:Fs.fb n I x V cs with
   | error e=>rw [hr] at h;cases h
   |
    ok t2=>
    rw [hr] at h
    unfold Fs.BO at h
    injection h with h
    subst h
    have h1:=xx cs hr
    have h2:=EX p c.at1 c.size
    rw [List.length_append,List.map_cons,List.sum_cons]
    omega
theorem rE {n I i off cnt:Int} {V:Fs.View} {t:List UInt8} (h:Fs.jb n I i off cnt V=.ok t):(t.length:Int)≤cnt:=by
 unfold Fs.jb at h
 split at h
 ·cases h
 ·rename_i x hx
  split at h
  ·cases h
  ·have h1:=xx _ h
   have h2:=Jd (min cnt (x.s - off)).toNat off.toNat (min cnt (x.s - off)).toNat
   unfold Fs.pieces at h1
   omega
theorem Fs.uv {n I m:Int} {V:Fs.View} {e:Int} (h:Fs.dL n I m V=.error e):e≠0:=by
 unfold Fs.dL at h
 split at h
 ·cases h
 ·split at h
  ·cases h
  ·injection h with h
   omega
theorem Fs.Du {n I:Int} {V:Fs.View}:∀ (l:List Int) (m:Int) {e:Int},Fs.goF n I V l m=.error e→e≠0
 | [],m,e,h=>by cases h
 |
  k::ks,m,e,h=>by
  unfold Fs.goF at h
  cases hd:Fs.dL n I m V with
  |
   error e2=>
   rw [hd] at h
   injection h with h
   subst h
   exact Fs.uv hd
  | ok p=>rw [hd] at h;exact Fs.Du ks _ h
theorem Fs.Ck {n I:Int} {x:Ino} {i:Int} {V:Fs.View} {e:Int} (h:Fs.gK n I x i V=.error e):e≠0:=by
 unfold Fs.gK at h
 cases hd:Fs.findF n I x i V with
 |
  error e2=>
  rw [hd] at h
  injection h with h
  subst h
  exact Fs.Du _ _ hd
 | ok m=>rw [hd] at h;exact Fs.uv h
theorem Fs.kX {n I:Int} {x:Ino} {V:Fs.View}:∀ (cs:List Fs.Pc) {e:Int},Fs.fb n I x V cs=.error e→e≠0
 | [],e,h=>by rw [Fs.gQ] at h;cases h
 |
  c::cs,e,h=>by
  cases hp:Fs.gK n I x c.idx V with
  |
   error e2=>
   rw [Fs.kY hp] at h
   injection h with h
   subst h
   exact Fs.Ck hp
  |
   ok p=>
   rw [Fs.nr hp] at h
   cases hr:Fs.fb n I x V cs with
   |
    error e2=>
    rw [hr] at h
    injection h with h
    subst h
    exact Fs.kX cs hr
   | ok t2=>rw [hr] at h;cases h
theorem Fs.yR {I i:Int} {V:Fs.View} {e:Int} (h:Fs.cV I i V=.error e):e≠0:=by
 unfold Fs.cV at h
 split at h
 ·split at h
  ·injection h with h;omega
  ·cases h
 ·injection h with h;omega
theorem Fs.tC {n I i off cnt:Int} {V:Fs.View} {e:Int} (h:Fs.jb n I i off cnt V=.error e):e≠0:=by
 unfold Fs.jb at h
 cases ht:Fs.cV I i V with
 |
  error e2=>
  rw [ht] at h
  injection h with h
  subst h
  exact Fs.yR ht
 |
  ok x=>
  rw [ht] at h
  simp only at h
  split at h
  ·injection h with h;omega
  ·exact Fs.kX _ h
open Fs (M andThen tell ret fail)
def Ll (E:List Ent) (t:List UInt8):Int:=match Dm.spot E t with
 | none=>0
 | some k=>(E.getD k (0,[])).1
def Im (F:List UInt8):Nat:=(Dm.room (bg F)).getD (bg F).length
def pq (n I d:Int) (F:List UInt8) (a:Nat) (e:Ent):M Unit:=Fs.iN n I d (((a / 4:Nat):Int)*64) (Nm.lay ((eS F).getD (a / 4) av) (a % 4) (rf e))
def kb (s:List UInt8) (i:Int):Int:=if Nm.chk s≠0 then Nm.chk s else if Nm.aA i s=true then 0 else 22
def pr (n I d:Int) (t:List UInt8) (i:Int):M Unit:=if kb t i≠0 then fail (kb t i) else andThen (tell (uV n I d)) fun F=>
 if (Dm.spot (bg F) t).isSome=true then fail 17 else pq n I d F (Im F) (i,t)
def si (n I d:Int) (t:List UInt8):M Unit:=andThen (tell (uV n I d)) fun F=>match Dm.spot (bg F) t with
 | none=>fail 2
 | some k=>pq n I d F k (0,[])
def iX (n I d:Int) (t:List UInt8):M Int:=andThen (tell (uV n I d)) fun F=>ret (Ll (bg F) t)
def Am (n I d:Int):M (List Ent):=andThen (tell (uV n I d)) fun F=>ret (Dm.live (bg F))
end Go.Proofs.YtagfoogfpabdfaaGreat

namespace Go.Proofs.YtagfoogfpabdfaaGreat

section
open Go.RowKit Go.Maps
open Dk (av aa)
open Ii (Ino)
open Dm (Ent Has)
theorem ei.inn {w:World} {A:Option Addr} {n:Nat} {ps:List (List UInt8)} (h:ei w A n ps):dM w A n ps where
 len:=h.len
 small:=h.small
 size:=fun p hp=>by
  obtain ⟨i,hi,he⟩:=List.getElem_of_mem hp
  have:=h.size i (by rw [← h.len];exact hi)
  rw [List.getD_eq_getElem?_getD,List.getElem?_eq_getElem hi,he] at this
  exact this
 rows:=⟨fun h0=>by
  rw [List.length_map,h.len] at h0
  obtain ⟨b,off,e,hlt,hc⟩:=h.cells h0
  refine ⟨b,off,e,hlt,fun i r hi=>?_⟩
  rw [List.getElem?_map] at hi
  obtain ⟨p,hp,rfl⟩:=Option.map_eq_some_iff.1 hi
  have hil:=(List.getElem?_eq_some_iff.1 hp).1
  have:=hc i (by rw [← h.len];exact hil)
  rw [List.getD_eq_getElem?_getD,hp] at this
  exact this⟩
structure mw (w0 w:World) (A1:Option Addr) (A2:Option Addr) (c2:Nat) (ps:List (List UInt8)) (E:List Ent):Prop where
 dJ:dM w A1 ps.length ps
 own:w.ownsRow w0.heap.size 66 2 (.slice A2 E.length c2) E.length (E.flatMap dr)
theorem mw.below {w0 w w':World} {A1 A2:Option Addr} {c2:Nat} {ps:List (List UInt8)} {E:List Ent} (h:mw w0 w A1 A2 c2 ps E) (hb:Below w.heap.size w w'):mw w0 w' A1 A2 c2 ps E:=
 ⟨h.dJ.step hb,qx h.own hb⟩
theorem oE {w:World} {base:Nat} {A:Option Addr} {c:Nat} {E:List Ent} (h:w.ownsRow base 66 2 (.slice A E.length c) E.length (E.flatMap dr)):
  (E=[]∨∃ g,A=some ⟨g,0,none⟩∧base≤g∧au w g (E.flatMap dr)):=by
 obtain ⟨h1,h2⟩:=h
 rcases h2 with ⟨e,e2⟩ | ⟨g,cap,cur,e,hb,hg,hcap,_,hsz,htk⟩
 ·exact Or.inl (List.eq_nil_of_length_eq_zero e2)
 ·injection e with e _ _
  refine Or.inr ⟨g,e,hb,⟨fun j v hv=>?_,fun j hj=>?_⟩⟩
  ·rw [← htk] at hv
   have hlt:j<E.length*2:=by
    have:=(List.getElem?_eq_some_iff.1 hv).1
    rw [List.length_take] at this;omega
   rw [List.getElem?_take_of_lt hlt] at hv
   simp only [World.cell?,hg,Nat.zero_add]
   simp only [Option.isSome_none,Bool.false_eq_true,if_false]
   rw [← Array.getElem?_toList]
   exact hv
  ·have hl:j<cur.size:=by
    have hcl:cur.toList.length=cur.size:=Array.length_toList
    rw [← htk,List.length_take,hcl] at hj
    omega
   refine ⟨?_,?_⟩
   ·simp only [World.cell?,hg,Nat.zero_add]
    simp only [Option.isSome_none,Bool.false_eq_true,if_false]
    rw [Array.getElem?_eq_getElem hl]
    rfl
   ·simp only [World.frozen?,hg,Nat.zero_add]
    simp
theorem FJ {w:World} {base base':Nat} {e:TypeId} {size:Nat} {v:Value} {n:Nat} {xs:List Value} (h:w.ownsRow base e size v n xs) (hb:base'≤base):w.ownsRow base' e size v n xs:=
 ⟨h.1,h.2.imp id fun ⟨g,cap,cur,h1,h2,h3⟩=>⟨g,cap,cur,h1,Nat.le_trans hb h2,h3⟩⟩
theorem Cn {w w':World} {base:Nat} {e:TypeId} {size:Nat} {v:Value} {n:Nat} {xs:List Value} {L:List Nat} (h:w.ownsRow base e size v n xs) (ho:aB L w w') (hL:∀ k∈L,k<base):w'.ownsRow base e size v n xs:=
 ⟨h.1,h.2.imp id fun ⟨g,cap,cur,h1,h2,h3,h4⟩=>⟨g,cap,cur,h1,h2,(ho.block g (Array.getElem?_eq_some_iff.1 h3).1 (fun q=>by have:=hL g q;omega)).trans h3,h4⟩⟩
theorem dM.only {w w':World} {g o n:Nat} {ps:List (List UInt8)} {L:List Nat} (h:dM w (some ⟨g,o,none⟩) n ps) (ho:aB L w w') (hg:g∉L):dM w' (some ⟨g,o,none⟩) n ps:=
 ⟨h.len,h.small,h.size,⟨fun h0=>by
  obtain ⟨b,off,e,hlt,hc⟩:=h.rows.cells h0
  injection e with e
  injection e with e1 e2
  subst e1 e2
  exact ⟨_,_,rfl,Nat.lt_of_lt_of_le hlt ho.size,fun i r hi=>cu (hc i r hi) (ho.block _ hlt hg)⟩⟩⟩
theorem KC {w0 w2 w3:World} {g:Nat} {A2:Option Addr} {c2 m X:Nat} {ps:List (List UInt8)} {E:List Ent} {us:List Value} (hl:ps.length=m) (hin:dM w3 (some ⟨g,0,none⟩) m ps) (hb0:w0.heap.size≤w2.heap.size) (hX:X<g) (hX2:X<w2.heap.size) (hown:w3.ownsRow w2.heap.size 66 2 (.slice A2 E.length c2) E.length (E.flatMap dr)):mw w0 (w3.setCells X 0 us) (some ⟨g,0,none⟩) A2 c2 ps E:=by
 have ho:aB [X] w3 (w3.setCells X 0 us):=(aB.refl [X] w3).setCells X (by simp) us 0 w3
 exact ⟨by rw [hl];exact hin.only ho (by simp;omega),FJ (Cn hown ho (by simpa using hX2)) hb0⟩
theorem mw.row {w0 w:World} {A1 A2:Option Addr} {c2:Nat} {ps:List (List UInt8)} {E:List Ent} (h:mw w0 w A1 A2 c2 ps E):eA w A2 E.length E where
 len:=rfl
 cells:=fun h0=>by
  rcases oE h.own with rfl | ⟨g,e,_,hr⟩
  ·exact absurd h0 (Nat.lt_irrefl _)
  ·refine ⟨g,0,e,World.block_lt_of_cell? w _ (hr.cell 0 _ (List.getElem?_eq_getElem (by rw [dj];omega))),fun i x hx j v hv=>?_⟩
   have:=hr.cell (i*2+j) v (nA E i x j v hx hv)
   rw [Nat.zero_add]
   exact this
abbrev Bh (A1:Option Addr) (n1 c1:Nat) (A2:Option Addr) (n2 c2:Nat):Value:=.agg #[.slice A1 n1 c1,.slice A2 n2 c2]
def iS (A1:Option Addr) (n1 c1:Nat) (A2:Option Addr) (n2 c2:Nat):List Value:=[.slice A1 n1 c1,.slice A2 n2 c2]
theorem ig (A1:Option Addr) (n1 c1:Nat) (A2:Option Addr) (n2 c2:Nat):∀ v∈iS A1 n1 c1 A2 n2 c2,v.oneCell'=true:=by
 intro v hv
 simp only [iS,List.mem_cons,List.not_mem_nil,or_false] at hv
 rcases hv with rfl | rfl <;> rfl
theorem xi:mN 169 2:=⟨⟨_,Tryz.underlying169,rfl⟩,by kernel_rfl⟩
theorem vq (w:World) (B:Nat) (i:Int):Lo [] w [(w.heap.size,ea B i),(w.heap.size+1,iS none 0 0 none 0 0)] ((w.alloc (.cells #[.pointer (some ⟨B,0,none⟩),.int .i64 i] 99)).alloc (.cells #[.slice none 0 0,.slice none 0 0] 169)):=
 ((Lo.start (L:=[]) w (by simp)).alloc _ rfl (ea B i) _).alloc (w.heap.size+1) (by simp) (iS none 0 0 none 0 0) _
theorem yV {w:World} {B:Nat} {b:Blk} {s:Sto} {n I:Int} (h:Ctx w B b s n I) (i off cnt:Int) (h1:off≤9223372036854775807):Calls Tryz.prog 70 #[.pointer (some ⟨B,0,none⟩),.int .i64 i,.int .i64 off,.int .i64 cnt] w (Ends B b n I [] w s (Fs.tell (Fs.jb n I i off cnt)) fun t e w'=>e=.returned (.string (strOf t))∧Below w.heap.size w w'):=by
 cases hr:Fs.jb n I i off cnt (nv s) with
 |
  ok t=>
  refine (nU h i off cnt h1 hr).mono ?_
  rintro e w' ⟨rfl,hb⟩
  exact Ends.told hr h hb ⟨rfl,hb⟩
 |
  error er=>
  have h0:er≠0:=Fs.tC hr
  have HC:=Lib.hid h
  have HB:Hid (w.rangeAt B 0 (eN b.s n I)):=Lib.hid h.step.base
  have HG:=Lib.hid (dT h)
  have HT:=Lib.hid (uF h.store h.vs i off cnt h1)
  rw [hr] at HT
  simp only [exV] at HT
  have HR:=Lib.hid hr
  have HZ:=Lib.hid h0
  clear h hr h1 h0
  go_enter Tryz.func70,Tryz.ntmps70
  go_wp2_with (first
   | (go_at_call 117;refine HG.out.mono ?_;rintro e w1 ⟨rfl,rfl⟩)
   | (with_reducible refine aE HB.out rfl (.tmp 17) rfl rfl ?_)
   | (go_at_call 132;refine HT.out.mono ?_;rintro e w1 ⟨rfl,hb⟩;have HB1:=Lib.hid hb;clear hb)
   | (go_at_call 133;(with_reducible refine (oP (HC.out.below HB1.out) er HZ.out).mono ?_);rintro e w2 ⟨rfl,hR,hO⟩))
  exact ⟨rfl,Ends.untold HR.out HZ.out HB1.out hR hO⟩
theorem EZ {w:World} {B:Nat} {b:Blk} {s:Sto} {n I d:Int} {F:List UInt8} (h:Ctx w B b s n I) (hr:Fs.jb n I d 0 67840 (nv s)=.ok F) (ha:jc (blocks (eS F))=true):
  Calls Tryz.prog 128 #[lA B d] w fun e w'=>∃ A1 c1 A2 c2,e=.returned (Bh A1 (pgN F) c1 A2 (bg F).length c2)∧mw w w' A1 A2 c2 (eS F) (bg F)∧Below w.heap.size w w':=by
 have hle:=rE hr
 have S:=Lib.hid (vq w B d)
 have c0:=(S.out.get 0 _ rfl).cell 0 _ rfl
 have c1:=(S.out.get 0 _ rfl).cell 1 _ rfl
 have HR:Hid (∀ W l,Lo [] w l W→Calls Tryz.prog 70 #[.pointer (some ⟨B,0,none⟩),.int .i64 d,.int .i64 0,.int .i64 67840] W fun e w'=>e=.returned (.string (strOf F))∧Below W.heap.size W w'):=Lib.hid (fun W l hl=>nU (Lo.ctx (L:=[]) hl h) d 0 67840 (by decide) hr)
 have HS:Hid (∀ W,Calls Tryz.prog 185 #[.string (strOf F)] W fun e w'=>e=.returned (.slice (some ⟨W.heap.size,0,none⟩) (pgN F) (pgN F))∧dM w' (some ⟨W.heap.size,0,none⟩) (pgN F) (eS F)∧W.heap.size<w'.heap.size∧Below W.heap.size W w'):=Lib.hid (fun W=>by
  refine (qp (strOf F) (pgN F) W (by rw [dO];rfl) (by rw [dO];omega)).mono ?_
  rintro e w' ⟨rfl,hr,hz,hb⟩
  refine ⟨rfl,?_,hz,hb⟩
  rw [eU] at hr
  exact hr.inn)
 have hN:pgN F≤1100:=by unfold pgN;omega
 have hel:(blocks (eS F)).length=(bg F).length:=by unfold bg;rw [List.length_map]
 have HA:Hid (∀ W A,dM W A (pgN F) (eS F)→(0<pgN F→∀ b off,A=some ⟨b,off,none⟩→b<W.heap.size)→Calls Tryz.prog 186 #[.slice A (pgN F) (pgN F)] W fun e w'=>∃ A2 c2,e=.returned (.tuple #[.slice A2 (bg F).length c2,.int .i64 0])∧w'.ownsRow W.heap.size 66 2 (.slice A2 (bg F).length c2) (bg F).length ((bg F).flatMap dr)∧Below W.heap.size W w'):=Lib.hid (fun W A hin hf=>by
  refine (Eu A (pgN F) (pgN F) _ W hin hf hN).mono ?_
  intro e w' hg
  unfold kD at hg
  rw [if_pos ha,JO,hel] at hg
  exact hg)
 have HPL:=Lib.hid (fe F)
 clear h hr ha hN hel hle
 generalize eS F=ps at HS HA HPL ⊢
 generalize bg F=E at HA ⊢
 obtain ⟨m,hm⟩:∃ m,pgN F=m:=⟨_,rfl⟩
 rw [hm] at HS HA HPL ⊢
 clear hm
 go_enter Tryz.func128,Tryz.ntmps128
 go_wp2_with (first
  | (go_at_call 70;refine (HR.out _ _ S.out).mono ?_;rintro e w1 ⟨rfl,hb⟩;replace S:=Lib.hid (S.out.below hb);clear hb)
  | (go_at_call 185;have HXG:=Lib.hid (S.out.lt 1 _ rfl);refine (HS.out _).mono ?_;rintro e w2 ⟨rfl,hin,hz,hb⟩;replace S:=Lib.hid (S.out.below hb);have HIN:=Lib.hid hin;have HBL:=Lib.hid hz;clear hb hin hz)
  | (go_at_call 186;refine (HA.out _ _ HIN.out (fun _ b off e=>by injection e with e;injection e with e;subst e;exact HBL.out)).mono ?_;rintro e w3 ⟨A2,c2,rfl,hown,hb⟩;have HIN3:=Lib.hid (HIN.out.step hb);have HOW:=Lib.hid hown;have HSZ:=Lib.hid S.out.bel.size;have HXL:=Lib.hid (S.out.lt 1 _ rfl); replace S:=Lib.hid (S.out.below hb);clear hb hown)
  | ((with_reducible refine ak (vs:=iS (some ⟨w1.heap.size,0,none⟩) m m A2 E.length c2) xi (S.out.get 1 _ rfl) ?_ ?_ (ig _ _ _ _ _ _) rfl (.tmp 2) (.tmp 25) rfl ?_ ?_ ?_);(exact rfl);(exact rfl);(exact rfl);(exact rfl)))
 have S2:=Lib.hid (S.out.put 1 _ rfl (iS (some ⟨w1.heap.size,0,none⟩) m m A2 E.length c2) rfl)
 refine bodyPost_ret (aC xi _ 2 rfl _ (S2.out.get 1 _ rfl) rfl rfl) rfl ⟨_,_,_,_,rfl,?_,S2.out.bel⟩
 exact KC HPL.out HIN3.out HSZ.out HXG.out HXL.out HOW.out
theorem IB {w:World} {B:Nat} {b:Blk} {s:Sto} {n I d:Int} {F:List UInt8} (h:Ctx w B b s n I) (hr:Fs.jb n I d 0 67840 (nv s)=.ok F) (ha:¬ jc (blocks (eS F))=true):
  Calls Tryz.prog 128 #[lA B d] w fun e w'=>e=.panicked [bn B]∧gq w' B b s n I 5∧aB [B] w w':=by
 have hle:=rE hr
 have S:=Lib.hid (vq w B d)
 have c0:=(S.out.get 0 _ rfl).cell 0 _ rfl
 have c1:=(S.out.get 0 _ rfl).cell 1 _ rfl
 have HR:Hid (∀ W l,Lo [] w l W→Calls Tryz.prog 70 #[.pointer (some ⟨B,0,none⟩),.int .i64 d,.int .i64 0,.int .i64 67840] W fun e w'=>e=.returned (.string (strOf F))∧Below W.heap.size W w'):=Lib.hid (fun W l hl=>nU (Lo.ctx (L:=[]) hl h) d 0 67840 (by decide) hr)
 have HS:Hid (∀ W,Calls Tryz.prog 185 #[.string (strOf F)] W fun e w'=>e=.returned (.slice (some ⟨W.heap.size,0,none⟩) (pgN F) (pgN F))∧dM w' (some ⟨W.heap.size,0,none⟩) (pgN F) (eS F)∧W.heap.size<w'.heap.size∧Below W.heap.size W w'):=Lib.hid (fun W=>by
  refine (qp (strOf F) (pgN F) W (by rw [dO];rfl) (by rw [dO];omega)).mono ?_
  rintro e w' ⟨rfl,hr,hz,hb⟩
  refine ⟨rfl,?_,hz,hb⟩
  rw [eU] at hr
  exact hr.inn)
 have hN:pgN F≤1100:=by unfold pgN;omega
 have HA:Hid (∀ W A,dM W A (pgN F) (eS F)→(0<pgN F→∀ b off,A=some ⟨b,off,none⟩→b<W.heap.size)→Calls Tryz.prog 186 #[.slice A (pgN F) (pgN F)] W fun e w'=>e=.returned (.tuple #[.slice none 0 0,.int .i64 5])∧Below W.heap.size W w'):=Lib.hid (fun W A hin hf=>by
  refine (Eu A (pgN F) (pgN F) _ W hin hf hN).mono ?_
  intro e w' hg
  unfold kD at hg
  rw [if_neg ha] at hg
  exact hg)
 have HF:Hid (∀ W l,Lo [] w l W→Calls Tryz.prog 58 #[.pointer (some ⟨B,0,none⟩),.int .i64 5] W fun e w'=>e=.panicked [bn B]∧gq w' B b s n I 5∧aB [B] w w'):=Lib.hid (fun W l hl=>(cM (Lo.ctx (L:=[]) hl h) 5 (by decide)).mono fun e w' hh=>⟨hh.1,hh.2.1,(show aB [B] w W from aB.below hl.bel).via hh.2.2 (fun i hi=>Or.inl hi)⟩)
 clear h hr ha hN hle
 generalize eS F=ps at HS HA
 obtain ⟨m,hm⟩:∃ m,pgN F=m:=⟨_,rfl⟩
 rw [hm] at HS HA
 clear hm
 go_enter Tryz.func128,Tryz.ntmps128
 go_wp2_with (first
  | (go_at_call 70;refine (HR.out _ _ S.out).mono ?_;rintro e w1 ⟨rfl,hb⟩;replace S:=Lib.hid (S.out.below hb);clear hb)
  | (go_at_call 185;refine (HS.out _).mono ?_;rintro e w2 ⟨rfl,hin,hz,hb⟩;replace S:=Lib.hid (S.out.below hb);have HIN:=Lib.hid hin;have HBL:=Lib.hid hz;clear hb hin hz)
  | (go_at_call 186;refine (HA.out _ _ HIN.out (fun _ b off e=>by injection e with e;injection e with e;subst e;exact HBL.out)).mono ?_;rintro e w3 ⟨rfl,hb⟩;replace S:=Lib.hid (S.out.below hb);have c0:=(S.out.get 0 _ rfl).cell 0 _ rfl;clear hb)
  | (go_at_call 58;refine (HF.out _ _ S.out).mono ?_;rintro e w4 ⟨rfl,hR⟩))
 exact ⟨rfl,rfl,hR⟩
theorem Fa {w:World} {B:Nat} {b:Blk} {s:Sto} {n I d er:Int} (h:Ctx w B b s n I) (hr:Fs.jb n I d 0 67840 (nv s)=.error er):
  Calls Tryz.prog 128 #[lA B d] w (Ends B b n I [] w s (Fs.tell (uV n I d)) fun _ _ _=>False):=by
 have S:=Lib.hid (vq w B d)
 have c0:=(S.out.get 0 _ rfl).cell 0 _ rfl
 have c1:=(S.out.get 0 _ rfl).cell 1 _ rfl
 have ht:uV n I d (nv s)=.error er:=by unfold uV;rw [hr]
 have h0:er≠0:=Fs.tC hr
 have HR:Hid (∀ W l,Lo [] w l W→Calls Tryz.prog 70 #[.pointer (some ⟨B,0,none⟩),.int .i64 d,.int .i64 0,.int .i64 67840] W fun e w'=>e=.panicked [bn B]∧Ends B b n I [] w s (Fs.tell (uV n I d)) (fun _ _ _=>False) e w'):=Lib.hid (fun W l hl=>(yV (Lo.ctx (L:=[]) hl h) d 0 67840 (by decide)).mono fun e w' hE=>by
  rcases hE with ⟨a,s',L,E,_⟩ | ⟨er2,F,h2,Br,rfl,O⟩
  ·unfold Fs.tell at E
   rw [hr] at E
   injection E with E
   cases E
  ·refine ⟨rfl,Or.inr ⟨er2,?_,h2,Br,rfl,(show aB (B::b.t::[]) w W from aB.below hl.bel).via O (fun i hi=>Or.inl hi)⟩⟩
   rcases F with ⟨V,L,F⟩ | ⟨rfl,F⟩
   ·unfold Fs.tell at F
    rw [hr] at F
    injection F with F
    injection F with F
    subst F
    refine Or.inl ⟨nv s,[],?_⟩
    unfold Fs.tell
    rw [ht]
   ·exact Or.inr ⟨rfl,F⟩)
 clear h hr ht h0
 go_enter Tryz.func128,Tryz.ntmps128
 go_wp2_with (go_at_call 70;refine (HR.out _ _ S.out).mono ?_;rintro e w1 ⟨rfl,hR⟩)
 exact ⟨rfl,hR⟩
def MU (w:World) (F:List UInt8) (e:Ending) (w':World):Prop:=∃ A1 c1 A2 c2,e=.returned (Bh A1 (pgN F) c1 A2 (bg F).length c2)∧mw w w' A1 A2 c2 (eS F) (bg F)∧Below w.heap.size w w'
theorem nm {w:World} {B:Nat} {b:Blk} {s:Sto} {n I:Int} (h:Ctx w B b s n I) (d:Int):
  Calls Tryz.prog 128 #[lA B d] w (Ends B b n I [] w s (Fs.tell (uV n I d)) (MU w)):=by
 cases hr:Fs.jb n I d 0 67840 (nv s) with
 |
  error er=>
  refine (Fa h hr).mono fun e w' hE=>?_
  rcases hE with ⟨_,_,_,_,_,_,hf,_⟩ | hE
  ·exact hf.elim
  ·exact Or.inr hE
 |
  ok F=>
  by_cases ha:jc (blocks (eS F))=true
  ·refine (EZ h hr ha).mono fun e w' hh=>?_
   obtain ⟨_,_,_,_,_,_,hb⟩:=id hh
   exact Ends.told (by unfold uV;rw [hr];simp only;rw [if_pos ha]) h hb hh
  ·refine (IB h hr ha).mono fun e w' hh=>?_
   obtain ⟨rfl,hB,hO⟩:=hh
   exact Ends.untold (w1:=w) (er:=5) (by unfold uV;rw [hr];simp only;rw [if_neg ha]) (by decide) (Below.refl _ _) hB hO
end
end Go.Proofs.YtagfoogfpabdfaaGreat
