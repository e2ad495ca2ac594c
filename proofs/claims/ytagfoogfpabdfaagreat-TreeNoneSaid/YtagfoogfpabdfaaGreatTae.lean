/- Texts of the proof. -/
import Derived.Test.YtagfoogfpabdfaaGreatTad
import Derived.BigQuiet
import Derived.Deep.QuietTactic
import Derived.Test.YtagfoogfpabdfaaGreatTaa
import Derived.Test.YtagfoogfpabdfaaGreatTab
import Derived.Test.YtagfoogfpabdfaaGreatTac
import Derived.Deep.Slices
set_option maxRecDepth 100000
set_option maxHeartbeats 16000000
namespace Go.Proofs.YtagfoogfpabdfaaGreat
section
open Go.RowKit
open Dk (av aa)
open Hd (Head aA aM)
open Jn (Chg bk fy)
structure CmI (w:World) (j d l m a z:Nat) (o:Bool) (A:Option Addr) (cs:List Chg) (lb:Nat) (q:Int) (s:Dk.St) (W:World):Prop where
 ew:aG W d l m s
 jr:JAt W j d a z q o
 rows:bG W lb (Jn.iU cs)
 lt:lb<W.heap.size
 far:lb∉[d,l,m,j]
 row:va W A [d,l,m,j] cs
 only:aB [d,l,m,j] w W
theorem CmI.step {w:World} {j d l m a z:Nat} {o:Bool} {A:Option Addr} {cs:List Chg} {lb:Nat} {q q':Int} {s s':Dk.St} {W W':World} {L:List Nat} (h:CmI w j d l m a z o A cs lb q s W) (ho:aB L W W') (hL:∀ x∈L,x∈[d,l,m,j]) (hd:aG W' d l m s') (hj:JAt W' j d a z q' o):CmI w j d l m a z o A cs lb q' s' W':=
 ⟨hd,hj,h.rows.block (ho.block lb h.lt (fun e=>h.far (hL _ e))),Nat.lt_of_lt_of_le h.lt ho.size,h.far,h.row.only ho hL,h.only.trans (ho.mono hL)⟩
theorem CmI.below {w:World} {j d l m a z:Nat} {o:Bool} {A:Option Addr} {cs:List Chg} {lb:Nat} {q:Int} {s:Dk.St} {W W':World} (h:CmI w j d l m a z o A cs lb q s W) (hb:Below W.heap.size W W'):CmI w j d l m a z o A cs lb q s W':=
 h.step (aB.below (l:=[]) hb) (by simp) (h.ew.below hb) (h.jr.below hb)
theorem CmI.Mg {w:World} {j d l m a z:Nat} {o:Bool} {A:Option Addr} {cs:List Chg} {lb:Nat} {q:Int} {s:Dk.St} {W:World} (h:CmI w j d l m a z o A cs lb q s W):bG W lb (Jn.iU cs):=h.rows
theorem CmI.LM {w:World} {j d l m a z:Nat} {o:Bool} {A:Option Addr} {cs:List Chg} {lb:Nat} {q:Int} {s:Dk.St} {W W':World} (h:CmI w j d l m a z o A cs lb q s W) (hb:Below W.heap.size W W'):CmI w j d l m a z o A cs lb q s W':=h.below hb
theorem CmI.c3 {w:World} {j d l m a z:Nat} {o:Bool} {A:Option Addr} {cs:List Chg} {lb:Nat} {q:Int} {s:Dk.St} {W:World} (h:CmI w j d l m a z o A cs lb q s W):W.cell? ⟨j,3,none⟩=some (.int .i64 q):=h.jr.c3
def ME (w:World) (j d l m a z:Nat) (o:Bool) (q:Int) (R:Dk.St × Int) (e:Ending) (w':World):Prop:=
 e=.returned (.int .i64 R.2)∧aG w' d l m R.1∧(∃ q',JAt w' j d a z q' o∧(R.2=0→q'=q+2))∧aB [d,l,m,j] w w'
theorem Ao {w:World} {j d l m a z:Nat} {q:Int} {o:Bool} {s:Dk.St} {cs:List Chg} (hj:JAt w j d a z q o) (h:aG w d l m s) (hjd:j∉[d,l,m]) (ha:a≤900) (hz:z≤900) (A:Option Addr) (c:Nat) (hrow:va w A [d,l,m,j] cs) (hm:Jn.May a z s.last.length cs) (hq0:0≤q) (hq1:q<4294967290):
  Calls Tryz.prog 240 #[.pointer (some ⟨j,0,none⟩),.slice A cs.length c] w (ME w j d l m a z o q (Jn.runs s (Jn.steps a q cs))):=by
 have HJD:=Lib.hid hjd
 have HPG:Hid (∀ x∈cs,x.aK.length=64):=Lib.hid (fun x hx=>(hm.val x hx).2)
 have hnl17:Jn.nl cs.length≤17:=by have:=hm.few;unfold Jn.nl;omega
 have hpos1:=hm.pos
 have HPL:=Lib.hid (Jn.qG HPG.out)
 have HLL:=Lib.hid (Jn.fX cs)
 have HLY:=Lib.hid (zZ A c cs (hrow.mono (by simp)) HPG.out hm.pos hm.few)
 have HI0:Hid (∀ W lb,bG W lb (Jn.iU cs)→w.heap.size≤lb→lb<W.heap.size→Below w.heap.size w W→CmI w j d l m a z o A cs lb q s W):=Lib.hid (fun W lb h1 h2 h3 hb=>⟨h.below hb,hj.below hb,h1,h3,by have:=h.dlt;have:=h.llt;have:=h.mlt;have:=hj.lt;simp;omega,hrow.below hb,aB.below hb⟩)
 have HPT:Hid (∀ W lb,CmI w j d l m a z o A cs lb q s W→Calls Tryz.prog 261 #[vB d a z,.int .i64 ((a:Int)+1),.slice (some ⟨lb,0,none⟩) (Jn.nl cs.length+cs.length) (Jn.nl cs.length+cs.length)] W fun e w'=>e=.returned (.int .i64 (Jn.cj s (Jn.dY (a+1) (Jn.iU cs))).2)∧CmI w j d l m a z o A cs lb q (Jn.cj s (Jn.dY (a+1) (Jn.iU cs))).1 w'):=Lib.hid (fun W lb hW=>by
  have:=BZ hW.ew a (a+1) z (some ⟨lb,0,none⟩) (Jn.nl cs.length+cs.length) (Jn.iU cs) (hW.rows.slice (fun e=>hW.far (by simp at e ⊢;omega))) HPL.out (by rw [HLL.out];have:=hm.few;omega) (by omega)
  rw [HLL.out,show ((a+1:Nat):Int)=(a:Int)+1 by omega] at this
  exact this.mono fun e w' ⟨h1,h2,h3⟩=>⟨h1,hW.step h3 (by simp) h2 (hW.jr.only h3 hjd)⟩)
 have HSM:Hid (∀ W lb,bG W lb (Jn.iU cs)→Calls Tryz.prog 262 #[.slice (some ⟨lb,0,none⟩) (Jn.nl cs.length+cs.length) (Jn.nl cs.length+cs.length)] W fun e w'=>e=.returned (.int .u32 (Jn.Fe (Jn.iU cs)))∧Below W.heap.size W w'):=Lib.hid (fun W lb hT=>by
  have hrow:=(hT.slice (L:=[]) (by simp)).row (by rw [HLL.out];have:=hm.few;omega) hT.size
  rw [HLL.out] at hrow
  exact sY _ _ (Jn.nl cs.length+cs.length) _ W hrow (by have:=hm.few;omega) (by omega))
 clear hnl17 hpos1
 have HRT:Hid (aA (fy (q+1) cs)=true):=Lib.hid (Jn.zW (by omega) (by omega) hm.pos (by have:=hm.few;omega))
 have HSB:=Lib.hid (Jn.ID (Jn.iU cs))
 have HLD0:Hid (∀ W lb s1,CmI w j d l m a z o A cs lb q s1 W→Calls Tryz.prog 245 #[.pointer (some ⟨j,0,none⟩),dC (fy (q+1) cs)] W fun e w'=>e=.returned (.int .i64 (Jn.cj s1 [⟨(a:Int),aM (fy (q+1) cs)⟩]).2)∧CmI w j d l m a z o A cs lb (q+1) (Jn.cj s1 [⟨(a:Int),aM (fy (q+1) cs)⟩]).1 w'):=Lib.hid (fun W lb s1 hW=>(sc hW.jr hW.ew hjd ha (fy (q+1) cs) HRT.out HSB.out.1 HSB.out.2).mono fun e w' ⟨h1,h2,h3,h4⟩=>⟨h1,hW.step h4 (by simp) h2 h3⟩)
 have HAP:Hid (∀ W lb s1,CmI w j d l m a z o A cs lb (q+1) s1 W→Calls Tryz.prog 248 #[vB d a z,.slice A cs.length c] W fun e w'=>e=.returned (.int .i64 (Jn.cj s1 cs).2)∧CmI w j d l m a z o A cs lb (q+1) (Jn.cj s1 cs).1 w'):=Lib.hid (fun W lb s1 hW=>(Es hW.ew a z A c cs (hW.row.mono (by simp)) HPG.out (by have:=hm.few;omega)).mono fun e w' ⟨h1,h2,h3⟩=>⟨h1,hW.step h3 (by simp) h2 (hW.jr.only h3 hjd)⟩)
 have HLE:Hid (∀ W lb s1,CmI w j d l m a z o A cs lb (q+1) s1 W→Calls Tryz.prog 245 #[.pointer (some ⟨j,0,none⟩),.agg #[.int .i64 (q+1+1),.bool false,.int .i64 0,.int .u32 0]] W fun e w'=>e=.returned (.int .i64 (Jn.cj s1 [⟨(a:Int),aM (bk (q+2))⟩]).2)∧CmI w j d l m a z o A cs lb (q+2) (Jn.cj s1 [⟨(a:Int),aM (bk (q+2))⟩]).1 w'):=Lib.hid (fun W lb s1 hW=>by
  rw [show q+1+1=q+2 by omega]
  exact (sc hW.jr hW.ew hjd ha (bk (q+2)) (Jn.jk (by omega) (by omega)) (Int.le_refl 0) (show (0:Int)<4294967296 by omega)).mono fun e w' ⟨h1,h2,h3,h4⟩=>⟨h1,hW.step h4 (by simp) h2 h3⟩)
 have hk32:=hm.few
 have HHV0:Hid (∀ k:Nat,cs.length=k→Value.agg #[.int .i64 (q+1),.bool true,.int .i64 (k:Int),.int .u32 (Jn.Fe (Jn.iU cs))]=dC (fy (q+1) cs)):=Lib.hid (fun k hk=>by rw [← hk];rfl)
 clear h hj hjd hrow hm
 have HST:Hid (Jn.steps a q cs=[Jn.dY (a+1) (Jn.iU cs),[⟨(a:Int),aM (fy (q+1) cs)⟩],cs,[⟨(a:Int),aM (bk (q+2))⟩]]):=Lib.hid rfl
 generalize hsteps:Jn.runs s (Jn.steps a q cs)=R
 rw [HST.out] at hsteps
 have HRS:=Lib.hid hsteps
 clear hsteps HST
 obtain ⟨k,hk⟩:∃ k,cs.length=k:=⟨_,rfl⟩
 have HHV:=Lib.hid (HHV0.out k hk)
 rw [hk] at HLY HPT HSM HAP hk32 ⊢
 generalize Jn.nl k=f at HLY HPT HSM
 clear hk HHV0
 generalize hhh:fy (q+1) cs=hh at HLD0 HHV HRS
 clear hhh
 have hq3:IntKind.i64.wrap ((a:Int)+1)=(a:Int)+1:=IntWalk.i64_in _ (by omega)
 have hq4:IntKind.i64.wrap (q+1)=q+1:=IntWalk.i64_in _ (by omega)
 go_enter Tryz.func240,Tryz.ntmps240
 go_wp2_with fail
 refine HLY.out.mono ?_
 rintro e w1 ⟨lb,rfl,hr1,hl1,hl2,hB1⟩
 have HI1:=Lib.hid (HI0.out _ _ hr1 hl1 hl2 hB1)
 clear hr1 hl1 hl2 hB1 HI0 HLY
 replace HPT:=Lib.hid (fun W=>HPT.out W lb)
 go_wp2_with fail
 refine wp_region_noPanic ?_
 refine wp_region_held_drew (S:=fun W=>JAt W j d a z q o) (by kernel_rfl) (HI1.out.jr.below (Below.refl _ _).drew) (fun hHeld=>?_)
 have HI2:=Lib.hid (HI1.out.below (Below.refl _ _).drew)
 clear HI1
 generalize w1.drew=w2 at HI2 hHeld ⊢
 refine aF (i:=0) (d:=some 11) (v:=.pointer (some ⟨j,0,none⟩)) rfl rfl (by kernel_rfl) (by kernel_rfl) (by kernel_rfl) (fun _ _ _ h=>h) (Or.inl ⟨by kernel_rfl,?_⟩) hHeld ?_
 ·intro w hSw;have c1:=hSw.c1;go_simp
 (try simp only [Act.put,puA,puB,puC])
 refine aF (i:=1) (d:=some 12) (v:=.pointer (some ⟨j,0,none⟩)) rfl rfl (by kernel_rfl) (by kernel_rfl) (by kernel_rfl) (fun _ _ _ h=>h) (Or.inl ⟨by kernel_rfl,?_⟩) hHeld ?_
 ·intro w hSw;have c1:=hSw.c1;go_simp
 (try simp only [Act.put,puA,puB,puC])
 refine aF (i:=2) (d:=some 13) (v:=.pointer (some ⟨j,0,none⟩)) rfl rfl (by kernel_rfl) (by kernel_rfl) (by kernel_rfl) (fun _ _ _ h=>h) (Or.inl ⟨by kernel_rfl,?_⟩) hHeld ?_
 ·intro w hSw;have c1:=hSw.c1;go_simp
 (try simp only [Act.put,puA,puB,puC])
 refine aF (i:=3) (d:=some 14) (v:=vB d a z) rfl rfl (by kernel_rfl) (by kernel_rfl) (by kernel_rfl) (fun _ _ _ h=>h) (pW (by kernel_rfl) (.tmp 13) rfl rfl (fun _ hSw=>hSw.reg)) hHeld ?_
 (try simp only [Act.put,puA,puB,puC])
 refine aF (i:=4) (d:=some 15) (v:=.pointer (some ⟨j,0,none⟩)) rfl rfl (by kernel_rfl) (by kernel_rfl) (by kernel_rfl) (fun _ _ _ h=>h) (Or.inl ⟨by kernel_rfl,?_⟩) hHeld ?_
 ·intro w hSw;have c1:=hSw.c1;go_simp
 (try simp only [Act.put,puA,puB,puC])
 refine aF (i:=5) (d:=some 16) (v:=.pointer (some ⟨j,0,none⟩)) rfl rfl (by kernel_rfl) (by kernel_rfl) (by kernel_rfl) (fun _ _ _ h=>h) (Or.inl ⟨by kernel_rfl,?_⟩) hHeld ?_
 ·intro w hSw;have c1:=hSw.c1;go_simp
 (try simp only [Act.put,puA,puB,puC])
 refine aF (i:=6) (d:=some 17) (v:=.pointer (some ⟨j,0,none⟩)) rfl rfl (by kernel_rfl) (by kernel_rfl) (by kernel_rfl) (fun _ _ _ h=>h) (Or.inl ⟨by kernel_rfl,?_⟩) hHeld ?_
 ·intro w hSw;have c1:=hSw.c1;go_simp
 (try simp only [Act.put,puA,puB,puC])
 refine aF (i:=7) (d:=some 18) (v:=.pointer (some ⟨j,1,none⟩)) rfl rfl (by kernel_rfl) (by kernel_rfl) (by kernel_rfl) (fun _ _ _ h=>h) (Or.inl ⟨by kernel_rfl,?_⟩) hHeld ?_
 ·intro w hSw;have c1:=hSw.c1;go_simp
 (try simp only [Act.put,puA,puB,puC])
 refine aF (i:=8) (d:=some 19) (v:=.int .i64 (a:Int)) rfl rfl (by kernel_rfl) (by kernel_rfl) (by kernel_rfl) (fun _ _ _ h=>h) (Or.inl ⟨by kernel_rfl,?_⟩) hHeld ?_
 ·intro w hSw;have c1:=hSw.c1;go_simp
 (try simp only [Act.put,puA,puB,puC])
 refine aF (i:=9) (d:=some 20) (v:=.int .i64 ((a:Int)+1)) rfl rfl (by kernel_rfl) (by kernel_rfl) (by kernel_rfl) (fun _ _ _ h=>h) (Or.inl ⟨by kernel_rfl,?_⟩) hHeld ?_
 ·intro w hSw;have c1:=hSw.c1;go_simp
 (try simp only [Act.put,puA,puB,puC])
 refine aF (i:=10) (d:=some 21) (v:=.slice (some ⟨lb,0,none⟩) (f+k) (f+k)) rfl rfl (by kernel_rfl) (by kernel_rfl) (by kernel_rfl) (fun _ _ _ h=>h) (Or.inl ⟨by kernel_rfl,?_⟩) hHeld ?_
 ·intro w hSw;have c1:=hSw.c1;go_simp
 (try simp only [Act.put,puA,puB,puC])
 refine wpAnyH_ready (rs:=[11]) (by kernel_rfl) (by simp) ?_
 refine AllReadyH.cons rfl (fun K hK=>?_) AllReadyH.nil
 go_simp
 (go_at_call 261;refine (HPT.out _ HI2.out).mono ?_;rintro e w3 ⟨rfl,hI3⟩;have HI3:=Lib.hid hI3;clear hI3)
 (try go_wp2_with fail)
 refine hK.out _ _ HI3.out.jr (fun hHeld=>?_)
 clear hK K
 (try simp only [Act.put,puA,puB,puC])
 refine aF (i:=12) (d:=some 6) (v:=.int .i64 (Jn.cj s (Jn.dY (a+1) (Jn.iU cs))).2) rfl rfl (by kernel_rfl) (by kernel_rfl) (by kernel_rfl) (fun _ _ _ h=>h) (Or.inl ⟨by kernel_rfl,?_⟩) hHeld ?_
 ·intro w hSw;have c1:=hSw.c1;go_simp
 (try simp only [Act.put,puA,puB,puC])
 refine wpAnyH_done (by kernel_rfl) ?_ _
 refine NoPanic.normal ?_
 by_cases hE1:(Jn.cj s (Jn.dY (a+1) (Jn.iU cs))).2=0
 ·have HR1:Hid (R=Jn.runs (Jn.cj s (Jn.dY (a+1) (Jn.iU cs))).1 [[⟨(a:Int),aM hh⟩],cs,[⟨(a:Int),aM (bk (q+2))⟩]]):=Lib.hid (by rw [← HRS.out,vx hE1])
  rw [hE1]
  clear hE1 HRS HPT HI2 hHeld
  generalize (Jn.cj s (Jn.dY (a+1) (Jn.iU cs))).1=s1 at HI3 HR1
  have HLD1:=Lib.hid (fun W=>HLD0.out W lb s1)
  have HRP:Hid (∀ (X:Dk.St × Int) ,X=Jn.cj s1 [⟨(a:Int),aM hh⟩]→X=Jn.cj s1 [⟨(a:Int),aM hh⟩]):=Lib.hid (fun _ h=>h)
  obtain ⟨X2,hX2⟩:∃ X,X=Jn.cj s1 [⟨(a:Int),aM hh⟩]:=⟨_,rfl⟩
  rw [← hX2] at HLD1
  have HX2:=Lib.hid hX2
  clear hX2 HRP
  obtain ⟨s2,E2⟩:=X2
  simp only at HLD1
  have HLD:Hid (∀ W,CmI w j d l m a z o A cs lb (if false=true then q+1 else q) (if false=true then s2 else s1) W→Calls Tryz.prog 245 #[.pointer (some ⟨j,0,none⟩),dC hh] W fun e w'=>e=.returned (.int .i64 E2)∧CmI w j d l m a z o A cs lb (if true=true then q+1 else q) (if true=true then s2 else s1) w'):=Lib.hid (fun W hW=>HLD1.out W hW)
  clear HLD0 HLD1
  go_wp2_with fail
  refine cq (fun (b:Bool)=>CmI w j d l m a z o A cs lb (if b=true then q+1 else q) (if b=true then s2 else s1)) (fun i=>i == 4 || i == 11) (fun i=>[.pointer (some ⟨j,0,none⟩),.pointer (some ⟨j,0,none⟩),.pointer (some ⟨j,0,none⟩),.pointer (some ⟨j,3,none⟩),undef,.int .i64 (q+1),.slice A k c,.int .i64 (k:Int),.slice (some ⟨lb,0,none⟩) (f+k) (f+k),.int .u32 (Jn.Fe (Jn.iU cs)),dC hh,undef,.int .i64 E2].getD i undef) (false) (by kernel_rfl) (by kernel_rfl) (HI3.out.below (Below.refl _ _).drew) ?_
  refine ar (i:=0) (d:=some 26) (v:=.pointer (some ⟨j,0,none⟩)) rfl rfl (by kernel_rfl) (by kernel_rfl) rfl rfl (ae (by kernel_rfl) ?_) ?_
  ·intro _ _ hS;go_simp
  (try simp only [Act.put,puA,puB,puC])
  refine ar (i:=1) (d:=some 27) (v:=.pointer (some ⟨j,0,none⟩)) rfl rfl (by kernel_rfl) (by kernel_rfl) rfl rfl (ae (by kernel_rfl) ?_) ?_
  ·intro _ _ hS;go_simp
  (try simp only [Act.put,puA,puB,puC])
  refine ar (i:=2) (d:=some 28) (v:=.pointer (some ⟨j,0,none⟩)) rfl rfl (by kernel_rfl) (by kernel_rfl) rfl rfl (ae (by kernel_rfl) ?_) ?_
  ·intro _ _ hS;go_simp
  (try simp only [Act.put,puA,puB,puC])
  refine ar (i:=3) (d:=some 29) (v:=.pointer (some ⟨j,3,none⟩)) rfl rfl (by kernel_rfl) (by kernel_rfl) rfl rfl (ae (by kernel_rfl) ?_) ?_
  ·intro _ _ hS;go_simp
  (try simp only [Act.put,puA,puB,puC])
  refine tY (i:=4) (d:=some 30) [5,10,11] (fun u s=>u=.int .i64 q∧s=false) rfl rfl (by kernel_rfl) (by kernel_rfl) rfl (by kernel_rfl) (⟨_,_,rfl,rfl⟩) (by kernel_rfl) (fun W hS=>iI (v:=.int .i64 q) (by have c3:=CmI.c3 hS;go_simp) ⟨false,⟨rfl,rfl⟩,hS⟩) ?_
  rintro _ _ ⟨rfl,rfl⟩
  (try simp only [Act.put,puA,puB,puC])
  refine ar (i:=5) (d:=some 31) (v:=.int .i64 (q+1)) rfl rfl (by kernel_rfl) (by kernel_rfl) rfl rfl (ae (by kernel_rfl) ?_) ?_
  ·intro _ _ hS;go_simp
  (try simp only [Act.put,puA,puB,puC])
  refine ar (i:=6) (d:=some 32) (v:=.slice A k c) rfl rfl (by kernel_rfl) (by kernel_rfl) rfl rfl (ae (by kernel_rfl) ?_) ?_
  ·intro _ _ hS;go_simp
  (try simp only [Act.put,puA,puB,puC])
  refine ar (i:=7) (d:=some 33) (v:=.int .i64 (k:Int)) rfl rfl (by kernel_rfl) (by kernel_rfl) rfl rfl (ae (by kernel_rfl) ?_) ?_
  ·intro _ _ hS;go_simp
  (try simp only [Act.put,puA,puB,puC])
  refine ar (i:=8) (d:=some 34) (v:=.slice (some ⟨lb,0,none⟩) (f+k) (f+k)) rfl rfl (by kernel_rfl) (by kernel_rfl) rfl rfl (ae (by kernel_rfl) ?_) ?_
  ·intro _ _ hS;go_simp
  (try simp only [Act.put,puA,puB,puC])
  refine ar (i:=9) (d:=some 35) (v:=.int .u32 (Jn.Fe (Jn.iU cs))) rfl rfl (by kernel_rfl) (by kernel_rfl) rfl rfl (aR (f:=262) (args:=#[.slice (some ⟨lb,0,none⟩) (f+k) (f+k)]) (by kernel_rfl) ?_ (fun b W hS=>(HSM.out W lb (CmI.Mg hS)).mono fun _ _ ⟨he,hb⟩=>⟨he,CmI.LM hS hb⟩)) ?_
  ·intro _;go_simp
  (try simp only [Act.put,puA,puB,puC])
  refine ar (i:=10) (d:=some 36) (v:=dC hh) rfl rfl (by kernel_rfl) (by kernel_rfl) rfl rfl (ae (by kernel_rfl) ?_) ?_
  ·intro _ _ _;go_simp;exact HHV.out
  (try simp only [Act.put,puA,puB,puC])
  refine tY (i:=11) (d:=some 37) [] (fun u s=>u=.int .i64 E2∧s=true) rfl rfl (by kernel_rfl) (by kernel_rfl) rfl (by kernel_rfl) (⟨_,_,rfl,rfl⟩) (by kernel_rfl) (fun W hS=>qM (f:=245) (args:=#[.pointer (some ⟨j,0,none⟩),dC hh]) (by go_simp) ((HLD.out W hS).mono fun e w' ⟨he,hS'⟩=>⟨_,he,true,⟨rfl,rfl⟩,hS'⟩)) ?_
  rintro _ _ ⟨rfl,rfl⟩
  (try simp only [Act.put,puA,puB,puC])
  refine ar (i:=12) (d:=some 7) (v:=.int .i64 E2) rfl rfl (by kernel_rfl) (by kernel_rfl) rfl rfl (ae (by kernel_rfl) ?_) ?_
  ·intro _ _ hS;go_simp
  (try simp only [Act.put,puA,puB,puC])
  refine fz (by kernel_rfl) ?_
  intro w4 hS4
  have HI4:Hid (CmI w j d l m a z o A cs lb (q+1) s2 w4):=Lib.hid hS4
  clear hS4 HI3 HLD HSM
  by_cases hE2:E2=0
  ·have HR2:Hid (R=Jn.runs s2 [cs,[⟨(a:Int),aM (bk (q+2))⟩]]):=Lib.hid (by rw [HR1.out,vx (by rw [← HX2.out];exact hE2),← HX2.out])
   subst hE2
   clear HR1 HX2
   go_wp2_with (with_reducible refine fO HI4.out.jr.reg rfl (.tmp 43) rfl rfl ?_)
   refine (HAP.out _ _ _ HI4.out).mono ?_
   rintro e w5 ⟨rfl,hI5⟩
   have HI5:=Lib.hid hI5
   clear hI5 HI4
   by_cases hE3:(Jn.cj s2 cs).2=0
   ·have HR3:Hid (R=Jn.cj (Jn.cj s2 cs).1 [⟨(a:Int),aM (bk (q+2))⟩]):=Lib.hid (by rw [HR2.out,vx hE3,xp])
    rw [hE3]
    clear hE3 HR2
    have c3:=CmI.c3 HI5.out
    go_wp2_with fail
    refine (HLE.out _ _ _ HI5.out).mono ?_
    rintro e w6 ⟨rfl,hI6⟩
    have HI6:=Lib.hid hI6
    clear hI6 HI5 c3
    go_wp2_with fail
    go_ret
    rw [HR3.out]
    exact ⟨rfl,HI6.out.ew,⟨_,HI6.out.jr,fun _=>rfl⟩,HI6.out.only⟩
   ·have HR3:Hid (R=Jn.cj s2 cs):=Lib.hid (by rw [HR2.out,rl hE3])
    have HNE:=Lib.hid hE3
    have hne2:((Jn.cj s2 cs).2 == 0)=false:=by simpa using hE3
    have hne3:((Jn.cj s2 cs).2 != 0)=true:=by simpa using hE3
    clear hE3 HR2
    go_wp2_with fail
    go_ret
    rw [HR3.out]
    exact ⟨rfl,HI5.out.ew,⟨_,HI5.out.jr,fun e=>absurd e HNE.out⟩,HI5.out.only⟩
  ·have HR2:Hid (R=(s2,E2)):=Lib.hid (by rw [HR1.out,rl (by rw [← HX2.out];exact hE2),← HX2.out])
   have HNE:=Lib.hid hE2
   have hne2:(E2 == 0)=false:=by simpa using hE2
   have hne3:(E2 != 0)=true:=by simpa using hE2
   clear hE2 HR1
   go_wp2_with fail
   go_ret
   rw [HR2.out]
   exact ⟨rfl,HI4.out.ew,⟨_,HI4.out.jr,fun e=>absurd e HNE.out⟩,HI4.out.only⟩
 ·have HR1:Hid (R=Jn.cj s (Jn.dY (a+1) (Jn.iU cs))):=Lib.hid (by rw [← HRS.out,rl hE1])
  have HNE:=Lib.hid hE1
  have hne2:((Jn.cj s (Jn.dY (a+1) (Jn.iU cs))).2 == 0)=false:=by simpa using hE1
  have hne3:((Jn.cj s (Jn.dY (a+1) (Jn.iU cs))).2 != 0)=true:=by simpa using hE1
  clear hE1 HRS
  go_wp2_with fail
  go_ret
  rw [HR1.out]
  exact ⟨rfl,HI3.out.ew,⟨_,HI3.out.jr,fun e=>absurd e HNE.out⟩,HI3.out.only⟩
end

section
open Go.RowKit
open Dk (av aa)
open Hd (Head aA aM)
open Jn (Chg bk fy)
theorem sQ {n a z:Nat} (cs:List Chg):∀ (f:Nat→Bool),dx n a z f cs=true→∀ c∈cs,cG n a z c.no=true:=by
 induction cs with
 | nil=>intro f _ c hc;cases hc
 |
  cons x r ih=>
  intro f h c hc
  rw [dx] at h
  by_cases hx:cG n a z x.no=true∧f x.no.toNat=false
  ·rw [if_pos hx] at h
   rcases List.mem_cons.1 hc with rfl | hc
   ·exact hx.1
   ·exact ih _ h c hc
  ·rw [if_neg hx] at h;cases h
theorem sO {n a z r:Nat} {cs:List Chg} (h:jh n a z cs=true) (hp:∀ c∈cs,c.aK.length=64) (h1:1≤cs.length) (h2:cs.length≤r) (hr:r≤512) (hz:1+Jn.nl r+r≤z) (hreg:a+z≤n) (hn:n≤512):Jn.May a z n cs where
 val:=fun c hc=>by
  have:=of_decide_eq_true (sQ cs _ h c hc)
  exact ⟨decide_eq_true ⟨this.1,this.2.1⟩,hp c hc⟩
 out:=fun c hc=>by
  have:=of_decide_eq_true (sQ cs _ h c hc)
  omega
 pos:=h1
 few:=by omega
 fit:=by
  have:Jn.nl cs.length≤Jn.nl r:=by unfold Jn.nl;omega
  omega
 reg:=hreg
 top:=hn
theorem xJ {w:World} {j d a z:Nat} {q:Int} {o:Bool} (hj:JAt w j d a z q o):Calls Tryz.prog 154 #[.pointer (some ⟨j,0,none⟩)] w fun e w'=>e=.returned (.bool o)∧w=w':=by
 have c4:=hj.c4
 clear hj
 go_enter Tryz.func154,Tryz.ntmps154
 go_wp2
 go_ret
 exact ⟨rfl,rfl⟩
theorem oQ {w:World} {j d a z r:Nat} {q:Int} {o:Bool} (hj:JAt w j d a z q o) (hroom:mO z r):Calls Tryz.prog 224 #[.pointer (some ⟨j,0,none⟩)] w fun e w'=>e=.returned (.int .i64 (r:Int))∧w=w':=by
 have c2:=hj.c2
 have HR:Hid (∀ w,Calls Tryz.prog 206 #[.int .i64 (z:Int)] w fun e w'=>e=.returned (.int .i64 (r:Int))∧w=w'):=Lib.hid hroom
 clear hj hroom
 go_enter Tryz.func224,Tryz.ntmps224
 go_wp2_with (go_at_call 206;refine (HR.out _).mono ?_;rintro e w' ⟨rfl,rfl⟩)
 go_ret
 exact ⟨rfl,rfl⟩
def Comm (w:World) (j d l m a z r n:Nat) (q:Int) (s:Dk.St) (cs:List Chg) (e:Ending) (w':World):Prop:=
 (jh n a z cs=false∧e=.returned (.int .i64 22)∧Below w.heap.size w w') ∨
 (r<cs.length∧e=.returned (.int .i64 28)∧Below w.heap.size w w') ∨
 (cs=[]∧e=.returned (.int .i64 0)∧Below w.heap.size w w') ∨
 (Jn.May a z n cs∧e=.returned (.int .i64 (Jn.runs s (Jn.steps a q cs)).2)∧aG w' d l m (Jn.runs s (Jn.steps a q cs)).1∧(∃ q',JAt w' j d a z q' ((Jn.runs s (Jn.steps a q cs)).2 != 0)∧((Jn.runs s (Jn.steps a q cs)).2=0→q'=q+2))∧aB [d,l,m,j] w w')
theorem Ct {w:World} {j d l m a z r:Nat} {q:Int} {s:Dk.St} {cs:List Chg} (hj:JAt w j d a z q false) (h:aG w d l m s) (hjd:j∉[d,l,m]) (ha:a≤900) (hz:z≤900) (hroom:mO z r) (hr:r≤512) (hrz:1+Jn.nl r+r≤z) (hreg:a+z≤s.last.length) (A:Option Addr) (c:Nat) (hrow:va w A [d,l,m,j] cs) (hp:∀ x∈cs,x.aK.length=64) (hl:cs.length≤900) (hq0:0≤q) (hq1:q<4294967290):
  Calls Tryz.prog 202 #[.pointer (some ⟨j,0,none⟩),.slice A cs.length c] w (Comm w j d l m a z r s.last.length q s cs):=by
 have HJD:=Lib.hid hjd
 have HOV:=Lib.hid (xJ hj)
 have HTK:=Lib.hid (Bf h a z (by omega) (by omega) A c cs (hrow.mono (by simp)) hp (by omega))
 have HRG:=Lib.hid hj.reg
 have HI:Hid (∀ W,Below w.heap.size w W→JAt W j d a z q false∧aG W d l m s∧va W A [d,l,m,j] cs):=Lib.hid (fun W hb=>⟨hj.below hb,h.below hb,hrow.below hb⟩)
 have HMY:=Lib.hid (fun (ht:jh s.last.length a z cs=true) (h1:1≤cs.length) (h2:cs.length≤r)=>sO ht hp h1 h2 hr hrz hreg h.ok.small)
 have HRM:=Lib.hid hroom
 clear h hj hjd hrow hp hroom hreg
 unfold Comm
 generalize hR:Jn.runs s (Jn.steps a q cs)=R
 have HRR:=Lib.hid hR
 clear hR
 generalize hnn:s.last.length=n at HTK HMY ⊢
 have HNN:Hid (n=s.last.length):=Lib.hid hnn.symm
 clear hnn
 obtain ⟨k,hk⟩:∃ k,cs.length=k:=⟨_,rfl⟩
 have HK:=Lib.hid hk
 rw [hk] at HTK hl HMY ⊢
 clear hk
 go_enter Tryz.func202,Tryz.ntmps202
 go_wp2_with fail
 refine HOV.out.mono ?_
 rintro e w' ⟨rfl,rfl⟩
 clear HOV
 go_wp2_with (with_reducible refine fO HRG.out rfl (.tmp 10) rfl rfl ?_)
 refine HTK.out.mono ?_
 rintro e w2 ⟨rfl,hB2⟩
 have HB2:=Lib.hid hB2
 have HI2:=Lib.hid (HI.out _ hB2)
 clear hB2 HTK HRG HI
 cases ht:jh n a z cs with
 |
  false=>
  go_wp2_with fail
  go_ret
  exact Or.inl ⟨ht,rfl,HB2.out⟩
 |
  true=>
  have HT:=Lib.hid ht
  clear ht
  have HMR:=Lib.hid (oQ HI2.out.1 HRM.out)
  go_wp2_with fail
  refine HMR.out.mono ?_
  rintro e w' ⟨rfl,rfl⟩
  clear HMR
  by_cases hkr:r<k
  ·have hkr':(r:Int)<(k:Int):=by omega
   go_wp2_with fail
   go_ret
   exact Or.inr (Or.inl ⟨hkr,rfl,HB2.out⟩)
  ·have hkr':¬ ((r:Int)<(k:Int)):=by omega
   by_cases hk0:k=0
   ·subst hk0
    have HN:Hid (cs=[]):=Lib.hid (List.eq_nil_of_length_eq_zero HK.out)
    go_wp2_with fail
    go_ret
    exact Or.inr (Or.inr (Or.inl ⟨HN.out,rfl,HB2.out⟩))
   ·have hk1:((k:Int) == 0)=false:=by rw [beq_eq_false_iff_ne];omega
    have HM:=Lib.hid (HMY.out HT.out (by omega) (by omega))
    have HCM:Hid (Calls Tryz.prog 240 #[.pointer (some ⟨j,0,none⟩),.slice A k c] w2 (ME w2 j d l m a z false q R)):=Lib.hid (by
     rw [← HRR.out]
     have hmm:=HM.out
     have hnn:n=s.last.length:=HNN.out
     rw [hnn] at hmm
     have:=Ao HI2.out.1 HI2.out.2.1 HJD.out ha hz A c HI2.out.2.2 hmm hq0 hq1
     rw [HK.out] at this
     exact this)
    clear hk0
    go_wp2_with fail
    refine HCM.out.mono ?_
    rintro e w3 ⟨rfl,hd3,⟨q3,hj3,hq3⟩,ho3⟩
    have HJ3:=Lib.hid hj3
    have HO3:Hid (aB [d,l,m,j] w w3):=Lib.hid ((aB.below HB2.out).trans ho3)
    have HQ3:=Lib.hid hq3
    have HD3:=Lib.hid hd3
    have c4:=hj3.c4
    have f4:=hj3.f 4 (by omega)
    clear hd3 hj3 hq3 ho3 HCM HI2
    go_wp2_with fail
    go_ret
    refine Or.inr (Or.inr (Or.inr ⟨HM.out,rfl,?_,⟨q3,HJ3.out.IJ _,HQ3.out⟩,HO3.out.setCell (by simp) _⟩))
    exact HD3.out.only (L:=[j]) ((aB.refl [j] w3).setCell (p:=⟨j,4,none⟩) (by simp) _) (fun e=>HJD.out (by simp at e ⊢;omega)) (fun e=>HJD.out (by simp at e ⊢;omega)) (fun e=>HJD.out (by simp at e ⊢;omega))
end

section
open Dk (av aa)
open Jn (Chg)
abbrev Pgs:Type:=List (Option (List UInt8))
def ey (c:Pgs):Nat:=c.countP (·.isSome)
def en (n:Nat):Pgs:=List.replicate n none
def dU:Nat→Pgs→List Chg
 | _,[]=>[]
 | i,none::r=>dU (i+1) r
 | i,some p::r=>⟨(i:Int),p⟩::dU (i+1) r
def lF (c:Pgs):List Chg:=dU 0 c
theorem gi:∀ (c:Pgs) (i:Nat),(dU i c).length=ey c
 | [],_=>rfl
 |
  none::r,i=>by
  rw [dU,gi r (i+1)];unfold ey;simp
 |
  some p::r,i=>by
  rw [dU,List.length_cons,gi r (i+1)];unfold ey;simp
theorem dt (c:Pgs):(lF c).length=ey c:=gi c 0
theorem gE:∀ (c:Pgs) (i:Nat) (x:Chg),x∈dU i c↔∃ k:Nat,x.no=((i+k:Nat):Int)∧c.getD k none=some x.aK
 | [],i,x=>by simp [dU]
 |
  none::r,i,x=>by
  rw [dU,gE r (i+1) x]
  constructor
  ·rintro ⟨k,h1,h2⟩
   exact ⟨k+1,by rw [h1];congr 1;omega,by simpa using h2⟩
  ·rintro ⟨k,h1,h2⟩
   cases k with
   | zero=>simp at h2
   | succ k=>exact ⟨k,by rw [h1];congr 1;omega,by simpa using h2⟩
 |
  some p::r,i,x=>by
  rw [dU,List.mem_cons,gE r (i+1) x]
  constructor
  ·rintro (rfl | ⟨k,h1,h2⟩)
   ·exact ⟨0,rfl,rfl⟩
   ·exact ⟨k+1,by rw [h1];congr 1;omega,by simpa using h2⟩
  ·rintro ⟨k,h1,h2⟩
   cases k with
   |
    zero=>
    left
    cases x with
    |
     mk no aK=>
     simp at h1 h2
     rw [h1,h2]
   | succ k=>exact Or.inr ⟨k,by rw [h1];congr 1;omega,by simpa using h2⟩
theorem gD {c:Pgs} {x:Chg}:x∈lF c↔∃ k:Nat,x.no=(k:Int)∧c.getD k none=some x.aK:=by
 unfold lF
 rw [gE]
 simp only [Nat.zero_add]
theorem kA:∀ (c:Pgs) (i:Nat),(dU i c).Pairwise (fun x y=>x.no<y.no)
 | [],_=>List.Pairwise.nil
 | none::r,i=>by rw [dU];exact kA r (i+1)
 |
  some p::r,i=>by
  rw [dU]
  refine List.Pairwise.cons (fun x hx=>?_) (kA r (i+1))
  obtain ⟨k,h1,_⟩:=(gE r (i+1) x).1 hx
  show (i:Int)<x.no
  rw [h1];omega
theorem wN (c:Pgs):(lF c).Pairwise (fun x y=>x.no<y.no):=kA c 0
theorem kz (n:Nat):ey (en n)=0:=by unfold ey en;simp [List.countP_replicate]
theorem jS (n i:Nat):(en n).getD i none=none:=by
 unfold en
 rw [List.getD_eq_getElem?_getD,List.getElem?_replicate]
 split <;> rfl
theorem px {c:Pgs} (h:ey c=0):c=en c.length:=by
 unfold ey at h
 rw [List.countP_eq_zero] at h
 unfold en
 rw [List.eq_replicate_iff]
 refine ⟨rfl,fun x hx=>?_⟩
 have:=h x hx
 cases x with
 | none=>rfl
 | some p=>simp at this
theorem xB {c:Pgs} {k:Nat} {p:List UInt8} (h:c.getD k none=some p):k<c.length:=by
 rw [List.getD_eq_getElem?_getD] at h
 by_cases hk:k<c.length
 ·exact hk
 ·rw [List.getElem?_eq_none (by omega)] at h;cases h
theorem vK {a b:Pgs} (hl:a.length=b.length) (h:∀ i,i<a.length→a.getD i none=b.getD i none):a=b:=Jn.Gt none hl h
theorem jQ (c:Pgs) (i j:Nat) (p:List UInt8) (hi:i<c.length):(c.set i (some p)).getD j none=if i=j then some p else c.getD j none:=by
 rw [List.getD_eq_getElem?_getD,List.getElem?_set]
 by_cases e:i=j
 ·rw [if_pos e,if_pos hi,if_pos e];rfl
 ·rw [if_neg e,if_neg e,List.getD_eq_getElem?_getD]
def jw (g t:Pgs):Pgs:=(List.range g.length).map fun i=>(t.getD i none).or (g.getD i none)
theorem dK (g t:Pgs):(jw g t).length=g.length:=by unfold jw;simp
theorem sd (g t:Pgs) (i:Nat) (hi:i<g.length):(jw g t).getD i none=(t.getD i none).or (g.getD i none):=by
 unfold jw
 rw [List.getD_eq_getElem?_getD,List.getElem?_map,List.getElem?_range hi];rfl
structure Sto where
 dk:Dk.St
 a:Nat
 z:Nat
 r:Nat
 q:Int
 over:Bool
 step:Pgs
 group:Pgs
def fs (n a z:Nat) (c:Pgs):Prop:=∀ k p,c.getD k none=some p→p.length=64∧cG n a z (k:Int)=true
structure Sto.Ok (s:Sto):Prop where
 AD:s.step.length=s.dk.last.length
 uY:s.group.length=s.dk.last.length
 spg:fs s.dk.last.length s.a s.z s.step
 gpg:fs s.dk.last.length s.a s.z s.group
 KL:ey s.step≤s.r
 Kt:ey s.group≤s.r
 a9:s.a≤900
 z9:s.z≤900
 reg:s.a+s.z≤s.dk.last.length
 room:mO s.z s.r
 r1:1≤s.r
 r32:s.r≤512
 rz:1+Jn.nl s.r+s.r≤s.z
def cr (s:Sto) (i:Int):Int:=if s.over=true then 5 else if cG s.dk.last.length s.a s.z i=true then 0 else 22
def jZ (s:Sto) (i:Nat):Option (List UInt8):=(s.step.getD i none).or (s.group.getD i none)
def gy (s:Sto) (i:Int):List UInt8:=if cr s i=0 then (jZ s i.toNat).getD (Dk.gJ s.dk i) else av
def ji (s:Sto) (i:Int):Int:=if cr s i=0 then (if (jZ s i.toNat).isSome=true then 0 else Dk.dh s.dk i) else cr s i
def mT (s:Sto) (i:Int):Int:=if cr s i=0 then (if (s.step.getD i.toNat none).isSome=false∧s.r≤ey s.step then 28 else 0) else cr s i
def tc (s:Sto) (i:Int) (p:List UInt8):Sto:=if mT s i=0 then { s with step:=s.step.set i.toNat (some p) } else s
def oc (s:Sto):Sto:={ s with step:=en s.dk.last.length }
def sx (s:Sto):Dk.St × Int:=Jn.runs s.dk (Jn.steps s.a s.q (lF s.group))
def bY (s:Sto):Int:=if s.over=true then 5 else if ey s.group=0 then 0 else (sx s).2
def iu (s:Sto):Sto:={ s with dk:=(sx s).1,over:=(sx s).2 != 0,q:=s.q+2 }
def cN (s:Sto):Sto:=
 if s.over=true then s
 else if ey s.group=0 then s
 else if (sx s).2=0 then { iu s with group:=en s.dk.last.length }
 else iu s
def nR (s:Sto):Nat:=ey (jw s.group s.step)
def ri (s:Sto):Sto:={ s with group:=jw s.group s.step,step:=en s.dk.last.length }
def et (s:Sto):Int:=if s.over=true then 5 else if s.r<nR s then bY s else 0
def fp (s:Sto):Sto:=
 if s.over=true then s
 else if s.r<nR s then (if bY s=0 then ri (cN s) else cN s)
 else ri s
end

section
open Go.RowKit Go.Maps
open Dk (av aa)
open Jn (Chg)
structure Blk where
 s:Nat
 j:Nat
 d:Nat
 l:Nat
 m:Nat
 t:Nat
 g:Nat
def Blk.all (b:Blk):List Nat:=[b.s,b.j,b.d,b.l,b.m,b.t,b.g]
def qf (b:Blk) (a z:Nat):List Value:=[.pointer (some ⟨b.j,0,none⟩),.pointer (some ⟨b.d,0,none⟩),.int .i64 (a:Int),.int .i64 (z:Int),.map (some b.t),.map (some b.g)]
structure ay (w:World) (b:Blk) (s:Sto):Prop where
 row:au w b.s (qf b s.a s.z)
 ja:∃ q,JAt w b.j b.d s.a s.z q s.over∧(s.over=false→q=s.q)
 ew:aG w b.d b.l b.m s.dk
 step:dw w b.t s.step
 group:dw w b.g s.group
 nd:b.all.Nodup
 ok:s.Ok
theorem ay.c0 {w:World} {b:Blk} {s:Sto} (h:ay w b s):w.cell? ⟨b.s,0,none⟩=some (.pointer (some ⟨b.j,0,none⟩)):=h.row.cell 0 _ rfl
theorem ay.c1 {w:World} {b:Blk} {s:Sto} (h:ay w b s):w.cell? ⟨b.s,1,none⟩=some (.pointer (some ⟨b.d,0,none⟩)):=h.row.cell 1 _ rfl
theorem ay.c2 {w:World} {b:Blk} {s:Sto} (h:ay w b s):w.cell? ⟨b.s,2,none⟩=some (.int .i64 (s.a:Int)):=h.row.cell 2 _ rfl
theorem ay.c3 {w:World} {b:Blk} {s:Sto} (h:ay w b s):w.cell? ⟨b.s,3,none⟩=some (.int .i64 (s.z:Int)):=h.row.cell 3 _ rfl
theorem ay.c4 {w:World} {b:Blk} {s:Sto} (h:ay w b s):w.cell? ⟨b.s,4,none⟩=some (.map (some b.t)):=h.row.cell 4 _ rfl
theorem ay.c5 {w:World} {b:Blk} {s:Sto} (h:ay w b s):w.cell? ⟨b.s,5,none⟩=some (.map (some b.g)):=h.row.cell 5 _ rfl
theorem ay.lt {w:World} {b:Blk} {s:Sto} (h:ay w b s):∀ k∈b.all,k<w.heap.size:=by
 intro k hk
 obtain ⟨q,hj,_⟩:=h.ja
 unfold Blk.all at hk
 simp only [List.mem_cons,List.not_mem_nil,or_false] at hk
 rcases hk with rfl | rfl | rfl | rfl | rfl | rfl | rfl
 ·exact h.row.lt
 ·exact hj.lt
 ·exact h.ew.dlt
 ·exact h.ew.llt
 ·exact h.ew.mlt
 ·exact h.step.lt
 ·exact h.group.lt
theorem ay.blocks {w w':World} {b:Blk} {s:Sto} (h:ay w b s) (hb:∀ k∈b.all,w'.heap[k]?=w.heap[k]?):ay w' b s:=by
 obtain ⟨q,hj,hq⟩:=h.ja
 have e:∀ k,k∈b.all→w'.heap[k]?=w.heap[k]?:=hb
 exact ⟨h.row.block (e _ (by simp [Blk.all])),⟨q,hj.block (e _ (by simp [Blk.all])),hq⟩,h.ew.blocks (e _ (by simp [Blk.all])) (e _ (by simp [Blk.all])) (e _ (by simp [Blk.all])),h.step.block (e _ (by simp [Blk.all])),h.group.block (e _ (by simp [Blk.all])),h.nd,h.ok⟩
theorem ay.only {w w':World} {b:Blk} {s:Sto} {L:List Nat} (h:ay w b s) (ho:aB L w w') (hL:∀ k∈b.all,k∉L):ay w' b s:=
 h.blocks fun k hk=>ho.block k (h.lt k hk) (hL k hk)
theorem ay.below {w w':World} {b:Blk} {s:Sto} (h:ay w b s) (hb:Below w.heap.size w w'):ay w' b s:=h.blocks fun k hk=>hb.block k (h.lt k hk)
theorem ay.alloc {w:World} {b:Blk} {s:Sto} (h:ay w b s) (o:Obj):ay (w.alloc o) b s:=h.below ((Below.refl _ _).alloc (Nat.le_refl _) _)
theorem ay.drewN {w:World} {b:Blk} {s:Sto} (h:ay w b s) (n:Nat):ay (w.drewN n) b s:=h.blocks fun _ _=>rfl
theorem ay.drew {w:World} {b:Blk} {s:Sto} (h:ay w b s):ay w.drew b s:=h.blocks fun _ _=>rfl
theorem Blk.ne {b:Blk} (h:b.all.Nodup):b.s≠b.j∧b.s≠b.d∧b.s≠b.l∧b.s≠b.m∧b.s≠b.t∧b.s≠b.g∧b.j≠b.d∧b.j≠b.l∧b.j≠b.m∧b.j≠b.t∧b.j≠b.g∧b.d≠b.t∧b.d≠b.g∧b.l≠b.t∧b.l≠b.g∧b.m≠b.t∧b.m≠b.g∧b.t≠b.g:=by
 unfold Blk.all at h
 simp only [List.nodup_cons,List.mem_cons,List.not_mem_nil,or_false,not_or] at h
 obtain ⟨⟨h1,h2,h3,h4,h5,h6⟩,⟨h7,h8,h9,h10,h11⟩,⟨h12,h13,h14,h15⟩,⟨h16,h17,h18⟩,⟨h19,h20⟩,h21,_⟩:=h
 exact ⟨h1,h2,h3,h4,h5,h6,h7,h8,h9,h10,h11,h14,h15,h17,h18,h19,h20,h21⟩
theorem ay.ob {w w':World} {b:Blk} {s:Sto} (h:ay w b s) (ho:aB [b.t] w w') {c:Pgs} (hm:dw w' b.t c) (hok:Sto.Ok { s with step:=c }):ay w' b { s with step:=c }:=by
 obtain ⟨q,hj,hq⟩:=h.ja
 have ne:=Blk.ne h.nd
 have e:∀ k,k∈b.all→k≠b.t→w'.heap[k]?=w.heap[k]?:=fun k hk hn=>ho.block k (h.lt k hk) (by simpa using hn)
 exact ⟨h.row.block (e _ (by simp [Blk.all]) ne.2.2.2.2.1),⟨q,hj.block (e _ (by simp [Blk.all]) (by omega)),hq⟩,h.ew.blocks (e _ (by simp [Blk.all]) (by omega)) (e _ (by simp [Blk.all]) (by omega)) (e _ (by simp [Blk.all]) (by omega)),hm,h.group.block (e _ (by simp [Blk.all]) (by omega)),h.nd,hok⟩
theorem ay.xo {w w':World} {b:Blk} {s:Sto} (h:ay w b s) (ho:aB [b.g] w w') {c:Pgs} (hm:dw w' b.g c) (hok:Sto.Ok { s with group:=c }):ay w' b { s with group:=c }:=by
 obtain ⟨q,hj,hq⟩:=h.ja
 have ne:=Blk.ne h.nd
 have e:∀ k,k∈b.all→k≠b.g→w'.heap[k]?=w.heap[k]?:=fun k hk hn=>ho.block k (h.lt k hk) (by simpa using hn)
 exact ⟨h.row.block (e _ (by simp [Blk.all]) (by omega)),⟨q,hj.block (e _ (by simp [Blk.all]) (by omega)),hq⟩,h.ew.blocks (e _ (by simp [Blk.all]) (by omega)) (e _ (by simp [Blk.all]) (by omega)) (e _ (by simp [Blk.all]) (by omega)),h.step.block (e _ (by simp [Blk.all]) (by omega)),hm,h.nd,hok⟩
theorem gU (n a z k:Nat):fs n a z (en k):=fun i p h=>by rw [jS] at h;cases h
theorem vL {n a z:Nat} {c:Pgs} (h:fs n a z c) {i:Nat} {p:List UInt8} (hi:i<c.length) (hp:p.length=64) (ho:cG n a z (i:Int)=true):fs n a z (c.set i (some p)):=fun k x hx=>by
 rw [jQ _ _ _ _ hi] at hx
 by_cases e:i=k
 ·rw [if_pos e] at hx
  injection hx with hx
  subst hx;subst e
  exact ⟨hp,ho⟩
 ·rw [if_neg e] at hx;exact h k x hx
theorem mF {n a z:Nat} {g t:Pgs} (hg:fs n a z g) (ht:fs n a z t):fs n a z (jw g t):=fun k p hp=>by
 have hk:=xB hp
 rw [dK] at hk
 rw [sd _ _ _ hk] at hp
 cases e:t.getD k none with
 | some x=>rw [e] at hp;injection hp with hp;subst hp;exact ht k x e
 | none=>rw [e] at hp;exact hg k p hp
theorem Fp {s:Sto} (h:s.Ok):(oc s).Ok:=⟨List.length_replicate,h.uY,gU _ _ _ _,h.gpg,by show ey (en _)≤_;rw [kz];exact Nat.zero_le _,h.Kt,h.a9,h.z9,h.reg,h.room,h.r1,h.r32,h.rz⟩
theorem sm (c:Pgs) (i:Nat) (p:List UInt8) (hi:i<c.length):ey (c.set i (some p))=if (c.getD i none).isSome then ey c else ey c+1:=count_set c i p hi
theorem Bu {s:Sto} (h:s.Ok) {i:Nat} {p:List UInt8} (hp:p.length=64) (hr:cG s.dk.last.length s.a s.z (i:Int)=true) (hf:¬ ((s.step.getD i none).isSome=false∧s.r≤ey s.step)):Sto.Ok { s with step:=s.step.set i (some p) }:=by
 have hi:i<s.step.length:=by
  have:=of_decide_eq_true hr
  rw [h.AD];omega
 refine ⟨by show (s.step.set _ _).length=_;rw [List.length_set];exact h.AD,h.uY,vL h.spg hi hp hr,h.gpg,?_,h.Kt,h.a9,h.z9,h.reg,h.room,h.r1,h.r32,h.rz⟩
 show ey (s.step.set i (some p))≤s.r
 rw [sm _ _ _ hi]
 have:=h.KL
 cases e:(s.step.getD i none).isSome with
 | true=>rw [if_pos rfl];exact this
 |
  false=>
  have:¬ s.r≤ey s.step:=fun g=>hf ⟨e,g⟩
  rw [if_neg (by simp)];omega
theorem rh {s:Sto} (h:s.Ok) (hc:nR s≤s.r):(ri s).Ok:=
 ⟨List.length_replicate,by show (jw _ _).length=_;rw [dK];exact h.uY,gU _ _ _ _,mF h.gpg h.spg,by show ey (en _)≤_;rw [kz];exact Nat.zero_le _,hc,h.a9,h.z9,h.reg,h.room,h.r1,h.r32,h.rz⟩
theorem xr (cs:List Chg):∀ s:Dk.St,(Jn.cj s cs).1.last.length=s.last.length:=by
 induction cs with
 | nil=>intro s;exact Dk.DG s
 |
  cons c r ih=>
  intro s
  unfold Jn.cj
  split
  ·rw [ih,Dk.sE]
  ·exact Dk.sE s _ _
theorem Fq (ls:List (List Chg)):∀ s:Dk.St,(Jn.runs s ls).1.last.length=s.last.length:=by
 induction ls with
 | nil=>intro s;rfl
 |
  cons l r ih=>
  intro s
  unfold Jn.runs
  split
  ·rw [ih,xr]
  ·exact xr l s
theorem gw (s:Sto):(sx s).1.last.length=s.dk.last.length:=Fq _ _
theorem jM {s:Sto} (h:s.Ok):(iu s).Ok:=by
 refine ⟨by show s.step.length=_;rw [h.AD];exact (gw s).symm,by show s.group.length=_;rw [h.uY];exact (gw s).symm,?_,?_,h.KL,h.Kt,h.a9,h.z9,by show s.a+s.z≤_;unfold iu;rw [gw];exact h.reg,h.room,h.r1,h.r32,h.rz⟩
 ·show fs (sx s).1.last.length _ _ _
  rw [gw];exact h.spg
 ·show fs (sx s).1.last.length _ _ _
  rw [gw];exact h.gpg
theorem od {s:Sto} (h:s.Ok) {n:Nat} (hn:n=s.dk.last.length):Sto.Ok { s with group:=en n }:=
 ⟨h.AD,by show (en n).length=_;unfold en;rw [List.length_replicate];exact hn,h.spg,gU _ _ _ _,h.KL,by show ey (en _)≤_;rw [kz];exact Nat.zero_le _,h.a9,h.z9,h.reg,h.room,h.r1,h.r32,h.rz⟩
theorem xl {s:Sto} (h:s.Ok):(cN s).Ok:=by
 unfold cN
 split
 ·exact h
 ·split
  ·exact h
  ·split
   ·exact od (jM h) (gw s).symm
   ·exact jM h
theorem qg {s:Sto} (h:s.Ok) (he:bY s=0):s.over=false∧ey (cN s).group=0∧(cN s).over=false∧(cN s).step=s.step∧(cN s).r=s.r:=by
 have ho:s.over=false:=by
  cases e:s.over with
  | false=>rfl
  | true=>unfold bY at he;rw [if_pos e] at he;cases he
 have hn:¬ s.over=true:=by rw [ho];simp
 refine ⟨ho,?_⟩
 unfold bY at he
 rw [if_neg hn] at he
 unfold cN
 rw [if_neg hn]
 by_cases c:ey s.group=0
 ·rw [if_pos c];exact ⟨c,ho,rfl,rfl⟩
 ·rw [if_neg c] at he
  rw [if_neg c,if_pos he]
  refine ⟨kz _,?_,rfl,rfl⟩
  show ((sx s).2 != 0)=false
  rw [he];rfl
theorem sR {n a z:Nat} (cs:List Chg):∀ (f:Nat→Bool),cs.Pairwise (fun x y=>x.no<y.no)→(∀ c∈cs,cG n a z c.no=true∧f c.no.toNat=false)→dx n a z f cs=true:=by
 induction cs with
 | nil=>intro f _ _;rfl
 |
  cons c r ih=>
  intro f hp hc
  obtain ⟨h1,h2⟩:=hc c (by simp)
  rw [xf h1 h2]
  obtain ⟨p1,p2⟩:=List.pairwise_cons.1 hp
  refine ih _ p2 (fun x hx=>⟨(hc x (by simp [hx])).1,?_⟩)
  have g1:=of_decide_eq_true h1
  have g2:=of_decide_eq_true (hc x (by simp [hx])).1
  have g3:=p1 x hx
  unfold mark
  rw [(hc x (by simp [hx])).2,Bool.or_false,beq_eq_false_iff_ne]
  omega
theorem qS {n a z:Nat} {c:Pgs} (h:fs n a z c):jh n a z (lF c)=true:=by
 refine sR _ _ (wN c) (fun x hx=>?_)
 obtain ⟨k,h1,h2⟩:=gD.1 hx
 exact ⟨by rw [h1];exact (h k _ h2).2,rfl⟩
theorem ml {n a z:Nat} {c:Pgs} (h:fs n a z c):∀ x∈lF c,x.aK.length=64:=fun x hx=>by
 obtain ⟨k,_,h2⟩:=gD.1 hx
 exact (h k _ h2).1
theorem Bm {s:Sto} (h:s.Ok) (hg:ey s.group=0):nR s=ey s.step:=by
 unfold nR
 have:jw s.group s.step=s.step:=by
  refine vK (by rw [dK,h.uY,h.AD]) (fun i hi=>?_)
  rw [dK] at hi
  rw [sd _ _ _ hi,px hg,jS]
  cases s.step.getD i none <;> rfl
 rw [this]
theorem qj {s:Sto} (h:s.Ok) (he:bY s=0):nR (cN s)≤(cN s).r:=by
 obtain ⟨_,h1,_,h3,h4⟩:=qg h he
 rw [Bm (xl h) h1,h3,h4]
 exact h.KL
end

namespace Sp
def okB (i:Int):Bool:=decide (0≤i∧i<1060)
def dep (i:Int):Int:=if 0≤i∧i<1060 then (if i<4 then 0 else if i<36 then 1 else 2) else 0
def out (i:Int):Int:=if 36≤i∧i<1060 then (i - 36) / 32 else 0
def inn (i:Int):Int:=if 0≤i∧i<1060 then (if i<4 then i else if i<36 then i - 4 else (i - 36) % 32) else 0
theorem lV {i:Int} (h:i<0∨1060≤i):okB i=false∧dep i=0∧out i=0∧inn i=0:=by
 refine ⟨?_,?_,?_,?_⟩
 ·unfold okB;rw [decide_eq_false_iff_not];omega
 ·unfold dep;rw [if_neg (by omega)]
 ·unfold out;rw [if_neg (by omega)]
 ·unfold inn;rw [if_neg (by omega)]
theorem vO {i:Int} (h0:0≤i) (h1:i<4):okB i=true∧dep i=0∧out i=0∧inn i=i:=by
 refine ⟨?_,?_,?_,?_⟩
 ·unfold okB;rw [decide_eq_true_eq];omega
 ·unfold dep;rw [if_pos (by omega),if_pos h1]
 ·unfold out;rw [if_neg (by omega)]
 ·unfold inn;rw [if_pos (by omega),if_pos h1]
theorem vN {i:Int} (h0:4≤i) (h1:i<36):okB i=true∧dep i=1∧out i=0∧inn i=i - 4:=by
 refine ⟨?_,?_,?_,?_⟩
 ·unfold okB;rw [decide_eq_true_eq];omega
 ·unfold dep;rw [if_pos (by omega),if_neg (by omega),if_pos h1]
 ·unfold out;rw [if_neg (by omega)]
 ·unfold inn;rw [if_pos (by omega),if_neg (by omega),if_pos h1]
theorem vM {i:Int} (h0:36≤i) (h1:i<1060):okB i=true∧dep i=2∧out i=(i - 36) / 32∧inn i=(i - 36) % 32:=by
 refine ⟨?_,?_,?_,?_⟩
 ·unfold okB;rw [decide_eq_true_eq];omega
 ·unfold dep;rw [if_pos (by omega),if_neg (by omega),if_neg (by omega)]
 ·unfold out;rw [if_pos (by omega)]
 ·unfold inn;rw [if_pos (by omega),if_neg (by omega),if_neg (by omega)]
theorem kinds (i:Int):(i<0∨1060≤i)∨(0≤i∧i<4)∨(4≤i∧i<36)∨(36≤i∧i<1060):=by omega
def MR (d o n:Int):Bool:=decide ((d=0∧o=0∧0≤n∧n<4)∨(d=1∧o=0∧0≤n∧n<32)∨(d=2∧0≤o∧o<32∧0≤n∧n<32))
def idx (d o n:Int):Int:=if MR d o n=true then (if d=0 then n else if d=1 then 4+n else 36+o*32+n) else 0
structure St where
 a:Bool
 b:Bool
 ls:List Int
def St.none:St:=⟨false,false,[]⟩
def St.put (s:St) (k:Int):St:=if k=-2 then { s with a:=true } else if k=-1 then { s with b:=true } else if s.ls.contains k then s else { s with ls:=s.ls++[k] }
def leads (d o:Int):List Int:=if d=1 then [-2] else if d=2 then [-1,o] else []
def St.MG (s:St) (ks:List Int):St:=ks.foldl St.put s
def St.step (s:St) (i:Int):St:=if okB i=true then s.MG (leads (dep i) (out i)) else s
def run (l:List Int):St:=l.foldl St.step St.none
end Sp

section
open Dk (av aa)
open Go.RowKit
theorem au.frozen {w:World} {b:Nat} {vs:List Value} (h:au w b vs) (j:Nat) (hj:j<vs.length):w.frozen? ⟨b,j,none⟩=false:=by
 have:=(h.free j hj).2
 rwa [Nat.zero_add] at this
theorem au.step {w w':World} {b:Nat} {v:Value} {vs:List Value} (h:au w b (v::vs)) (hb:Below w.heap.size w w'):au w' b (v::vs):=h.below hb h.lt
theorem aD.step {w w':World} {b:Nat} {p:List UInt8} (h:aD w b p) (hb:Below w.heap.size w w'):aD w' b p:=h.below hb h.lt
structure mN (t:TypeId) (n:Nat):Prop where
 row:∃ d,Tryz.prog.underlying t=some d∧d.isRow=true
 info:(Tryz.prog.info? t).map (·.size)=some n
theorem au.mW {t:TypeId} {n:Nat} (ht:mN t n) {w:World} {b:Nat} {vs:List Value} (k:au w b vs) (hl:vs.length=n):(loadVar t ⟨b,0,none⟩).run Tryz.prog w=.ok (.agg vs.toArray) w:=by
 obtain ⟨d,hd,hr⟩:=ht.row
 exact run_loadVar_mid (P:=Tryz.prog) w b 0 t vs d k.range hd hr (by rw [ht.info,hl])
theorem af {t:TypeId} {n:Nat} (ht:mN t n) {ops:Array Oper} {rest:List Oper} {op:Oper} {a:Act} {Q:Exit→Act→World→Prop} {w:World} {b:Nat} {vs:List Value} (k:au w b vs) (hl:vs.length=n) (hgd:op.guard=none) (x:Operand) (ho:op.op=.load t x)
  (hx:a.eval x=.pointer (some ⟨b,0,none⟩)) (hn:wpList Tryz.prog ops Q rest (a.put op.dst (.agg vs.toArray)) w):wpList Tryz.prog ops Q (op::rest) a w:=by
 obtain ⟨d,hd,hr⟩:=ht.row
 exact wpList_load_mid hgd t x ho b 0 hx vs d k.range hd hr (by rw [ht.info,hl]) hn
theorem mQ {t:TypeId} {n:Nat} (ht:mN t n) {ops:Array Oper} {rest:List Oper} {op:Oper} {a:Act} {Q:Exit→Act→World→Prop} {w:World} {b:Nat} {vs:List Value} (k:au w b vs) (hl:vs.length=n) (x:Operand) (ho:op.op=.load t x)
  (hx:a.eval x=.pointer (some ⟨b,0,none⟩)) (hw:Region.wanted op (yielded ops a.tmps)=true) (hn:wpList Tryz.prog ops Q rest (a.put op.dst (.agg vs.toArray)) w):wpList Tryz.prog ops Q (op::rest) a w:=by
 obtain ⟨d,hd,hr⟩:=ht.row
 exact BigFrame.wpList_want hw fun _ hK=>wp_load_mid t x ho b 0 hx vs d k.range hd hr (by rw [ht.info,hl]) (hK _ _ hn)
theorem ak {t:TypeId} {n:Nat} (ht:mN t n) {ops:Array Oper} {rest:List Oper} {op:Oper} {a:Act} {Q:Exit→Act→World→Prop} {w:World} {b:Nat} {us vs:List Value} (k:au w b us) (hu:us.length=n) (hl:vs.length=n) (ho1:∀ v∈vs,v.oneCell'=true) (hgd:op.guard=none) (x y:Operand) (ho:op.op=.store t x y)
  (hx:a.eval x=.pointer (some ⟨b,0,none⟩)) (hy:a.eval y=.agg vs.toArray) (hn:wpList Tryz.prog ops Q rest (a.put op.dst undef) (w.setCells b 0 vs)):wpList Tryz.prog ops Q (op::rest) a w:=
 wpList_store_mid hgd t x y ho b 0 vs.toArray hx hy (by rw [List.size_toArray,hl,← hu];exact k.free) (by rw [ht.info,List.size_toArray,hl]) (all_oneCell_toArray ho1) (by simpa using hn)
theorem ai {t:TypeId} {n:Nat} (ht:mN t n) {ops:Array Oper} {rest:List Oper} {op:Oper} {a:Act} {Q:Exit→Act→World→Prop} {w:World} {Z:Array Value} {u:TypeId} {vs:List Value} (hl:vs.length=n) (ho1:∀ v∈vs,v.oneCell'=true) (hgd:op.guard=none) (x y:Operand) (ho:op.op=.store t x y)
  (hx:a.eval x=.pointer (some ⟨w.heap.size,0,none⟩)) (hy:a.eval y=.agg vs.toArray) (hZ:Z.size=n)
  (hn:∀ W2,au W2 w.heap.size vs→Below w.heap.size w W2→W2.heap.size=w.heap.size+1→wpList Tryz.prog ops Q rest (a.put op.dst undef) W2):
  wpList Tryz.prog ops Q (op::rest) a (w.alloc (.cells Z u)):=by
 have hth:(w.alloc (.cells Z u)).there w.heap.size 0 vs.length:=eY w Z u _ (by omega)
 refine wpList_store_mid hgd t x y ho w.heap.size 0 vs.toArray hx hy (by rw [List.size_toArray];exact hth) (by rw [ht.info,List.size_toArray,hl]) (all_oneCell_toArray ho1) (hn _ ?_ ?_ ?_)
 ·exact ⟨World.rangeAt_setCells_same _ _ _ _ hth,World.there_setCells hth _ _ _⟩
 ·exact below_setCells _ (Nat.le_refl _) _ _ _ ((Below.refl _ _).alloc (Nat.le_refl _) _)
 ·rw [bC];simp
theorem vA {t:TypeId} {n:Nat} (ht:mN t n) (fn:Func) (s:Nat) (hf:fn.results=#[.cell s t]) {w:World} {b:Nat} {vs:List Value} (tmps:Array Value) (k:au w b vs) (hl:vs.length=n) (hs:tmps.getD s undef=.pointer (some ⟨b,0,none⟩)):
  (results fn tmps).run Tryz.prog w=.ok (.agg vs.toArray) w:=by
 have hl:=k.mW ht hl
 unfold results
 rw [hf]
 simp only [Array.mapM_eq_mapM_toList,List.mapM_cons,List.mapM_nil,hs,asAddr,Sem.run_bind,Sem.run_pure,Result.andThen_ok,hl,Sem.run_map]
 rfl
theorem aL {t:TypeId} {n:Nat} (ht:mN t n) (fn:Func) (s r:Nat) (hf:fn.results=#[.cell s t,.tmp r]) {w:World} {b:Nat} {vs:List Value} {v:Value} (tmps:Array Value) (k:au w b vs) (hl:vs.length=n) (hs:tmps.getD s undef=.pointer (some ⟨b,0,none⟩)) (hr:tmps.getD r undef=v):
  (results fn tmps).run Tryz.prog w=.ok (.tuple #[.agg vs.toArray,v]) w:=by
 have hl:=k.mW ht hl
 unfold results
 rw [hf]
 simp only [Array.mapM_eq_mapM_toList,List.mapM_cons,List.mapM_nil,hs,hr,asAddr,Sem.run_bind,Sem.run_pure,Result.andThen_ok,hl,Sem.run_map]
 rfl
theorem kW (fn:Func) (s r:Nat) (hf:fn.results=#[.cell s 87,.tmp r]) {w:World} {b:Nat} {q:List UInt8} {v:Value} (tmps:Array Value) (h:aD w b q) (ht:tmps.getD s undef=.pointer (some ⟨b,0,none⟩)) (hr:tmps.getD r undef=v):
  (results fn tmps).run Tryz.prog w=.ok (.tuple #[an q,v]) w:=by
 have hl:=h.mW
 unfold results
 rw [hf]
 simp only [Array.mapM_eq_mapM_toList,List.mapM_cons,List.mapM_nil,ht,hr,asAddr,Sem.run_bind,Sem.run_pure,Result.andThen_ok,hl,Sem.run_map]
 rfl
section
variable {ops:Array Oper} {σ:Type} {S:σ→World→Prop}
theorem bA {t:TypeId} {n:Nat} (ht:mN t n) {o:Oper} {a:Act} {w:World} {b:Nat} {us vs:List Value} {R:Value→World→Prop} (k:au w b us) (hu:us.length=n) (hl:vs.length=n) (ho1:∀ v∈vs,v.oneCell'=true) (x y:Operand) (ho:o.op=.store t x y) (hx:a.eval x=.pointer (some ⟨b,0,none⟩)) (hy:a.eval y=.agg vs.toArray)
  (hR:R undef (w.setCells b 0 vs)):dE Tryz.prog (execOp a.eval o) w R:=by
 have hs:=run_storeVar_mid (P:=Tryz.prog) w b 0 t vs.toArray (by rw [List.size_toArray,hl,← hu];exact k.free) (by rw [ht.info,List.size_toArray,hl]) (all_oneCell_toArray ho1)
 have hrun:(execOp a.eval o).run Tryz.prog w=.ok .skip (w.setCells b 0 vs)∨(execOp a.eval o).run Tryz.prog w=.ok (.value undef) (w.setCells b 0 vs):=by
  unfold execOp
  simp only [ho,hx,hy,Instr.storeAt,Instr.sureAddr,Sem.run_bind,Sem.run_pure,Result.andThen_ok,hs]
  simp
 unfold dE
 rcases hrun with h | h <;> (rw [h];exact hR)
end
theorem fN {id:Nat} {C:World→Prop} {Q:Exit→Act→World→Prop} {a:Act} {w:World} {l:List Oper} (hB:Region.lexB .any l.toArray=true) (hC:C { w with drawn:=w.drawn+1 })
  (h:wpQuiet Tryz.prog l.toArray C (fun a'=>∀ w',C w'→Q .normal a' w') l a):(Code.region id l.toArray true).wp Tryz.prog Q a w:=
 wp_region_quiet (C:=C) (by kernel_rfl) hB hC (by simpa using h)
theorem bD {ops:Array Oper} {rest:List Oper} {op:Oper} {a:Act} {Q:Act→Prop} {C:World→Prop} (v:Value) (hw:Region.wanted op (yielded ops a.tmps)=true) (hrun:∀ w,C w→(execOp a.eval op).run Tryz.prog w=.ok (.value v) w)
  (h:wpQuiet Tryz.prog ops C Q rest (a.put op.dst v)):wpQuiet Tryz.prog ops C Q (op::rest) a:=by
 refine wpQuiet_step (fun K hK=>?_)
 rw [if_pos hw]
 refine ⟨v,fun w hC=>?_,hK _ h⟩
 unfold Oper.quietAt
 rw [hrun w hC]
 exact ⟨rfl,rfl⟩
theorem ep {ops:Array Oper} {rest:List Oper} {op:Oper} {a:Act} {Q:Act→Prop} {C:World→Prop} (f:FuncId) (args:Array Value) (v:Value) (hw:Region.wanted op (yielded ops a.tmps)=true) (hrun:∀ w,(execOp a.eval op).run Tryz.prog w=.ok (.enter f args) w)
  (hcall:∀ w,C w→Calls Tryz.prog f args w fun e w'=>e=.returned v∧C w') (h:wpQuiet Tryz.prog ops C Q rest (a.put op.dst v)):wpQuiet Tryz.prog ops C Q (op::rest) a:=by
 refine wpQuiet_step (fun K hK=>?_)
 rw [if_pos hw]
 refine ⟨v,fun w hC=>?_,hK _ h⟩
 unfold Oper.quietAt
 rw [hrun w]
 exact ⟨rfl,hcall w hC⟩
theorem ic {ops:Array Oper} {rest:List Oper} {op:Oper} {a:Act} {Q:Act→Prop} {C:World→Prop} {t:TypeId} {n b:Nat} {vs:List Value} (ht:mN t n) (hl:vs.length=n) (x:Operand) (ho:op.op=.load t x) (hx:a.eval x=.pointer (some ⟨b,0,none⟩)) (hw:Region.wanted op (yielded ops a.tmps)=true)
  (hC:∀ w,C w→au w b vs) (h:wpQuiet Tryz.prog ops C Q rest (a.put op.dst (.agg vs.toArray))):wpQuiet Tryz.prog ops C Q (op::rest) a:=by
 refine bD (.agg vs.toArray) hw (fun w hc=>?_) h
 unfold execOp
 have:=(hC w hc).mW ht hl
 simp only [ho,hx,Instr.loadAt,Instr.sureAddr,Sem.run_bind,Sem.run_pure,Result.andThen_ok,this]
theorem my {ops:Array Oper} {rest:List Oper} {op:Oper} {a:Act} {Q:Act→Prop} {C:World→Prop} {b:Nat} {p:List UInt8} (x:Operand) (ho:op.op=.load 87 x) (hx:a.eval x=.pointer (some ⟨b,0,none⟩)) (hw:Region.wanted op (yielded ops a.tmps)=true)
  (hC:∀ w,C w→aD w b p) (h:wpQuiet Tryz.prog ops C Q rest (a.put op.dst (an p))):wpQuiet Tryz.prog ops C Q (op::rest) a:=by
 refine bD (an p) hw (fun w hc=>?_) h
 unfold execOp
 have:=(hC w hc).mW
 simp only [ho,hx,Instr.loadAt,Instr.sureAddr,Sem.run_bind,Sem.run_pure,Result.andThen_ok,this]
end

section
open Dk (av aa)
open Go.RowKit
theorem Hs:mN 239 3:=⟨⟨_,Tryz.underlying239,rfl⟩,by kernel_rfl⟩
def Ht (d o n:Int):List Value:=[.int .i64 d,.int .i64 o,.int .i64 n]
theorem nj (d o n:Int):∀ v∈Ht d o n,v.oneCell'=true:=by
 intro v hv
 simp only [Ht,List.mem_cons,List.not_mem_nil,or_false] at hv
 rcases hv with rfl | rfl | rfl <;> rfl
def Kw (d o n:Int):Value:=.agg #[.int .i64 d,.int .i64 o,.int .i64 n]
theorem uP (c i:Int) (w:World):Calls Tryz.prog 223 #[.int .i64 c,.int .i64 i] w fun e w'=>e=.returned (.bool (decide (0≤i∧i<c)))∧w=w':=by
 go_enter Tryz.func223,Tryz.ntmps223
 by_cases c1:0≤i
 ·by_cases c2:i<c
  ·go_wp2
   go_ret
   exact ⟨bS (by simp [c1,c2]),rfl⟩
  ·go_wp2
   go_ret
   exact ⟨bS (by simp;omega),rfl⟩
 ·go_wp2
  go_ret
  exact ⟨bS (by simp;omega),rfl⟩
theorem uN (c i:Int) (w:World) (h0:0≤i) (h1:i<c):Calls Tryz.prog 223 #[.int .i64 c,.int .i64 i] w fun e w'=>e=.returned (.bool true)∧w=w':=by
 have:=uP c i w
 rwa [decide_eq_true ⟨h0,h1⟩] at this
theorem yr (c i:Int) (w:World) (h:¬ (0≤i∧i<c)):Calls Tryz.prog 223 #[.int .i64 c,.int .i64 i] w fun e w'=>e=.returned (.bool false)∧w=w':=by
 have:=uP c i w
 rwa [decide_eq_false h] at this
theorem qW (w:World) (t:TypeId) (d o n:Int):au (w.alloc (.cells #[.int .i64 d,.int .i64 o,.int .i64 n] t)) w.heap.size (Ht d o n):=bh w (Ht d o n) t
def cy (i:Int) (w:World):Prop:=Calls Tryz.prog 220 #[.int .i64 i] w fun e w'=>e=.returned (.tuple #[Kw (Sp.dep i) (Sp.out i) (Sp.inn i),.bool (Sp.okB i)])∧Below w.heap.size w w'
theorem EN (i:Int) (w:World) (h:i<0∨1060≤i):cy i w:=by
 unfold cy
 obtain ⟨e0,e1,e2,e3⟩:=Sp.lV h
 rw [e0,e1,e2,e3]
 clear e0 e1 e2 e3
 rcases h with h | h
 all_goals
  go_enter Tryz.func220,Tryz.ntmps220
  go_wp2
  exact bodyPost_ret (aL Hs _ 2 3 rfl _ (qW w _ 0 0 0) rfl rfl rfl) rfl ⟨rfl,(Below.refl _ _).alloc (Nat.le_refl _) _⟩
theorem Iv (i:Int) (w:World) (h0:0≤i) (h1:i<4):cy i w:=by
 unfold cy
 obtain ⟨e0,e1,e2,e3⟩:=Sp.vO h0 h1
 rw [e0,e1,e2,e3]
 clear e0 e1 e2 e3
 have h2:i<1060:=by omega
 go_enter Tryz.func220,Tryz.ntmps220
 go_wp2
 exact bodyPost_ret (aL Hs _ 2 3 rfl _ (qW w _ 0 0 i) rfl rfl rfl) rfl ⟨rfl,(Below.refl _ _).alloc (Nat.le_refl _) _⟩
theorem where_1 (i:Int) (w:World) (h0:4≤i) (h1:i<36):cy i w:=by
 unfold cy
 obtain ⟨e0,e1,e2,e3⟩:=Sp.vN h0 h1
 rw [e0,e1,e2,e3]
 clear e0 e1 e2 e3
 have h2:i<1060:=by omega
 go_enter Tryz.func220,Tryz.ntmps220
 go_wp2
 exact bodyPost_ret (aL Hs _ 2 3 rfl _ (qW w _ 1 0 (i - 4)) rfl rfl rfl) rfl ⟨rfl,(Below.refl _ _).alloc (Nat.le_refl _) _⟩
theorem Iu (i:Int) (w:World) (h0:36≤i) (h1:i<1060):cy i w:=by
 unfold cy
 obtain ⟨e0,e1,e2,e3⟩:=Sp.vM h0 h1
 rw [e0,e1,e2,e3]
 clear e0 e1 e2 e3
 go_enter Tryz.func220,Tryz.ntmps220
 go_wp2
 exact bodyPost_ret (aL Hs _ 2 3 rfl _ (qW w _ 2 ((i - 36) / 32) ((i - 36) % 32)) rfl rfl rfl) rfl ⟨rfl,(Below.refl _ _).alloc (Nat.le_refl _) _⟩
theorem kH (i:Int) (w:World):cy i w:=by
 rcases Sp.kinds i with c | ⟨c1,c2⟩ | ⟨c1,c2⟩ | ⟨c1,c2⟩
 ·exact EN i w c
 ·exact Iv i w c1 c2
 ·exact where_1 i w c1 c2
 ·exact Iu i w c1 c2
end

section
open Go.RowKit
structure fk (w:World) (A:Option Addr) (n:Nat) (xs:List Int):Prop where
 len:xs.length=n
 small:n≤maxLen
 cells:0<n→∃ b off,A=some ⟨b,off,none⟩∧b<w.heap.size∧∀ i x,xs[i]?=some x→w.cell? ⟨b,off+i,none⟩=some (.int .i64 x)
theorem fk.step {w w':World} {A:Option Addr} {n:Nat} {xs:List Int} (h:fk w A n xs) (hb:Below w.heap.size w w'):fk w' A n xs where
 len:=h.len
 small:=h.small
 cells:=fun h0=>by
  obtain ⟨b,off,rfl,hlt,hc⟩:=h.cells h0
  exact ⟨b,off,rfl,Nat.lt_of_lt_of_le hlt hb.size,fun i x hx=>(hb.cell (p:=⟨b,off+i,none⟩) hlt).trans (hc i x hx)⟩
end

namespace Pl
def aS (i:Int):Int:=43+(i+1) / 2
def aA (p i:Int):Bool:=decide (1≤i∧i≤128∧p≤512∧aS i<p)
theorem aW {p i:Int} (h:aA p i=true):1≤i∧i≤128∧p≤512∧aS i<p:=of_decide_eq_true h
theorem xu {p i:Int} (h:aA p i=false):i<1∨128<i∨512<p∨p≤aS i:=by have:=of_decide_eq_false h;omega
theorem oo {p i:Int} (h:i<1∨128<i∨512<p∨p≤aS i):aA p i=false:=by
 unfold aA;rw [decide_eq_false_iff_not];omega
theorem dZ {i:Int} (h1:1≤i) (h2:i≤128):44≤aS i∧aS i≤107:=by unfold aS;omega
def tP:List UInt8:=[78,82,84,88]
def kG:List UInt8:=List.replicate 64 0
def bP (p i:Int):List UInt8:=Pg.eV (Pg.eV (Pg.br kG 0 tP) 4 2 p) 6 2 i
theorem kt:(Pg.br kG 0 tP).length=64:=Pg.fT _ _ _ (by simp [kG])
theorem lW (p:Int):(Pg.eV (Pg.br kG 0 tP) 4 2 p).length=64:=Pg.aP _ _ _ _ kt
theorem dF (p i:Int):(bP p i).length=64:=Pg.aP _ _ _ _ (lW p)
theorem Bj (p i:Int) (h1:0≤p) (h2:p<65536) (h3:0≤i) (h4:i<65536):Pg.ba (bP p i) 4 2=p∧Pg.ba (bP p i) 6 2=i:=by
 have e1:((bP p i).drop 4).take 2=Pg.aX 2 p:=by rfl
 have e2:((bP p i).drop 6).take 2=Pg.aX 2 i:=by rfl
 have n1:Pg.gN 4 2=true:=by decide
 have n2:Pg.gN 6 2=true:=by decide
 unfold Pg.ba
 rw [if_pos n1,if_pos n2]
 have f1:((bP p i).drop (4:Int).toNat).take (2:Int).toNat=Pg.aX 2 p:=e1
 have f2:((bP p i).drop (6:Int).toNat).take (2:Int).toNat=Pg.aX 2 i:=e2
 rw [f1,f2,Pg.cQ,Pg.cQ]
 constructor
 ·exact Int.emod_eq_of_lt h1 (by omega)
 ·exact Int.emod_eq_of_lt h3 (by omega)
theorem JC (x:List UInt8) (hx:x.length=64) (a:Nat) (ha:a≤62):Pg.ba x a 2=((x.getD a 0).toNat:Int)*256+((x.getD (a+1) 0).toNat:Int):=by
 unfold Pg.ba
 rw [if_pos (Pg.ke (by omega) (by omega) (by omega) (by omega))]
 have e:(x.drop (a:Int).toNat).take (2:Int).toNat=[x.getD a 0,x.getD (a+1) 0]:=by
  rw [Int.toNat_natCast,show (2:Int).toNat=2 from rfl]
  rw [List.drop_eq_getElem_cons (show a<x.length by omega),List.drop_eq_getElem_cons (show a+1<x.length by omega)]
  rw [List.take_succ_cons,List.take_succ_cons,List.take_zero,List.getD_eq_getElem?_getD,List.getD_eq_getElem?_getD,List.getElem?_eq_getElem (show a<x.length by omega),List.getElem?_eq_getElem (show a+1<x.length by omega)]
  rfl
 rw [e]
 simp [Pg.numOf]
def BQ (x:List UInt8):Bool:=aA (Pg.ba x 4 2) (Pg.ba x 6 2) && decide (bP (Pg.ba x 4 2) (Pg.ba x 6 2)=x)
theorem zj (p i:Int) (h:aA p i=true):BQ (bP p i)=true∧Pg.ba (bP p i) 4 2=p∧Pg.ba (bP p i) 6 2=i:=by
 obtain ⟨h1,h2,h3,h4⟩:=aW h
 have hd:=dZ h1 h2
 obtain ⟨e1,e2⟩:=Bj p i (by omega) (by omega) (by omega) (by omega)
 refine ⟨?_,e1,e2⟩
 unfold BQ
 rw [e1,e2,h]
 simp
theorem Dx (x:List UInt8) (a:Nat) (hx:x.length=64) (ha:a≤62):0≤Pg.ba x a 2∧Pg.ba x a 2<65536:=by
 rw [JC x hx a ha]
 have:=(x.getD a 0).toNat_lt
 have:=(x.getD (a+1) 0).toNat_lt
 omega
end Pl

namespace Ii
structure Ino where
 k:Int
 p:Int
 u:Int
 l:Int
 s:Int
 a:Int
 b:Int
 c:Int
 d:Int
 e:Int
 f:Int
def zero:Ino:=⟨0,0,0,0,0,0,0,0,0,0,0⟩
def Ino.dir (x:Ino):Nat→Int
 | 0=>x.a
 | 1=>x.b
 | 2=>x.c
 | _=>x.d
def z32:List UInt8:=List.replicate 32 0
theorem pV:z32.length=32:=rfl
theorem jl (p:List UInt8) (a:Nat) (s:List UInt8) (j:Nat) (t:List UInt8) (h:a+s.length≤p.length) (hj:j+t.length≤s.length):
  Pg.over (Pg.over p a s) (a+j) t=Pg.over p a (Pg.over s j t):=by
 apply List.ext_getElem?
 intro i
 have hl:=Pg.bj p a s h
 have hs:=Pg.bj s j t hj
 rw [Pg.eF _ _ _ _ (by omega),Pg.eF _ _ _ _ h,Pg.eF _ _ _ _ (by omega),hs]
 by_cases h1:i<a
 ·rw [if_pos (by omega),if_pos h1,if_pos h1]
 ·rw [if_neg h1,if_neg h1]
  obtain ⟨m,rfl⟩:∃ m,i=a+m:=⟨i - a,by omega⟩
  rw [show a+m - a=m by omega,show a+m - (a+j)=m - j by omega,Pg.eF _ _ _ _ hj]
  by_cases h2:m<j
  ·rw [if_pos (by omega),if_pos (by omega),if_pos (by omega),if_pos h2]
  ·rw [if_neg (by omega),if_neg h2]
   by_cases h3:m<j+t.length
   ·rw [if_pos (by omega),if_pos (by omega),if_pos h3]
   ·rw [if_neg (by omega),if_neg h3]
theorem zH (p:List UInt8) (a:Nat) (s:List UInt8) (j n:Nat) (h:a+s.length≤p.length) (hj:j+n≤a∨a+s.length≤j):((Pg.over p a s).drop j).take n=(p.drop j).take n:=by
 apply List.ext_getElem?
 intro i
 rw [List.getElem?_take,List.getElem?_take,List.getElem?_drop,List.getElem?_drop]
 by_cases h1:i<n
 ·rw [if_pos h1,if_pos h1,Pg.eF _ _ _ _ h]
  rcases hj with hj | hj
  ·rw [if_pos (by omega)]
  ·rw [if_neg (by omega),if_neg (by omega)]
 ·rw [if_neg h1,if_neg h1]
theorem Cg (p:List UInt8) (a m j n:Nat) (h:j+n≤m):(((p.drop a).take m).drop j).take n=(p.drop (a+j)).take n:=by
 apply List.ext_getElem?
 intro i
 rw [List.getElem?_take,List.getElem?_take,List.getElem?_drop,List.getElem?_drop,List.getElem?_take,List.getElem?_drop]
 by_cases h1:i<n
 ·rw [if_pos h1,if_pos h1,if_pos (by omega),Nat.add_assoc]
 ·rw [if_neg h1,if_neg h1]
def half (x:Ino):List UInt8:=Pg.aX 1 x.k++(0::(Pg.aX 2 x.p++(Pg.aX 2 x.u++(Pg.aX 2 x.l++(Pg.aX 4 x.s++(Pg.aX 2 x.a++(Pg.aX 2 x.b++(Pg.aX 2 x.c++(Pg.aX 2 x.d++(Pg.aX 2 x.e++(Pg.aX 2 x.f++List.replicate 8 0)))))))))))
theorem pd (x:Ino):(half x).length=32:=rfl
def JA (p:List UInt8) (A:Int) (x:Ino):List UInt8:=Pg.eV (Pg.eV (Pg.eV (Pg.eV (Pg.eV (Pg.over p A.toNat z32) A 1 x.k) (A+2) 2 x.p) (A+4) 2 x.u) (A+6) 2 x.l) (A+8) 4 x.s
def JQ (p:List UInt8) (A:Int) (x:Ino):Nat→List UInt8
 | 0=>JA p A x
 | j+1=>Pg.eV (JQ p A x j) (A+12+2*(j:Int)) 2 (x.dir j)
def uW (p:List UInt8) (A:Int) (x:Ino):List UInt8:=Pg.eV (Pg.eV (JQ p A x 4) (A+20) 2 x.e) (A+22) 2 x.f
theorem Fm (p:List UInt8) (A:Nat) (s:List UInt8) (j n:Nat) (v:Int) (hp:p.length=64) (hA:A+32≤64) (hs:s.length=32) (h1:1≤n) (h2:n≤4) (h3:j+n≤32):
  Pg.eV (Pg.over p A s) ((A:Int)+(j:Int)) (n:Int) v=Pg.over p A (Pg.over s j (Pg.aX n v)):=by
 unfold Pg.eV
 rw [if_pos (Pg.ke (by omega) (by omega) (by omega) (by omega))]
 rw [show ((A:Int)+(j:Int)).toNat=A+j by omega,show (n:Int).toNat=n by omega]
 exact jl p A s j _ (by omega) (by rw [Pg.aT];omega)
theorem mV (s:List UInt8) (j n:Nat) (v:Int) (hs:s.length=32) (h:j+n≤32):(Pg.over s j (Pg.aX n v)).length=32:=by
 rw [Pg.bj _ _ _ (by rw [Pg.aT];omega),hs]
theorem dG {p q s:List UInt8} {A:Nat} (hp:p.length=64) (hA:A+32≤64) (h:q=Pg.over p A s∧s.length=32) (j n:Nat) (v:Int) (h1:1≤n) (h2:n≤4) (h3:j+n≤32):
  Pg.eV q ((A:Int)+(j:Int)) (n:Int) v=Pg.over p A (Pg.over s j (Pg.aX n v))∧(Pg.over s j (Pg.aX n v)).length=32:=by
 obtain ⟨rfl,hs⟩:=h
 exact ⟨Fm p A s j n v hp hA hs h1 h2 h3,mV s j n v hs h3⟩
theorem Jc (p:List UInt8) (A:Nat) (x:Ino) (hp:p.length=64) (hA:A+32≤64):uW p (A:Int) x=Pg.over p A (half x):=by
 have e0:Pg.over p (A:Int).toNat z32=Pg.over p A z32∧z32.length=32:=⟨rfl,rfl⟩
 have e1:=dG hp hA e0 0 1 x.k (by omega) (by omega) (by omega)
 have e2:=dG hp hA e1 2 2 x.p (by omega) (by omega) (by omega)
 have e3:=dG hp hA e2 4 2 x.u (by omega) (by omega) (by omega)
 have e4:=dG hp hA e3 6 2 x.l (by omega) (by omega) (by omega)
 have e5:=dG hp hA e4 8 4 x.s (by omega) (by omega) (by omega)
 have e6:=dG hp hA e5 12 2 x.a (by omega) (by omega) (by omega)
 have e7:=dG hp hA e6 14 2 x.b (by omega) (by omega) (by omega)
 have e8:=dG hp hA e7 16 2 x.c (by omega) (by omega) (by omega)
 have e9:=dG hp hA e8 18 2 x.d (by omega) (by omega) (by omega)
 have e10:=dG hp hA e9 20 2 x.e (by omega) (by omega) (by omega)
 have e11:=dG hp hA e10 22 2 x.f (by omega) (by omega) (by omega)
 exact e11.1
theorem ug (p:List UInt8) (A:Int) (x:Ino) (hp:p.length=64) (hA:A.toNat+32≤64):(JA p A x).length=64:=by
 unfold JA
 refine Pg.aP _ _ _ _ (Pg.aP _ _ _ _ (Pg.aP _ _ _ _ (Pg.aP _ _ _ _ (Pg.aP _ _ _ _ ?_))))
 rw [Pg.bj _ _ _ (by rw [pV];omega),hp]
theorem wF (p:List UInt8) (A:Int) (x:Ino) (hp:p.length=64) (hA:A.toNat+32≤64) (j:Nat):(JQ p A x j).length=64:=by
 induction j with
 | zero=>exact ug p A x hp hA
 | succ j ih=>exact Pg.aP _ _ _ _ ih
theorem fV (p:List UInt8) (A:Int) (x:Ino) (hp:p.length=64) (hA:A.toNat+32≤64):(uW p A x).length=64:=
 Pg.aP _ _ _ _ (Pg.aP _ _ _ _ (wF p A x hp hA 4))
def sB (p:List UInt8) (A:Int):Ino:=
 ⟨Pg.ba p A 1,Pg.ba p (A+2) 2,Pg.ba p (A+4) 2,Pg.ba p (A+6) 2,Pg.ba p (A+8) 4,Pg.ba p (A+12) 2,Pg.ba p (A+14) 2,Pg.ba p (A+16) 2,Pg.ba p (A+18) 2,Pg.ba p (A+20) 2,Pg.ba p (A+22) 2⟩
def cE (h:List UInt8):Ino:=
 ⟨Pg.numOf ((h.drop 0).take 1),Pg.numOf ((h.drop 2).take 2),Pg.numOf ((h.drop 4).take 2),Pg.numOf ((h.drop 6).take 2),Pg.numOf ((h.drop 8).take 4),Pg.numOf ((h.drop 12).take 2),Pg.numOf ((h.drop 14).take 2),Pg.numOf ((h.drop 16).take 2),Pg.numOf ((h.drop 18).take 2),Pg.numOf ((h.drop 20).take 2),Pg.numOf ((h.drop 22).take 2)⟩
theorem Gs (p:List UInt8) (A j n:Nat) (hA:A+32≤64) (h1:1≤n) (h2:n≤4) (h3:j+n≤32):Pg.ba p ((A:Int)+(j:Int)) (n:Int)=Pg.numOf ((((p.drop A).take 32).drop j).take n):=by
 unfold Pg.ba
 rw [if_pos (Pg.ke (by omega) (by omega) (by omega) (by omega)),Cg _ _ _ _ _ h3]
 rw [show ((A:Int)+(j:Int)).toNat=A+j by omega,show (n:Int).toNat=n by omega]
theorem Dz (p:List UInt8) (A:Nat) (hA:A+32≤64):sB p (A:Int)=cE ((p.drop A).take 32):=by
 have g:=fun j n h1 h2 h3=>Gs p A j n hA h1 h2 h3
 have g0:Pg.ba p (A:Int) 1=_:=g 0 1 (by omega) (by omega) (by omega)
 have g1:Pg.ba p ((A:Int)+2) 2=_:=g 2 2 (by omega) (by omega) (by omega)
 have g2:Pg.ba p ((A:Int)+4) 2=_:=g 4 2 (by omega) (by omega) (by omega)
 have g3:Pg.ba p ((A:Int)+6) 2=_:=g 6 2 (by omega) (by omega) (by omega)
 have g4:Pg.ba p ((A:Int)+8) 4=_:=g 8 4 (by omega) (by omega) (by omega)
 have g5:Pg.ba p ((A:Int)+12) 2=_:=g 12 2 (by omega) (by omega) (by omega)
 have g6:Pg.ba p ((A:Int)+14) 2=_:=g 14 2 (by omega) (by omega) (by omega)
 have g7:Pg.ba p ((A:Int)+16) 2=_:=g 16 2 (by omega) (by omega) (by omega)
 have g8:Pg.ba p ((A:Int)+18) 2=_:=g 18 2 (by omega) (by omega) (by omega)
 have g9:Pg.ba p ((A:Int)+20) 2=_:=g 20 2 (by omega) (by omega) (by omega)
 have g10:Pg.ba p ((A:Int)+22) 2=_:=g 22 2 (by omega) (by omega) (by omega)
 unfold sB cE
 rw [g0,g1,g2,g3,g4,g5,g6,g7,g8,g9,g10]
theorem uh (p:List UInt8) (A B:Nat) (x:Ino) (hp:p.length=64) (hA:A+32≤64) (hB:B+32≤64) (hd:B+32≤A∨A+32≤B):sB (uW p (A:Int) x) (B:Int)=sB p (B:Int):=by
 rw [Jc p A x hp hA,Dz _ _ hB,Dz _ _ hB,zH p A (half x) B 32 (by rw [pd];omega) (by rw [pd];omega)]
def gN (p i n:Int):Bool:=decide (n=0∨(Pl.aS i≤n∧n<p))
def JZ (x:Ino):Bool:=decide (0≤x.p∧x.p≤511∧0≤x.u∧x.u≤65535∧0≤x.l∧x.l≤40∧0≤x.s∧x.s≤67840)
def rN (p i:Int) (x:Ino):Bool:=gN p i x.a && gN p i x.b && gN p i x.c && gN p i x.d && gN p i x.e && gN p i x.f
def iZ (x:Ino):Bool:=decide (x.k=0∧x.p=0∧x.u=0∧x.l=0∧x.s=0∧x.a=0∧x.b=0∧x.c=0∧x.d=0∧x.e=0∧x.f=0)
def inB (p i:Int) (x:Ino):Bool:=if x.k=0 then iZ x else decide (1≤x.k∧x.k≤3) && (JZ x && rN p i x)
def kd (p i:Int) (x:Ino):Bool:=Pl.aA p i && inB p i x
end Ii

section
open Dk (av aa)
open Go.RowKit
theorem fc:mN 132 2:=⟨⟨_,Tryz.underlying132,rfl⟩,by kernel_rfl⟩
def bc (p i:Int):List Value:=[.int .i64 p,.int .i64 i]
theorem la (p i:Int):∀ v∈bc p i,v.oneCell'=true:=by
 intro v hv
 simp only [bc,List.mem_cons,List.not_mem_nil,or_false] at hv
 rcases hv with rfl | rfl <;> rfl
def bz (p i:Int):Value:=.agg #[.int .i64 p,.int .i64 i]
theorem fK (i:Int) (w:World) (h1:0≤i) (h2:i≤1000):
  Calls Tryz.prog 163 #[.int .i64 i] w fun e w'=>e=.returned (.int .i64 (Pl.aS i))∧w=w':=by
 go_enter Tryz.func163,Tryz.ntmps163
 go_wp2
 go_ret
 exact ⟨iy (by unfold Pl.aS;omega),rfl⟩
theorem fg (N:Nat) (w:World) (m:Nat):Below N w (w.drewN m):=⟨rfl,rfl,rfl,Nat.le_refl _,fun _ _=>rfl⟩
theorem zR (p i:Int) (w:World):
  Calls Tryz.prog 162 #[bz p i] w fun e w'=>e=.returned (.bool (Pl.aA p i))∧Below w.heap.size w w':=by
 have hb:Below w.heap.size w (w.alloc (.cells #[.int .i64 p,.int .i64 i] 132)):=(Below.refl _ _).alloc (Nat.le_refl _) _
 have HB:=Lib.hid hb;clear hb
 unfold bz
 by_cases c1:1≤i
 ·have d1:decide (1≤i)=true:=decide_eq_true c1
  by_cases c2:i≤128
  ·have d2:decide (i≤128)=true:=decide_eq_true c2
   by_cases c3:p≤512
   ·have d3:decide (p≤512)=true:=decide_eq_true c3
    have HC:=Lib.hid (fun w=>fK i w (by omega) (by omega))
    have HR:Hid (Pl.aA p i=decide (Pl.aS i<p)):=Lib.hid (by
     unfold Pl.aA;rw [decide_eq_decide];exact ⟨fun h=>h.2.2.2,fun h=>⟨c1,c2,c3,h⟩⟩)
    rw [HR.out]
    clear c1 c2 c3
    go_enter Tryz.func162,Tryz.ntmps162
    go_wp2
    go_quiet ((go_at_call 163;refine Calls.quiet_of_same ((HC.out _).mono fun e w' h=>⟨h.1,h.2.symm⟩)))
    go_wp2
    go_ret
    exact ⟨rfl,HB.out.trans (fg _ _ _)⟩
   ·have HR:=Lib.hid (Pl.oo (p:=p) (i:=i) (by omega))
    have d3:decide (p≤512)=false:=decide_eq_false c3
    rw [HR.out]
    go_enter Tryz.func162,Tryz.ntmps162
    go_wp2
    go_quiet (fail)
    go_wp2
    go_ret
    exact ⟨rfl,HB.out.trans (fg _ _ _)⟩
  ·have HR:=Lib.hid (Pl.oo (p:=p) (i:=i) (by omega))
   have d2:decide (i≤128)=false:=decide_eq_false c2
   rw [HR.out]
   go_enter Tryz.func162,Tryz.ntmps162
   go_wp2
   go_quiet (fail)
   go_wp2
   go_ret
   exact ⟨rfl,HB.out.trans (fg _ _ _)⟩
 ·have HR:=Lib.hid (Pl.oo (p:=p) (i:=i) (by omega))
  have d1:decide (1≤i)=false:=decide_eq_false c1
  rw [HR.out]
  go_enter Tryz.func162,Tryz.ntmps162
  go_wp2
  go_quiet (fail)
  go_wp2
  go_ret
  exact ⟨rfl,HB.out.trans (fg _ _ _)⟩
theorem eh (p i:Int) (b:Bool) (w:World) (h:Pl.aA p i=b):
  Calls Tryz.prog 162 #[bz p i] w fun e w'=>e=.returned (.bool b)∧Below w.heap.size w w':=h ▸ zR p i w
theorem dD (w:World) (p i:Int) {w':World} (hb:Below (w.heap.size+1) (w.alloc (.cells #[.int .i64 p,.int .i64 i] 132)) w'):
  au w' w.heap.size (bc p i)∧Below w.heap.size w w'∧w.heap.size<w'.heap.size:=by
 have h:=bh w (bc p i) 132
 have hs:=hb.size
 simp at hs
 exact ⟨h.below hb (by omega),((Below.refl _ _).alloc (Nat.le_refl _) _).trans (hb.mono (by omega)),by omega⟩
theorem kx (p i at1:Int) (w:World):
  Calls Tryz.prog 158 #[bz p i,.int .i64 at1] w fun e w'=>e=.returned (.int .i64 (if Pl.aA p i=true then at1 else 0))∧Below w.heap.size w w':=by
 cases h:Pl.aA p i
 all_goals
  unfold bz
  go_enter Tryz.func158,Tryz.ntmps158
  go_wp2_with (go_at_call 162;refine (eh p i _ _ h).mono ?_;rintro e w' ⟨rfl,hb⟩)
  go_ret
  exact ⟨rfl,(dD w p i (by simpa using hb)).2.1⟩
end
end Go.Proofs.YtagfoogfpabdfaaGreat
