/- Texts of the proof. -/
import Derived.Test.YtagfoogfpabdfaaGreatTaj
import Derived.Test.YtagfoogfpabdfaaGreatTaa
import Derived.Test.YtagfoogfpabdfaaGreatTaf
import Derived.Deep.Slices
import Derived.Deep.AppendLies
import Derived.Laws.OwnMore
import Derived.Laws.AppendOwnNone
import Derived.ProofKit
import Derived.OpenShut
import Derived.ChangeOld
import Derived.BigQuiet
import Derived.BigRegion
import Derived.Lib.SliceRun
import Derived.Test.YtagfoogfpabdfaaGreatTac
import Derived.Test.YtagfoogfpabdfaaGreatTai
set_option maxRecDepth 100000
set_option maxHeartbeats 16000000
namespace Go.Proofs.YtagfoogfpabdfaaGreat
section
open Go.RowKit Go.Maps
open Dk (av aa)
open Ii (Ino)
theorem Jb (w:World) {p:List UInt8}:Lo [] w [(w.heap.size,ab p)] (w.alloc (.cells (ab p).toArray 87)):=
 (Lo.start w (by simp)).alloc _ rfl (ab p) _
def hG (w:World) (b:Blk) (s s':Sto) (p:List UInt8) (k:Bool) (W:World):Prop:=Lo [b.t] w [(w.heap.size,ab p)] W∧ay W b (if k=true then s' else s)
theorem hG.cell {w W:World} {B:Nat} {b:Blk} {s s' s'':Sto} {p:List UInt8} {k:Bool} {n I:Int} (h:hG w b s s' p k W) (c:Ctx w B b s'' n I):W.cell? ⟨B,0,none⟩=some (.pointer (some ⟨b.s,0,none⟩)):=
 (c.step.block (h.1.only.block B c.lt (by simp;exact fun q=>c.nb (q ▸ b.dX)))).cell 0 _ rfl
theorem fR {w:World} {B:Nat} {b:Blk} {s:Sto} {n I:Int} (h:Ctx w B b s n I) (at1:Int) (p:List UInt8) (ha:okP n at1) (hp:p.length=64):Calls Tryz.prog 121 #[.pointer (some ⟨B,0,none⟩),.int .i64 at1,an p] w (Ends B b n I [] w s (Fs.wr at1.toNat p) fun _ e _=>e=.returned (.tuple #[])):=by
 refine aQ fun R H=>?_
 have S0:=Lib.hid (Jb w (p:=p))
 have HL:=Lib.hid hp
 have HC:Hid (∀ s1 s2 k W,hG w b s1 s2 p k W→W.cell? ⟨B,0,none⟩=some (.pointer (some ⟨b.s,0,none⟩))):=Lib.hid (fun s1 s2 k W hS=>hS.cell h)
 have HT:=Lib.hid (h.store.lt _ b.dX)
 rcases h.vs.put (p:=p) ha hp with ⟨e1,e2,e3,e4⟩ | ⟨e1,e2,e3⟩
 ·have HP:Hid (∀ W,hG w b s (tc s at1 p) p false W→Calls Tryz.prog 178 #[.pointer (some ⟨b.s,0,none⟩),.int .i64 at1,an p] W fun e w'=>e=.returned (.int .i64 0)∧hG w b s (tc s at1 p) p true w'):=Lib.hid (fun W hS=>by
   have:=xm (show ay W b s from hS.2) at1 p hp
   rw [e1] at this
   exact this.mono (fun e w' hh=>⟨hh.1,hS.1.call hh.2.2 (fun k hk=>hk),hh.2.1⟩))
  have HE:Hid (∀ W,hG w b s (tc s at1 p) p true W→R (.returned (.tuple #[])) W):=Lib.hid (fun W hS=>H.out _ _ (by
   refine Or.inl ⟨(),_,_,?_,e3,⟨h.step.block (hS.1.only.block B h.lt (by simp;exact fun q=>h.nb (q ▸ b.dX))),hS.2,e4,h.nb⟩,rfl,hS.1.only⟩
   rw [e2];rfl))
  have hst:=Lib.hid h.store
  clear h ha e1 e2 e3 e4 H
  go_enter Tryz.func121,Tryz.ntmps121
  go_wp2_with fail
  rename_i cs hcs
  obtain rfl:cs=(ab p).toArray:=by unfold an at hcs;injection hcs with hcs;exact hcs.symm
  clear hcs
  generalize hw:World.alloc _ _=w1
  have S:Hid (hG w b s (tc s at1 p) p false w1):=Lib.hid ⟨by
   rw [← hw]
   have:=S0.out
   exact ⟨this.row,this.ne,this.only.mono (by simp),by simpa using HT.out⟩,by rw [if_neg (by decide),← hw];exact hst.out.alloc _⟩
  clear hw S0 hst
  generalize tc s at1 p=s2 at HP HE S
  refine aO (hG w b s s2 p) (fun _ _=>False) (fun i=>i == 8) (fun i=>[.pointer (some ⟨B,0,none⟩),.pointer (some ⟨B,0,none⟩),.pointer (some ⟨B,0,none⟩),.pointer (some ⟨B,0,none⟩),.pointer (some ⟨B,0,none⟩),.pointer (some ⟨b.s,0,none⟩),.int .i64 at1,an p,.int .i64 0,.tuple #[]].getD i undef) false (by kernel_rfl) (by kernel_rfl) (fun _ _ _ _ h=>h.elim) ⟨S.out.1.drew,S.out.2.drew⟩ ?_
  refine ag (i:=0) (d:=some 6) (v:=(.pointer (some ⟨B,0,none⟩))) rfl rfl (by kernel_rfl) (by kernel_rfl) rfl rfl (ae (by kernel_rfl) ?_) ?_
  ·((intro _ _ _;go_simp) <;> kernel_rfl)
  try simp only [Act.put,puA,puB,puC]
  refine ag (i:=1) (d:=some 7) (v:=(.pointer (some ⟨B,0,none⟩))) rfl rfl (by kernel_rfl) (by kernel_rfl) rfl rfl (ae (by kernel_rfl) ?_) ?_
  ·((intro _ _ _;go_simp) <;> kernel_rfl)
  try simp only [Act.put,puA,puB,puC]
  refine ag (i:=2) (d:=some 8) (v:=(.pointer (some ⟨B,0,none⟩))) rfl rfl (by kernel_rfl) (by kernel_rfl) rfl rfl (ae (by kernel_rfl) ?_) ?_
  ·((intro _ _ _;go_simp) <;> kernel_rfl)
  try simp only [Act.put,puA,puB,puC]
  refine ag (i:=3) (d:=some 9) (v:=(.pointer (some ⟨B,0,none⟩))) rfl rfl (by kernel_rfl) (by kernel_rfl) rfl rfl (ae (by kernel_rfl) ?_) ?_
  ·((intro _ _ _;go_simp) <;> kernel_rfl)
  try simp only [Act.put,puA,puB,puC]
  refine ag (i:=4) (d:=some 10) (v:=(.pointer (some ⟨B,0,none⟩))) rfl rfl (by kernel_rfl) (by kernel_rfl) rfl rfl (ae (by kernel_rfl) ?_) ?_
  ·((intro _ _ _;go_simp) <;> kernel_rfl)
  try simp only [Act.put,puA,puB,puC]
  refine ag (i:=5) (d:=some 11) (v:=(.pointer (some ⟨b.s,0,none⟩))) rfl rfl (by kernel_rfl) (by kernel_rfl) rfl rfl (ae (by kernel_rfl) ?_) ?_
  ·(intro sZ wZ hZ;have cZ:=(fun k W hS=>HC.out s s2 k W hS) sZ wZ hZ;go_simp)
  try simp only [Act.put,puA,puB,puC]
  refine ag (i:=6) (d:=some 12) (v:=(.int .i64 at1)) rfl rfl (by kernel_rfl) (by kernel_rfl) rfl rfl (ae (by kernel_rfl) ?_) ?_
  ·((intro _ _ _;go_simp) <;> kernel_rfl)
  try simp only [Act.put,puA,puB,puC]
  refine ag (i:=7) (d:=some 13) (v:=(an p)) rfl rfl (by kernel_rfl) (by kernel_rfl) rfl rfl (bf (by kernel_rfl) (.tmp 5) rfl rfl (fun k W hS=>hS.1.aK 0 rfl HL.out)) ?_
  try simp only [Act.put,puA,puB,puC]
  refine bw (i:=8) (d:=some 14) (fun u k=>u=.int .i64 0∧k=true) rfl rfl (by kernel_rfl) (by kernel_rfl) rfl (by kernel_rfl) ⟨_,_,rfl,rfl⟩ (by kernel_rfl) (bm (f:=178) (args:=#[.pointer (some ⟨b.s,0,none⟩),.int .i64 at1,an p]) ?_ (fun W hS=>(HP.out W hS).mono fun e w' hh=>Or.inl ⟨_,hh.1,true,⟨rfl,rfl⟩,hh.2⟩)) ?_
  ·(intro _;go_simp)
  rintro _ _ ⟨rfl,rfl⟩
  try simp only [Act.put,puA,puB,puC]
  refine ag (i:=9) (d:=some 15) (v:=(.tuple #[])) rfl rfl (by kernel_rfl) (by kernel_rfl) rfl rfl (aR (f:=133) (args:=#[.pointer (some ⟨B,0,none⟩),.int .i64 0]) (by kernel_rfl) ?_ (fun k W hS=>(js B).mono fun e w' hh=>⟨hh.1,hh.2 ▸ hS⟩)) ?_
  ·(intro _;go_simp)
  try simp only [Act.put,puA,puB,puC]
  refine cH (by kernel_rfl) fun W hS=>?_
  go_wp2
  go_end0
  exact HE.out _ hS
 ·have HP:Hid (∀ W,hG w b s s p false W→Calls Tryz.prog 178 #[.pointer (some ⟨b.s,0,none⟩),.int .i64 at1,an p] W fun e w'=>e=.returned (.int .i64 28)∧hG w b s s p true w'):=Lib.hid (fun W hS=>by
   have:=xm (show ay W b s from hS.2) at1 p hp
   rw [e1,e2] at this
   exact this.mono (fun e w' hh=>⟨hh.1,hS.1.call hh.2.2 (fun k hk=>hk),hh.2.1⟩))
  have HE:Hid (∀ W,hG w b s s p true W→Calls Tryz.prog 133 #[.pointer (some ⟨B,0,none⟩),.int .i64 28] W fun e w'=>e=.panicked [bn B]∧R (.panicked [bn B]) w'):=Lib.hid (fun W hS=>by
   have C:Ctx W B b s n I:=⟨h.step.block (hS.1.only.block B h.lt (by simp;exact fun q=>h.nb (q ▸ b.dX))),hS.2,h.vs,h.nb⟩
   refine (oP C 28 (by decide)).mono fun e w' hh=>⟨hh.1,H.out _ _ (Or.inr ⟨28,Or.inr ⟨rfl,e3⟩,by decide,hh.2.1,rfl,?_⟩)⟩
   exact (hS.1.only.mono (fun k hk=>by simp at hk ⊢;exact Or.inr hk)).via hh.2.2 (fun i hi=>Or.inl (by simp at hi ⊢;exact Or.inl hi)))
  have hst:=Lib.hid h.store
  clear h ha e1 e2 e3 H
  go_enter Tryz.func121,Tryz.ntmps121
  go_wp2_with fail
  rename_i cs hcs
  obtain rfl:cs=(ab p).toArray:=by unfold an at hcs;injection hcs with hcs;exact hcs.symm
  clear hcs
  generalize hw:World.alloc _ _=w1
  have S:Hid (hG w b s s p false w1):=Lib.hid ⟨by
   rw [← hw]
   have:=S0.out
   exact ⟨this.row,this.ne,this.only.mono (by simp),by simpa using HT.out⟩,by rw [if_neg (by decide),← hw];exact hst.out.alloc _⟩
  clear hw S0 hst
  refine aO (SO (hG w b s s p)) (fun ch W=>ch=[bn B]∧R (.panicked [bn B]) W) (fun i=>i == 8 || i == 9) (fun i=>[.pointer (some ⟨B,0,none⟩),.pointer (some ⟨B,0,none⟩),.pointer (some ⟨B,0,none⟩),.pointer (some ⟨B,0,none⟩),.pointer (some ⟨B,0,none⟩),.pointer (some ⟨b.s,0,none⟩),.int .i64 at1,an p].getD i undef) (some false) (by kernel_rfl) (by kernel_rfl) (fun ch a' W hd hh=>?_) ⟨S.out.1.drew,S.out.2.drew⟩ ?_
  ·exact ⟨hd,by obtain ⟨rfl,hR⟩:=hh;exact hR⟩
  refine ag (i:=0) (d:=some 6) (v:=(.pointer (some ⟨B,0,none⟩))) rfl rfl (by kernel_rfl) (by kernel_rfl) rfl rfl (ae (by kernel_rfl) ?_) ?_
  ·((intro _ _ _;go_simp) <;> kernel_rfl)
  try simp only [Act.put,puA,puB,puC]
  refine ag (i:=1) (d:=some 7) (v:=(.pointer (some ⟨B,0,none⟩))) rfl rfl (by kernel_rfl) (by kernel_rfl) rfl rfl (ae (by kernel_rfl) ?_) ?_
  ·((intro _ _ _;go_simp) <;> kernel_rfl)
  try simp only [Act.put,puA,puB,puC]
  refine ag (i:=2) (d:=some 8) (v:=(.pointer (some ⟨B,0,none⟩))) rfl rfl (by kernel_rfl) (by kernel_rfl) rfl rfl (ae (by kernel_rfl) ?_) ?_
  ·((intro _ _ _;go_simp) <;> kernel_rfl)
  try simp only [Act.put,puA,puB,puC]
  refine ag (i:=3) (d:=some 9) (v:=(.pointer (some ⟨B,0,none⟩))) rfl rfl (by kernel_rfl) (by kernel_rfl) rfl rfl (ae (by kernel_rfl) ?_) ?_
  ·((intro _ _ _;go_simp) <;> kernel_rfl)
  try simp only [Act.put,puA,puB,puC]
  refine ag (i:=4) (d:=some 10) (v:=(.pointer (some ⟨B,0,none⟩))) rfl rfl (by kernel_rfl) (by kernel_rfl) rfl rfl (ae (by kernel_rfl) ?_) ?_
  ·((intro _ _ _;go_simp) <;> kernel_rfl)
  try simp only [Act.put,puA,puB,puC]
  refine ag (i:=5) (d:=some 11) (v:=(.pointer (some ⟨b.s,0,none⟩))) rfl rfl (by kernel_rfl) (by kernel_rfl) rfl rfl (ae (by kernel_rfl) ?_) ?_
  ·(intro sZ wZ hZ;have cZ:=(SO.all (fun k W hS=>HC.out s s k W hS)) sZ wZ hZ;go_simp)
  try simp only [Act.put,puA,puB,puC]
  refine ag (i:=6) (d:=some 12) (v:=(.int .i64 at1)) rfl rfl (by kernel_rfl) (by kernel_rfl) rfl rfl (ae (by kernel_rfl) ?_) ?_
  ·((intro _ _ _;go_simp) <;> kernel_rfl)
  try simp only [Act.put,puA,puB,puC]
  refine ag (i:=7) (d:=some 13) (v:=(an p)) rfl rfl (by kernel_rfl) (by kernel_rfl) rfl rfl (bf (by kernel_rfl) (.tmp 5) rfl rfl (SO.all (fun k W hS=>hS.1.aK 0 rfl HL.out))) ?_
  try simp only [Act.put,puA,puB,puC]
  refine bw (i:=8) (d:=some 14) (fun u k=>u=.int .i64 28∧k=some true) rfl rfl (by kernel_rfl) (by kernel_rfl) rfl (by kernel_rfl) ⟨_,_,rfl,rfl⟩ (by kernel_rfl) (bm (f:=178) (args:=#[.pointer (some ⟨b.s,0,none⟩),.int .i64 at1,an p]) ?_ (fun W hS=>(HP.out W hS).mono fun e w' hh=>Or.inl ⟨_,hh.1,some true,⟨rfl,rfl⟩,hh.2⟩)) ?_
  ·(intro _;go_simp)
  rintro _ _ ⟨rfl,rfl⟩
  try simp only [Act.put,puA,puB,puC]
  refine bw (i:=9) (d:=some 15) (fun _ k=>k=none) rfl rfl (by kernel_rfl) (by kernel_rfl) rfl (by kernel_rfl) ⟨undef,_,rfl⟩ (by kernel_rfl) (bm (f:=133) (args:=#[.pointer (some ⟨B,0,none⟩),.int .i64 28]) ?_ (fun W hS=>(HE.out W hS).mono fun e w' hh=>Or.inr ⟨_,hh.1,rfl,hh.2⟩)) ?_
  ·(intro _;go_simp)
  rintro _ _ rfl
  exact cH (by kernel_rfl) fun W hS=>hS.elim
end

section
open Go.RowKit Go.Maps
open Dk (av aa)
open Ii (Ino)
section
variable {α:Type} {B:Nat} {b:Blk} {n I:Int} {Ls:List Nat} {w w1 w':World} {K:α→Ending→World→Prop} {s:Sto} {e:Ending}
theorem Ends.told {f:Fs.View→Except Int α} {a:α} (E:f (nv s)=.ok a) (C:Ctx w B b s n I) (hb:Below w.heap.size w w') (hK:K a e w'):Ends B b n I Ls w s (Fs.tell f) K e w':=
 Or.inl ⟨a,s,[],by unfold Fs.tell;rw [E],nh.refl s,C.below hb,hK,aB.below hb⟩
theorem Ends.untold {f:Fs.View→Except Int α} {er:Int} (E:f (nv s)=.error er) (h0:er≠0) (hb:Below w.heap.size w w1) (Br:gq w' B b s n I er) (O:aB [B] w1 w'):Ends B b n I Ls w s (Fs.tell f) K (.panicked [bn B]) w':=
 Or.inr ⟨er,Or.inl ⟨nv s,[],by unfold Fs.tell;rw [E]⟩,h0,Br,rfl,(show aB (B::b.t::Ls) w w1 from aB.below hb).via O (fun i hi=>Or.inl (by simp at hi ⊢;exact Or.inl hi))⟩
theorem Ends.later {m:Fs.M α} {w0:World} (hl:aB (b.t::Ls) w0 w) (h:Ends B b n I Ls w s m K e w'):Ends B b n I Ls w0 s m K e w':=by
 rcases h with ⟨a,s',L,E,G,C,hK,O⟩ | ⟨er,F,h0,Br,he,O⟩
 ·exact Or.inl ⟨a,s',L,E,G,C,hK,hl.via O (fun i hi=>Or.inl hi)⟩
 ·exact Or.inr ⟨er,F,h0,Br,he,(hl.mono (fun k hk=>List.mem_cons_of_mem _ hk)).via O (fun i hi=>Or.inl hi)⟩
theorem Ends.same {m m':Fs.M α} (hm:m (nv s)=m' (nv s)) (h:Ends B b n I Ls w s m' K e w'):Ends B b n I Ls w s m K e w':=by
 unfold Ends eo at h ⊢
 rw [hm];exact h
theorem Ends.unit {R:Ending→World→Prop} {m:Fs.M Unit} (H:Hid (∀ e w',Ends B b n I [] w s m (fun _ e _=>e=.returned (.tuple #[])) e w'→R e w')) (h:Ends B b n I [] w s m (fun _ e _=>e=.returned (.tuple #[])) e w'):
  (e=.panicked [bn B]∧R (.panicked [bn B]) w')∨(e=.returned (.tuple #[])∧R (.returned (.tuple #[])) w'):=by
 have hR:=H.out e w' h
 rcases h with ⟨a,s',L,E,G,C,rfl,O⟩ | ⟨er,F,h0,Br,rfl,O⟩
 ·exact Or.inr ⟨rfl,hR⟩
 ·exact Or.inl ⟨rfl,hR⟩
end
theorem wq (w:World):Lo [] w [(w.heap.size,aH Ii.zero)] (w.alloc (.cells (aH Ii.zero).toArray 103)):=
 (Lo.start w (by simp)).alloc _ rfl (aH Ii.zero) _
theorem gG {w:World} {B:Nat} {b:Blk} {s:Sto} {n I:Int} (h:Ctx w B b s n I) (i:Int):Calls Tryz.prog 118 #[.pointer (some ⟨B,0,none⟩),.int .i64 i] w (Ends B b n I [] w s (Fs.tell (Fs.cV I i)) fun x e _=>e=.returned (bH x)):=by
 refine aQ fun R H=>?_
 have S:=Lib.hid (wq w)
 have HB:Hid (∀ W l,Lo [] w l W→W.rangeAt B 0 (eN b.s n I)):=Lib.hid (fun W l hl=>(Lo.ctx (L:=[]) hl h).step.base)
 have HC:=Lib.hid h
 rcases xg I i (nv s) with hx | ⟨x,hx⟩
 ·have HT:Hid (∀ W l,Lo [] w l W→Calls Tryz.prog 173 #[bW b.s n I,.int .i64 i] W fun e w'=>e=.returned (.tuple #[bH Ii.zero,.int .i64 22])∧Below W.heap.size W w'):=Lib.hid (fun W l hl=>uE (hl.store h.store) h.vs i hx)
  have HM:Hid (∀ W l,Lo [] w l W→Calls Tryz.prog 133 #[.pointer (some ⟨B,0,none⟩),.int .i64 22] W fun e w'=>e=.panicked [bn B]∧R (.panicked [bn B]) w'):=Lib.hid (fun W l hl=>(oP (Lo.ctx (L:=[]) hl h) 22 (by decide)).mono fun e w' hh=>⟨hh.1,H.out _ _ (Ends.untold hx (by decide) hl.bel hh.2.1 hh.2.2)⟩)
  clear h hx H
  go_enter Tryz.func118,Tryz.ntmps118
  go_wp2_with (first
   | (with_reducible refine aE (HB.out _ _ S.out) rfl (.tmp 10) rfl rfl ?_)
   | (go_at_call 173;refine (HT.out _ _ S.out).mono ?_;rintro e w1 ⟨rfl,hb⟩;replace S:=Lib.hid (S.out.below hb);clear hb)
   | ((with_reducible refine ai (vs:=aH Ii.zero) cz ?_ (aJ _) rfl (.tmp 5) (.tmp 14) rfl rfl ?_ ?_ ?_);(exact rfl);(exact rfl);(exact rfl);intro W4 hP hB2 hz2;replace S:=Lib.hid (S.out.made hP hB2 hz2);clear hP hB2 hz2)
   | (go_at_call 133;refine (HM.out _ _ S.out).mono ?_;rintro e w1 ⟨rfl,hR⟩))
  exact ⟨rfl,hR⟩
 ·have HT:Hid (∀ W l,Lo [] w l W→Calls Tryz.prog 173 #[bW b.s n I,.int .i64 i] W fun e w'=>e=.returned (.tuple #[bH x,.int .i64 0])∧Below W.heap.size W w'):=Lib.hid (fun W l hl=>mr (hl.store h.store) h.vs i hx)
  have HE:Hid (∀ W l,Lo [] w l W→R (.returned (bH x)) W):=Lib.hid (fun W l hl=>H.out _ _ (Ends.told hx h hl.bel rfl))
  clear h hx H
  go_enter Tryz.func118,Tryz.ntmps118
  go_wp2_with (first
   | (with_reducible refine aE (HB.out _ _ S.out) rfl (.tmp 10) rfl rfl ?_)
   | (go_at_call 173;refine (HT.out _ _ S.out).mono ?_;rintro e w1 ⟨rfl,hb⟩;replace S:=Lib.hid (S.out.below hb);clear hb)
   | ((with_reducible refine ai (vs:=aH x) cz ?_ (aJ _) rfl (.tmp 5) (.tmp 14) rfl rfl ?_ ?_ ?_);(exact rfl);(exact rfl);(exact rfl);intro W4 hP hB2 hz2;replace S:=Lib.hid (S.out.made hP hB2 hz2);clear hP hB2 hz2)
   | (go_at_call 133;(with_reducible refine (js _).mono ?_);rintro e w1 ⟨rfl,rfl⟩)
   | (with_reducible refine af cz (S.out.get 1 _ rfl) rfl rfl (.tmp 5) rfl rfl ?_)
   | ((with_reducible refine ak (vs:=aH x) cz (S.out.get 0 _ rfl) ?_ ?_ (aJ _) rfl (.tmp 4) (.tmp 19) rfl ?_ ?_ ?_);(exact rfl);(exact rfl);(exact rfl);(exact rfl)))
  have S2:=Lib.hid (S.out.put 0 _ rfl (aH x) rfl)
  exact bodyPost_ret (aC cz _ 4 rfl _ (S2.out.get 0 _ rfl) rfl rfl) rfl (HE.out _ _ S2.out)
theorem JS (w:World):Lo [] w [(w.heap.size,ab av)] (w.alloc (.cells zeroCells 87)):=
 (Lo.start w (by simp)).alloc _ rfl (ab av) _
theorem im {w:World} {B:Nat} {b:Blk} {s:Sto} {n I:Int} (h:Ctx w B b s n I) (m:Int):Calls Tryz.prog 123 #[.pointer (some ⟨B,0,none⟩),.int .i64 m] w (Ends B b n I [] w s (Fs.tell (Fs.dL n I m)) fun p e _=>e=.returned (an p)):=by
 refine aQ fun R H=>?_
 have S0:=Lib.hid (JS w)
 have HB:Hid (∀ W l,Lo [] w l W→W.rangeAt B 0 (eN b.s n I)):=Lib.hid (fun W l hl=>(Lo.ctx (L:=[]) hl h).step.base)
 have HD:Hid (∀ W l,Lo [] w l W→Calls Tryz.prog 180 #[bW b.s n I,.int .i64 m] W fun e w'=>e=.returned (exV an (an av) (Fs.dL n I m (nv s)))∧Below W.heap.size W w'):=Lib.hid (fun W l hl=>pE (hl.store h.store) h.vs m)
 cases hd:Fs.dL n I m (nv s) with
 |
  error er=>
  obtain rfl:=lC hd
  rw [hd] at HD
  simp only [exV] at HD
  have HM:Hid (∀ W l,Lo [] w l W→Calls Tryz.prog 133 #[.pointer (some ⟨B,0,none⟩),.int .i64 5] W fun e w'=>e=.panicked [bn B]∧R (.panicked [bn B]) w'):=Lib.hid (fun W l hl=>(oP (Lo.ctx (L:=[]) hl h) 5 (by decide)).mono fun e w' hh=>⟨hh.1,H.out _ _ (Ends.untold hd (by decide) hl.bel hh.2.1 hh.2.2)⟩)
  have c0:∀ o,(w.alloc o).rangeAt B 0 (eN b.s n I):=fun o=>((h.step.alloc o).base)
  clear h hd H
  go_enter Tryz.func123,Tryz.ntmps123
  go_wp2_with (with_reducible refine aE (c0 _) rfl (.tmp 10) rfl rfl ?_)
  rw [← az]
  generalize hw:World.alloc _ _=w1
  have S:Hid (Lo [] w [(w.heap.size,ab av)] w1):=Lib.hid (by rw [← hw];exact S0.out)
  clear hw S0 c0
  go_wp2_with (first
   | (go_at_call 180;refine (HD.out _ _ S.out).mono ?_;rintro e w1 ⟨rfl,hb⟩;replace S:=Lib.hid (S.out.below hb);clear hb)
   | ((with_reducible refine aq rfl (.tmp 5) (.tmp 14) rfl rfl ?_ ?_ aa ?_);(exact rfl);(exact rfl);intro W2 hP hB2 hz2;replace S:=Lib.hid (S.out.made hP.rowAt hB2 hz2);clear hP hB2 hz2)
   | (go_at_call 133;refine (HM.out _ _ S.out).mono ?_;rintro e w1 ⟨rfl,hR⟩))
  exact ⟨rfl,hR⟩
 |
  ok p=>
  have HL:=Lib.hid (lB h.vs hd)
  rw [hd] at HD
  simp only [exV] at HD
  have HE:Hid (∀ W l,Lo [] w l W→R (.returned (an p)) W):=Lib.hid (fun W l hl=>H.out _ _ (Ends.told hd h hl.bel rfl))
  have c0:∀ o,(w.alloc o).rangeAt B 0 (eN b.s n I):=fun o=>((h.step.alloc o).base)
  clear h hd H
  go_enter Tryz.func123,Tryz.ntmps123
  go_wp2_with (with_reducible refine aE (c0 _) rfl (.tmp 10) rfl rfl ?_)
  rw [← az]
  generalize hw:World.alloc _ _=w1
  have S:Hid (Lo [] w [(w.heap.size,ab av)] w1):=Lib.hid (by rw [← hw];exact S0.out)
  clear hw S0 c0
  go_wp2_with (first
   | (go_at_call 180;refine (HD.out _ _ S.out).mono ?_;rintro e w1 ⟨rfl,hb⟩;replace S:=Lib.hid (S.out.below hb);clear hb)
   | ((with_reducible refine aq rfl (.tmp 5) (.tmp 14) rfl rfl ?_ ?_ HL.out ?_);(exact rfl);(exact rfl);intro W2 hP hB2 hz2;replace S:=Lib.hid (S.out.made hP.rowAt hB2 hz2);clear hP hB2 hz2)
   | (go_at_call 133;(with_reducible refine (js _).mono ?_);rintro e w1 ⟨rfl,rfl⟩)
   | (with_reducible refine ah (S.out.aK 1 rfl HL.out) rfl (.tmp 5) rfl rfl ?_)
   | ((with_reducible refine ax (S.out.aK 0 rfl aa) HL.out rfl (.tmp 4) (.tmp 19) rfl rfl ?_ ?_);(exact rfl)))
  have S2:=Lib.hid (S.out.Ig 0 rfl aa p HL.out)
  exact bodyPost_ret (bE _ 4 rfl _ (S2.out.aK 0 rfl HL.out) rfl) rfl (HE.out _ _ S2.out)
end

section
open Go.ChangeShapes Go.WideShapes Go.ChangeAt Go.RowKit
structure Row (w:World) (A:Option Addr) (n:Nat) (bs:List UInt8):Prop where
 len:bs.length=64*n
 small:n≤maxLen
 nul:A=none→n=0
 cells:0<n→∃ b off,A=some ⟨b,off,none⟩∧b<w.heap.size∧∀ j,j<64*n→w.cell? ⟨b,off+j,none⟩=some (.int .u8 ((bs.getD j 0).toNat:Int))
theorem Row.gL {w w':World} {A:Option Addr} {n:Nat} {bs:List UInt8} (h:Row w A n bs) (hs:w.heap.size≤w'.heap.size) (hb:0<n→∀ b off,A=some ⟨b,off,none⟩→b<w.heap.size→w'.heap[b]?=w.heap[b]?):Row w' A n bs where
 len:=h.len
 small:=h.small
 nul:=h.nul
 cells:=fun hn=>by
  obtain ⟨b,off,rfl,hlt,hc⟩:=h.cells hn
  exact ⟨b,off,rfl,Nat.lt_of_lt_of_le hlt hs,fun j hj=>(World.cell?_of_block (a:=⟨b,off+j,none⟩) (hb hn b off rfl hlt)).trans (hc j hj)⟩
theorem Row.step {w w':World} {A:Option Addr} {n:Nat} {bs:List UInt8} (h:Row w A n bs) (hb:Below w.heap.size w w'):Row w' A n bs:=
 h.gL hb.size fun _ b _ _ hlt=>hb.block b hlt
theorem Row.drewN {w:World} {A:Option Addr} {n:Nat} {bs:List UInt8} (h:Row w A n bs) (m:Nat):Row (w.drewN m) A n bs:=
 h.gL (Nat.le_refl _) fun _ _ _ _ _=>rfl
def pK (W:World) (base:Nat) (v:Value) (n:Nat) (bs:List UInt8):Prop:=W.ownsRow base 87 64 v n (ab bs)
theorem Ay:∃ i z,Tryz.prog.info? 87=some i∧i.zero=some z∧i.size=64∧i.bytes=64∧z.cells.size=64:=by
 have e:(Tryz.prog.info? 87).map (fun i=>(i.zero.map (·.cells.size),i.size,i.bytes))=some (some 64,64,64):=by kernel_rfl
 cases h:Tryz.prog.info? 87 with
 | none=>rw [h] at e;cases e
 |
  some i=>
  rw [h] at e
  simp only [Option.map_some,Option.some.injEq,Prod.mk.injEq] at e
  obtain ⟨e1,e2,e3⟩:=e
  cases hz:i.zero with
  | none=>rw [hz] at e1;cases e1
  | some z=>rw [hz] at e1;exact ⟨i,z,rfl,hz,e2,e3,by simpa using e1⟩
theorem pK.len {W:World} {base:Nat} {v:Value} {n:Nat} {bs:List UInt8} (h:pK W base v n bs):bs.length=64*n:=by
 have:=h.1
 rw [aj] at this
 omega
theorem pK.form {W:World} {base:Nat} {v:Value} {n:Nat} {bs:List UInt8} (h:pK W base v n bs):
  ∃ A cap,v=.slice A n cap∧Row W A n bs∧(∀ b off,A=some ⟨b,off,none⟩→base≤b∧off=0)∧n≤cap:=by
 have hl:=h.len
 obtain ⟨hl',h'⟩:=id h
 rcases h' with ⟨rfl,h0⟩ | ⟨g,cap,cur,rfl,hb,hg,hc,hcm,hcs,ht⟩
 ·exact ⟨none,0,by rw [h0],⟨hl,by unfold maxLen;omega,fun _=>h0,fun hn=>by omega⟩,fun b off q=>(by cases q),by omega⟩
 ·have hlt:g<W.heap.size:=by
   rcases Nat.lt_or_ge g W.heap.size with hlt | hge
   ·exact hlt
   ·rw [Array.getElem?_eq_none hge] at hg;cases hg
  refine ⟨some ⟨g,0,none⟩,cap,rfl,⟨hl,Nat.le_trans hc hcm,fun q=>(by cases q),fun hn=>⟨g,0,rfl,hlt,fun j hj=>?_⟩⟩,fun b off q=>?_,hc⟩
  ·have hj':j<bs.length:=by omega
   have:=World.ownsRow.cellAt h j (by omega)
   rw [Nat.zero_add,this,cd bs j hj',List.getD_eq_getElem?_getD,List.getElem?_eq_getElem hj'];rfl
  ·injection q with q;injection q with q1 q2;exact ⟨by omega,q2.symm⟩
theorem wy {W W':World} (hb:Below W.heap.size W W'):W.grownBy W' none:=⟨hb.os,hb.tape,hb.output,hb.size,fun k hk _=>hb.block k hk⟩
theorem pK.step {W W':World} {base:Nat} {v:Value} {n:Nat} {bs:List UInt8} (h:pK W base v n bs) (hb:Below W.heap.size W W'):pK W' base v n bs:=by
 refine World.ownsRow.kept h (wy hb) ?_
 cases hv:v.ownBlock with
 | none=>exact Or.inl rfl
 | some g=>exact Or.inr (fun e=>by cases e)
theorem fj (N:Nat) (w:World) (m:Nat):Below N w (w.drewN m):=⟨rfl,rfl,rfl,Nat.le_refl _,fun _ _=>rfl⟩
end

section
open Go.RowKit
theorem mq (i n:Nat) (A:Option Addr) (c:Nat) (w:World) (hn:n≤1000) (h:i<n*512):
  Calls Tryz.prog 236 #[.int .i64 (i:Int),.slice A n c] w fun e w'=>e=.returned (.bool true)∧w=w':=by
 go_enter Tryz.func236,Tryz.ntmps236
 go_wp2
 go_ret
 exact ⟨bS (by simp;omega),rfl⟩
theorem uD (i:Int) (n:Nat) (A:Option Addr) (c:Nat) (w:World) (hn:n≤1000) (h:¬ (0≤i∧i<(n:Int)*512)):
  Calls Tryz.prog 236 #[.int .i64 i,.slice A n c] w fun e w'=>e=.returned (.bool false)∧w=w':=by
 go_enter Tryz.func236,Tryz.ntmps236
 by_cases c1:0≤i
 ·go_wp2
  go_ret
  exact ⟨bS (by simp;omega),rfl⟩
 ·go_wp2
  go_ret
  exact ⟨rfl,rfl⟩
theorem oy (i:Nat) (w:World) (h:i<512000):
  Calls Tryz.prog 237 #[.int .i64 (i:Int)] w fun e w'=>e=.returned (.tuple #[.int .i64 ((i / 512:Nat):Int),.int .i64 ((i % 512 / 8:Nat):Int),.int .u8 ((Bt.pw (i % 8):Nat):Int)])∧∃ m,w'=w.drewN m:=by
 have hr:Hid ((2 ^ (i % 8):Int) % 256=((Bt.pw (i % 8):Nat):Int)):=Lib.hid (by
  have hp:=Bt.IX (i % 8) (Nat.mod_lt _ (by omega))
  have e:((Bt.pw (i % 8):Nat):Int)=(2 ^ (i % 8):Int):=by rw [Bt.xy];push_cast;rfl
  rw [← e];exact Int.emod_eq_of_lt (by omega) (by omega))
 go_enter Tryz.func237,Tryz.ntmps237
 go_wp2
 go_quiet (fail)
 go_wp2
 go_ret3
 refine ⟨?_,_,rfl⟩
 simp [hr.out]
theorem Row.byte {w:World} {b off n:Nat} {bs:List UInt8} (hc:∀ j,j<64*n→w.cell? ⟨b,off+j,none⟩=some (.int .u8 ((bs.getD j 0).toNat:Int))) (i:Nat) (h:i<n*512):
  w.cell? ⟨b,off+i / 512*64+i % 512 / 8,none⟩=some (.int .u8 ((bs.getD (i / 8) 0).toNat:Int)):=by
 have e:i / 512*64+i % 512 / 8=i / 8:=by omega
 have:=hc (i / 8) (by omega)
 rw [Nat.add_assoc,e];exact this
theorem Kg (i:Int) (A:Option Addr) (n c:Nat) (w:World) (hn:n≤1000) (h:¬ (0≤i∧i<(n:Int)*512)):
  Calls Tryz.prog 211 #[.int .i64 i,.slice A n c] w fun e w'=>e=.returned (.bool false)∧∃ m,w'=w.drewN m:=by
 have HH:=Lib.hid h;clear h
 go_enter Tryz.func211,Tryz.ntmps211
 go_wp2_with (go_at_call 236;refine (uD _ _ _ _ _ hn HH.out).mono ?_;rintro e w' ⟨rfl,rfl⟩)
 go_ret
 exact ⟨rfl,0,rfl⟩
theorem Ha (i:Nat) (b off n c:Nat) (bs:List UInt8) (w:World) (hn:n≤1000) (h:i<n*512)
  (hc:∀ j,j<64*n→w.cell? ⟨b,off+j,none⟩=some (.int .u8 ((bs.getD j 0).toNat:Int))):
  Calls Tryz.prog 211 #[.int .i64 (i:Int),.slice (some ⟨b,off,none⟩) n c] w fun e w'=>e=.returned (.bool (Bt.bit bs i))∧∃ m,w'=w.drewN m:=by
 have hb:=Row.byte hc i h
 clear hc
 have hi:i<512000:=by omega
 have hx:=(bs.getD (i / 8) 0).toNat_lt
 have hp:=Bt.IX (i % 8) (Nat.mod_lt _ (by omega))
 have HB:Hid (Bt.bit bs i=!decide ((bs.getD (i / 8) 0).toNat &&& Bt.pw (i % 8)=0)):=Lib.hid (by
  unfold Bt.bit
  rw [Bt.xy]
  have:=Bt.Kj (bs.getD (i / 8) 0).toNat (i % 8)
  cases hq:(bs.getD (i / 8) 0).toNat.testBit (i % 8) <;> simp_all)
 generalize (bs.getD (i / 8) 0).toNat=x at hb hx HB
 have hq1:i / 512<n:=by omega
 have hq2:i % 512 / 8<64:=by omega
 go_enter Tryz.func211,Tryz.ntmps211
 go_wp2_with (first | (go_at_call 236;refine (mq _ _ _ _ _ hn h).mono ?_;rintro e w' ⟨rfl,rfl⟩) | (go_at_call 237;refine (oy _ _ hi).mono ?_;rintro e w' ⟨rfl,m,rfl⟩))
 go_ret
 refine ⟨bS ?_,_,rfl⟩
 rw [HB.out,u8_and_nat _ _ hx hp]
 cases hz:decide (x &&& Bt.pw (i % 8)=0) <;> simp_all
theorem Hb (i:Int) (A:Option Addr) (n c:Nat) (bs:List UInt8) (w:World) (h:Row w A n bs) (hn:n≤1000):
  Calls Tryz.prog 211 #[.int .i64 i,.slice A n c] w fun e w'=>e=.returned (.bool (Bt.Ks bs i))∧∃ m,w'=w.drewN m:=by
 by_cases hi:0≤i∧i<(n:Int)*512
 ·obtain ⟨k,rfl⟩:=Int.eq_ofNat_of_zero_le hi.1
  obtain ⟨b,off,rfl,_,hc⟩:=h.cells (by omega)
  rw [Bt.yb]
  exact Ha k b off n c bs w hn (by omega) hc
 ·rw [Bt.JG bs n h.len i hi]
  exact Kg i A n c w hn hi
end

section
open Go.RowKit
theorem Cq (w:World):pK (w.alloc (.cells #[] 87)) w.heap.size (.slice (some ⟨w.heap.size,0,none⟩) 0 0) 0 []:=World.ownsRow_made w #[] 0 (Nat.le_refl _) (Nat.zero_le _) rfl
theorem sn {w:World} {b off n:Nat} {bs:List UInt8} (hl:bs.length=64*n) (hc:∀ j,j<64*n→w.cell? ⟨b,off+j,none⟩=some (.int .u8 ((bs.getD j 0).toNat:Int))):
  ∀ j u,(ab bs)[j]?=some u→w.cell? ((⟨b,off,none⟩:Addr).add j)=some u:=by
 intro j u hu
 have hj:j<bs.length:=by
  have:=(List.getElem?_eq_some_iff.1 hu).1
  rwa [aj] at this
 rw [cd bs j hj] at hu
 have:=hc j (by omega)
 rw [List.getD_eq_getElem?_getD,List.getElem?_eq_getElem hj,Option.getD_some] at this
 rw [Addr.add_mid,this,hu]
theorem vh {ops:Array Oper} {rest:List Oper} {o:Oper} {a:Act} {Q:Exit→Act→World→Prop} {w:World} {A:Option Addr} {n c:Nat} {bs:List UInt8} (hr:Row w A n bs) (hn:n≤1000) (hA:A≠none)
  (hgd:o.guard=none) (s x:Operand) (ho:o.op=.call { callee:=.builtin .append,args:=#[s,x],argTypes:=#[81,81] }) (hs:a.eval s=.slice (some ⟨w.heap.size,0,none⟩) 0 0) (hx:a.eval x=.slice A n c)
  (h:∀ v w',pK w' w.heap.size v n bs→Below w.heap.size w w'→wpList Tryz.prog ops Q rest (a.put o.dst v) w'):
  wpList Tryz.prog ops Q (o::rest) a (w.alloc (.cells #[] 87)):=by
 obtain ⟨i,z,hi,hz,h64,hby,hzs⟩:=Ay
 obtain ⟨ad,rfl⟩:=Option.ne_none_iff_exists'.1 hA
 refine wpList_append_own_at _ hgd s x 81 ho w.heap.size 87 i z 64 64 Tryz.underlying81 hi hz h64 hby hzs (by omega) _ 0 [] hs (Cq w) ad n c (ab bs) hx (by rw [aj,hr.len];omega) ?_ (bV bs) (by unfold maxLen;omega) (by omega) (by simp) ?_
 ·intro j u hu
  have hj:j<bs.length:=by
   have:=(List.getElem?_eq_some_iff.1 hu).1
   rwa [aj] at this
  have hl:=hr.len
  obtain ⟨b,off,e,hlt,hc⟩:=hr.cells (by omega)
  injection e with e
  subst e
  refine Eq.trans (World.cell?_of_block (w:=w) (Below.heap_alloc w _ _ ?_)) (sn hl hc j u hu)
  rw [Addr.add_mid];exact hlt
 ·intro v w' h1 h2 _ _
  rw [Nat.zero_add,List.nil_append] at h1
  refine h v w' h1 (((Below.refl _ w).alloc (Nat.le_refl _) _).grown h2 (by simp) ?_)
  intro k hk
  simp [Value.ownBlock] at hk
  omega
theorem py (A:Option Addr) (n c:Nat) (bs:List UInt8) (w:World) (h:Row w A n bs) (hn:n≤1000):
  Calls Tryz.prog 235 #[.slice A n c] w fun e w'=>∃ v,e=.returned v∧pK w' w.heap.size v n bs∧Below w.heap.size w w':=by
 cases A with
 |
  none=>
  have h0:=h.nul rfl
  subst h0
  have hb:bs=[]:=List.eq_nil_of_length_eq_zero (by rw [h.len])
  subst hb
  clear h
  have q22:=fun w:World=>Lib.run_eql_slice_nil (P:=Tryz.prog) w 81 87 none 0 c 0 0 Tryz.underlying81
  go_enter Tryz.func235,Tryz.ntmps235
  go_wp2
  go_ret
  exact ⟨_,rfl,World.ownsRow_nil _ _ _ _,Below.refl _ _⟩
 |
  some ad=>
  have HR:=Lib.hid h;clear h
  have q22:=fun w:World=>Lib.run_eql_slice_nil (P:=Tryz.prog) w 81 87 (some ad) n c 0 0 Tryz.underlying81
  go_enter Tryz.func235,Tryz.ntmps235
  go_wp2_with (at_builtin;go_must (refine vh (c:=c) HR.out hn (Option.some_ne_none ad) rfl (.tmp 5) (.tmp 6) rfl ?_ ?_ ?_);(exact rfl);(exact rfl);intro v w' h1 h2)
  go_ret
  exact ⟨_,rfl,h1,h2⟩
theorem pK.put {W:World} {base g cap n:Nat} {bs:List UInt8} (h:pK W base (.slice (some ⟨g,0,none⟩) n cap) n bs) (j:Nat) (c:UInt8):
  pK (W.setCell ⟨g,j,none⟩ (.int .u8 (c.toNat:Int))) base (.slice (some ⟨g,0,none⟩) n cap) n (bs.set j c)∧W.grownBy (W.setCell ⟨g,j,none⟩ (.int .u8 (c.toNat:Int))) (some g):=by
 have:=World.ownsRow.stored h j (.int .u8 (c.toNat:Int))
 rw [mL] at this
 exact this
theorem xH {W:World} {base g cap n:Nat} {bs:List UInt8} (h:pK W base (.slice (some ⟨g,0,none⟩) n cap) n bs) (i:Nat) (hi:i<n*512):
  W.cell? ⟨g,i / 512*64+i % 512 / 8,none⟩=some (.int .u8 ((bs.getD (i / 8) 0).toNat:Int)):=by
 have hl:=h.len
 have e:i / 512*64+i % 512 / 8=i / 8:=by omega
 have hj:i / 8<bs.length:=by omega
 have:=World.ownsRow.cellAt h (i / 8) (by omega)
 rw [e,this,cd bs _ hj,List.getD_eq_getElem?_getD,List.getElem?_eq_getElem hj];rfl
theorem Kb (i:Int) (on1:Bool) (A:Option Addr) (n c:Nat) (bs:List UInt8) (w:World) (h:Row w A n bs) (hn:n≤1000) (hi:¬ (0≤i∧i<(n:Int)*512)):
  Calls Tryz.prog 199 #[.int .i64 i,.bool on1,.slice A n c] w fun e w'=>∃ v,e=.returned v∧pK w' w.heap.size v n bs∧Below w.heap.size w w':=by
 have HH:=Lib.hid hi;clear hi
 have HR:=Lib.hid h;clear h
 go_enter Tryz.func199,Tryz.ntmps199
 go_wp2_with (first | (go_at_call 235;refine (py _ _ _ _ _ HR.out hn).mono ?_;rintro e w' ⟨v,rfl,ho,hb⟩;obtain ⟨A',c',rfl,_⟩:=pK.form ho) | (go_at_call 236;refine (uD _ _ _ _ _ hn HH.out).mono ?_;rintro e w' ⟨rfl,rfl⟩))
 go_ret
 exact ⟨_,rfl,ho,hb⟩
theorem GY (i:Nat) (on1:Bool) (A:Option Addr) (n c:Nat) (bs:List UInt8) (w:World) (h:Row w A n bs) (hn:n≤1000) (hi:i<n*512):
  Calls Tryz.prog 199 #[.int .i64 (i:Int),.bool on1,.slice A n c] w fun e w'=>∃ v,e=.returned v∧pK w' w.heap.size v n (Bt.qk bs i on1)∧Below w.heap.size w w':=by
 have HR:=Lib.hid h;clear h
 have hq1:i / 512<n:=by omega
 have hq2:i % 512 / 8<64:=by omega
 have hi':i<512000:=by omega
 obtain ⟨x,hxe0⟩:∃ x,bs.getD (i / 8) 0=x:=⟨_,rfl⟩
 have hx:=x.toNat_lt
 have hxe:=Lib.hid hxe0;clear hxe0
 have hp:=Bt.IX (i % 8) (Nat.mod_lt _ (by omega))
 have HN:Hid (0<n):=Lib.hid (by omega)
 cases on1 with
 |
  true=>
  have HV:Hid (bits .or .u8 (x.toNat:Int) (Bt.pw (i % 8):Int)=((Bt.iM x (i % 8) true).toNat:Int)):=Lib.hid (by rw [u8_or_nat _ _ hx hp,Bt.Aw _ _ (Nat.mod_lt _ (by omega)),Bt.xy])
  go_enter Tryz.func199,Tryz.ntmps199
  go_wp2_with (first | (go_at_call 235;refine (py _ _ _ _ _ HR.out hn).mono ?_;rintro e w' ⟨v,rfl,ho,hb⟩;obtain ⟨g,c',rfl,hg,_⟩:=World.ownsRow.form ho HN.out;have hcell:=xH ho i hi;have hfr:=World.ownsRow.frozenAt ho (i / 512*64+i % 512 / 8);rw [hxe.out] at hcell;have HO:=Lib.hid ho;clear ho) | (go_at_call 236;refine (mq _ _ _ _ _ hn hi).mono ?_;rintro e w' ⟨rfl,rfl⟩) | (go_at_call 237;refine (oy _ _ hi').mono ?_;rintro e w' ⟨rfl,m,rfl⟩))
  go_region
  go_wp2
  go_ret
  have HQ:=pK.put (HO.out.step (fj _ _ (m+1))) (i / 512*64+i % 512 / 8) (Bt.iM x (i % 8) true)
  refine ⟨_,rfl,?_,?_⟩
  ·rw [HV.out]
   have e:i / 512*64+i % 512 / 8=i / 8:=by omega
   unfold Bt.qk
   rw [hxe.out]
   have:=HQ.1
   rw [e] at this ⊢
   exact this
  ·refine (hb.trans (fj _ _ (m+1))).setCell ?_ _
   exact hg
 |
  false=>
  have HV:Hid (bits .andNot .u8 (x.toNat:Int) (Bt.pw (i % 8):Int)=((Bt.iM x (i % 8) false).toNat:Int)):=Lib.hid (by rw [u8_andNot_nat _ _ hx hp,Bt.wO,Bt.xy])
  go_enter Tryz.func199,Tryz.ntmps199
  go_wp2_with (first | (go_at_call 235;refine (py _ _ _ _ _ HR.out hn).mono ?_;rintro e w' ⟨v,rfl,ho,hb⟩;obtain ⟨g,c',rfl,hg,_⟩:=World.ownsRow.form ho HN.out;have hcell:=xH ho i hi;have hfr:=World.ownsRow.frozenAt ho (i / 512*64+i % 512 / 8);rw [hxe.out] at hcell;have HO:=Lib.hid ho;clear ho) | (go_at_call 236;refine (mq _ _ _ _ _ hn hi).mono ?_;rintro e w' ⟨rfl,rfl⟩) | (go_at_call 237;refine (oy _ _ hi').mono ?_;rintro e w' ⟨rfl,m,rfl⟩))
  go_region
  go_wp2
  go_ret
  have HQ:=pK.put (HO.out.step (fj _ _ (m+1))) (i / 512*64+i % 512 / 8) (Bt.iM x (i % 8) false)
  refine ⟨_,rfl,?_,?_⟩
  ·rw [HV.out]
   have e:i / 512*64+i % 512 / 8=i / 8:=by omega
   unfold Bt.qk
   rw [hxe.out]
   have:=HQ.1
   rw [e] at this ⊢
   exact this
  ·refine (hb.trans (fj _ _ (m+1))).setCell ?_ _
   exact hg
theorem yn (i:Int) (on1:Bool) (A:Option Addr) (n c:Nat) (bs:List UInt8) (w:World) (h:Row w A n bs) (hn:n≤1000):
  Calls Tryz.prog 199 #[.int .i64 i,.bool on1,.slice A n c] w fun e w'=>∃ v,e=.returned v∧pK w' w.heap.size v n (Bt.za bs i on1)∧Below w.heap.size w w':=by
 have hl:=h.len
 by_cases hi:0≤i∧i<(n:Int)*512
 ·obtain ⟨k,rfl⟩:=Int.eq_ofNat_of_zero_le hi.1
  rw [Bt.Fo bs k on1 (by omega)]
  exact GY k on1 A n c bs w h hn (by omega)
 ·rw [Bt.IN bs i on1 (by omega)]
  exact Kb i on1 A n c bs w h hn hi
end

section
open Go.RowKit Go.Maps
open Dk (av aa)
open Ii (Ino)
theorem II (w:World) (x:Ino):Lo [] w [(w.heap.size,aH x)] (w.alloc (.cells (aH x).toArray 103)):=
 (Lo.start w (by simp)).alloc _ rfl (aH x) _
theorem kM {w:World} {B:Nat} {b:Blk} {s:Sto} {n I:Int} (h:Ctx w B b s n I) (i:Int) (x:Ino) (h1:1≤i) (h2:i≤I):Calls Tryz.prog 124 #[.pointer (some ⟨B,0,none⟩),.int .i64 i,bH x] w (Ends B b n I [] w s (Fs.sy i x) fun _ e _=>e=.returned (.tuple #[])):=by
 refine aQ fun R H=>?_
 have S:=Lib.hid (II w x)
 obtain ⟨k1,k2⟩:=Hx h.vs h1 h2
 obtain ⟨r1,r2,r3⟩:=h.vs.read k1
 rw [k2] at r1 r3
 have HB:Hid (∀ W l,Lo [] w l W→au W B (gO b.s n I true 0)):=Lib.hid (fun W l hl=>(Lo.ctx (L:=[]) hl h).step)
 have HP:Hid (∀ w,Calls Tryz.prog 181 #[bz n I,.int .i64 i] w fun e w'=>e=.returned (.tuple #[.int .i64 (43+(i - 1) / 2),.int .i64 ((i - 1) % 2)])∧Below w.heap.size w w'):=Lib.hid (fun w=>ox n I i w h.vs.pl h1 h2)
 have HG:Hid (∀ W l,Lo [] w l W→Calls Tryz.prog 182 #[.pointer (some ⟨B,0,none⟩),.int .i64 (43+(i - 1) / 2)] W fun e w'=>e=.returned (an (nv s (Fs.tbl i)))∧Below W.heap.size W w'):=Lib.hid (fun W l hl=>by
  have:=kN (Lo.ctx (L:=[]) hl h) (43+(i - 1) / 2) k1
  rw [k2] at this
  exact this)
 have HI:Hid (∀ w,Calls Tryz.prog 183 #[an (nv s (Fs.tbl i)),.int .i64 ((i - 1) % 2),.agg (aH x).toArray] w fun e w'=>e=.returned (an (Ii.uW (nv s (Fs.tbl i)) (Fs.dd i) x))∧Below w.heap.size w w'):=Lib.hid (fun w=>xW (nv s (Fs.tbl i)) i x w r3)
 have hql:=Ii.fV (nv s (Fs.tbl i)) (Fs.dd i) x r3 (by unfold Fs.dd;omega)
 have HS:Hid (∀ W l,Lo [] w l W→Calls Tryz.prog 121 #[.pointer (some ⟨B,0,none⟩),.int .i64 (43+(i - 1) / 2),an (Ii.uW (nv s (Fs.tbl i)) (Fs.dd i) x)] W (Ends B b n I [] W s (Fs.wr (Fs.tbl i) (Ii.uW (nv s (Fs.tbl i)) (Fs.dd i) x)) fun _ e _=>e=.returned (.tuple #[]))):=Lib.hid (fun W l hl=>by
  have:=fR (Lo.ctx (L:=[]) hl h) (43+(i - 1) / 2) (Ii.uW (nv s (Fs.tbl i)) (Fs.dd i) x) k1 (hql)
  rw [k2] at this
  exact this)
 have HL:=Lib.hid r3
 have HQ:=Lib.hid hql
 have HC:=Lib.hid h
 by_cases c:Ii.uW (nv s (Fs.tbl i)) (Fs.dd i) x=nv s (Fs.tbl i)
 ·have HE:Hid (∀ W l,Lo [] w l W→R (.returned (.tuple #[])) W):=Lib.hid (fun W l hl=>H.out _ _ (by
   have C:=Lo.ctx (L:=[]) hl HC.out
   have e:Fs.sy i x (nv s)=Fs.ret () (nv s):=by unfold Fs.sy;rw [if_pos c]
   exact Or.inl ⟨(),s,[],e,nh.refl s,C,rfl,hl.only.mono (by simp)⟩))
  rw [c] at HI
  clear h r1 r2 r3 k1 k2 h1 h2 hql HS HC c H
  generalize (43+(i - 1) / 2:Int)=at1 at HP HG
  generalize nv s (Fs.tbl i)=p at HG HI HL
  clear HQ
  have E1:∀ (w:World),(binOp .neq 87 (an p) (an p)).run Tryz.prog w=.ok (.bool false) w:=fun w=>gA w p HL.out
  have E0:∀ (w:World) (x y:Operand),(eqGuard .neq 87 x y (an p) (an p)).run Tryz.prog w=.ok () w:=fun w x y=>bB w x y p p
  unfold bH
  go_enter Tryz.func124,Tryz.ntmps124
  go_wp2_with (first
   | (with_reducible refine aN (HB.out _ _ S.out).gR rfl (.tmp 14) rfl rfl ?_)
   | (go_at_call 181;(with_reducible refine (HP.out _).mono ?_);rintro e w1 ⟨rfl,hb⟩;replace S:=Lib.hid (S.out.below hb);clear hb)
   | (go_at_call 182;refine (HG.out _ _ S.out).mono ?_;rintro e w1 ⟨rfl,hb⟩;replace S:=Lib.hid (S.out.below hb);clear hb)
   | ((with_reducible refine aq rfl (.tmp 8) (.tmp 22) rfl rfl ?_ ?_ HL.out ?_);(exact rfl);(exact rfl);intro W2 hP hB2 hz2;replace S:=Lib.hid (S.out.made hP.rowAt hB2 hz2);clear hP hB2 hz2)
   | (with_reducible refine ah (S.out.aK 1 rfl HL.out) rfl (.tmp 8) rfl rfl ?_)
   | (with_reducible refine af cz (S.out.get 0 _ rfl) rfl rfl (.tmp 5) rfl rfl ?_)
   | (go_at_call 183;(with_reducible refine (HI.out _).mono ?_);rintro e w1 ⟨rfl,hb⟩;replace S:=Lib.hid (S.out.below hb);clear hb)
   | ((with_reducible refine aq rfl (.tmp 9) (.tmp 26) rfl rfl ?_ ?_ HL.out ?_);(exact rfl);(exact rfl);intro W2 hP hB2 hz2;replace S:=Lib.hid (S.out.made hP.rowAt hB2 hz2);clear hP hB2 hz2)
   | (with_reducible refine ah (S.out.aK 2 rfl HL.out) rfl (.tmp 9) rfl rfl ?_))
  go_end0
  exact HE.out _ _ S.out
 ·have HE:Hid (∀ W l,Lo [] w l W→Calls Tryz.prog 121 #[.pointer (some ⟨B,0,none⟩),.int .i64 (43+(i - 1) / 2),an (Ii.uW (nv s (Fs.tbl i)) (Fs.dd i) x)] W fun e w'=>(e=.panicked [bn B]∧R (.panicked [bn B]) w')∨(e=.returned (.tuple #[])∧R (.returned (.tuple #[])) w')):=Lib.hid (fun W l hl=>(HS.out W l hl).mono fun e w' hE=>Ends.unit H (Ends.later (hl.only.mono (by simp)) (Ends.same (by unfold Fs.sy;rw [if_neg c]) hE)))
  clear h r1 r2 r3 k1 k2 h1 h2 hql HS HC H
  generalize (43+(i - 1) / 2:Int)=at1 at HP HG HE
  generalize Ii.uW (nv s (Fs.tbl i)) (Fs.dd i) x=q at HI HE HQ c
  generalize nv s (Fs.tbl i)=p at HG HI HL c
  have E1:∀ (w:World),(binOp .neq 87 (an q) (an p)).run Tryz.prog w=.ok (.bool true) w:=fun w=>kp w q p HQ.out HL.out c
  clear c
  have E0:∀ (w:World) (x y:Operand),(eqGuard .neq 87 x y (an q) (an p)).run Tryz.prog w=.ok () w:=fun w x y=>bB w x y q p
  unfold bH
  go_enter Tryz.func124,Tryz.ntmps124
  go_wp2_with (first
   | (with_reducible refine aN (HB.out _ _ S.out).gR rfl (.tmp 14) rfl rfl ?_)
   | (go_at_call 181;(with_reducible refine (HP.out _).mono ?_);rintro e w1 ⟨rfl,hb⟩;replace S:=Lib.hid (S.out.below hb);clear hb)
   | (go_at_call 182;refine (HG.out _ _ S.out).mono ?_;rintro e w1 ⟨rfl,hb⟩;replace S:=Lib.hid (S.out.below hb);clear hb)
   | ((with_reducible refine aq rfl (.tmp 8) (.tmp 22) rfl rfl ?_ ?_ HL.out ?_);(exact rfl);(exact rfl);intro W2 hP hB2 hz2;replace S:=Lib.hid (S.out.made hP.rowAt hB2 hz2);clear hP hB2 hz2)
   | (with_reducible refine ah (S.out.aK 1 rfl HL.out) rfl (.tmp 8) rfl rfl ?_)
   | (with_reducible refine af cz (S.out.get 0 _ rfl) rfl rfl (.tmp 5) rfl rfl ?_)
   | (go_at_call 183;(with_reducible refine (HI.out _).mono ?_);rintro e w1 ⟨rfl,hb⟩;replace S:=Lib.hid (S.out.below hb);clear hb)
   | ((with_reducible refine aq rfl (.tmp 9) (.tmp 26) rfl rfl ?_ ?_ HQ.out ?_);(exact rfl);(exact rfl);intro W2 hP hB2 hz2;replace S:=Lib.hid (S.out.made hP.rowAt hB2 hz2);clear hP hB2 hz2)
   | (with_reducible refine ah (S.out.aK 2 rfl HQ.out) rfl (.tmp 9) rfl rfl ?_)
   | (go_at_call 121;refine (HE.out _ _ S.out).mono ?_;rintro e w1 (⟨rfl,hR⟩ | ⟨rfl,hR⟩);(exact ⟨rfl,hR⟩)))
  go_end0
  exact hR
theorem yd {α:Type}:∀ (l:List α) (k:Nat) (zs:Array α),k+l.length≤zs.size→List.foldl (fun (cs:Array α) x=>cs.setIfInBounds x.2 x.1) zs (l.zipIdx k)=(zs.toList.take k++l++zs.toList.drop (k+l.length)).toArray
 | [],k,zs,_=>by simp
 |
  x::l,k,zs,h=>by
  rw [List.length_cons] at h
  rw [List.zipIdx_cons,List.foldl_cons,yd l (k+1) _ (by simp;omega)]
  apply Array.ext'
  have hk:k<zs.toList.length:=by simp;omega
  simp only [Array.toList_setIfInBounds]
  have e1:(zs.toList.set k x).take (k+1)=zs.toList.take k++[x]:=by
   rw [List.take_set,List.take_succ_eq_append_getElem hk,List.set_append_right _ _ (by simp;omega)]
   have:k - (List.take k zs.toList).length=0:=by simp;omega
   rw [this];rfl
  have e2:(zs.toList.set k x).drop (k+1+l.length)=zs.toList.drop (k+(l.length+1)):=by
   rw [List.drop_set_of_lt (by omega)]
   congr 1;omega
  rw [e1,e2]
  simp
theorem fh {zs:Array Value} {p:List UInt8} (h:zs.size=64) (hp:p.length=64):List.foldl (fun (cs:Array Value) x=>cs.setIfInBounds x.2 x.1) zs (ab p).zipIdx=(ab p).toArray:=by
 rw [yd _ 0 _ (by rw [aj,hp,h];exact Nat.le_refl _)]
 rw [List.take_zero,List.nil_append,List.drop_of_length_le (by rw [aj,hp,← h];simp),List.append_nil]
theorem iw {W:World} {g:Nat} {p:List UInt8} (h:aD W g p) (hg:g<W.heap.size):Row W (some ⟨g,0,none⟩) 1 p:=by
 refine ⟨h.len,by unfold maxLen;omega,fun q=>(by cases q),fun _=>⟨g,0,rfl,hg,fun j hj=>?_⟩⟩
 have hj':j<p.length:=by rw [h.len];exact hj
 have:=h.range j (.int .u8 ((p.getD j 0).toNat:Int)) (by rw [cd p j hj',List.getD_eq_getElem?_getD,List.getElem?_eq_getElem hj'];rfl)
 exact this
theorem BJ {W:World} {base:Nat} {v:Value} {p:List UInt8} (h:pK W base v 1 p):∃ g c,v=.slice (some ⟨g,0,none⟩) 1 c∧base≤g∧g<W.heap.size∧W.rangeAt g 0 (ab p):=by
 obtain ⟨A,cap,rfl,hR,hA,_⟩:=h.form
 obtain ⟨b,off,rfl,hlt,hc⟩:=hR.cells (by decide)
 obtain ⟨h1,rfl⟩:=hA b off rfl
 refine ⟨b,cap,rfl,h1,hlt,fun j v hv=>?_⟩
 have hl:=hR.len
 obtain ⟨hj,hv⟩:=List.getElem?_eq_some_iff.1 hv
 rw [aj] at hj
 have:=hc j (by omega)
 rw [this,← hv]
 have e:=cd p j hj
 rw [List.getElem?_eq_getElem (by rw [aj];exact hj)] at e
 injection e with e
 rw [e,List.getD_eq_getElem?_getD,List.getElem?_eq_getElem hj];rfl
theorem fJ {w:World} {B:Nat} {b:Blk} {s:Sto} {n I:Int} (h:Ctx w B b s n I) (at1 bit:Int) (on1:Bool) (ha:okP n at1):Calls Tryz.prog 150 #[.pointer (some ⟨B,0,none⟩),.int .i64 at1,.int .i64 bit,.bool on1] w (Ends B b n I [] w s (Fs.lj at1.toNat bit on1) fun _ e _=>e=.returned (.tuple #[])):=by
 refine aQ fun R H=>?_
 obtain ⟨r1,r2,r3⟩:=h.vs.read ha
 have HL:=Lib.hid r3
 have HQ:Hid ((Bt.za (nv s at1.toNat) bit on1).length=64):=Lib.hid (by rw [Bt.ko];exact r3)
 have HG:Hid (∀ W l,Lo [] w l W→Calls Tryz.prog 182 #[.pointer (some ⟨B,0,none⟩),.int .i64 at1] W fun e w'=>e=.returned (.agg (ab (nv s at1.toNat)).toArray)∧Below W.heap.size W w'):=Lib.hid (fun W l hl=>kN (Lo.ctx (L:=[]) hl h) at1 ha)
 have HE:Hid (∀ W l,Lo [] w l W→Calls Tryz.prog 121 #[.pointer (some ⟨B,0,none⟩),.int .i64 at1,an (Bt.za (nv s at1.toNat) bit on1)] W fun e w'=>(e=.panicked [bn B]∧R (.panicked [bn B]) w')∨(e=.returned (.tuple #[])∧R (.returned (.tuple #[])) w')):=Lib.hid (fun W l hl=>(fR (Lo.ctx (L:=[]) hl h) at1 (Bt.za (nv s at1.toNat) bit on1) ha HQ.out).mono fun e w' hE=>Ends.unit H (Ends.later (hl.only.mono (by simp)) (Ends.same rfl hE)))
 have S:=Lib.hid (Lo.start (L:=[]) w (by simp))
 clear h H r1 r2 r3 ha
 generalize hq:Bt.za (nv s at1.toNat) bit on1=q at HE HQ
 generalize nv s at1.toNat=p at HG HL hq
 have HQE:=Lib.hid hq
 clear hq
 have hbl:(ab p).length=64:=by rw [aj];exact HL.out
 go_enter Tryz.func150,Tryz.ntmps150
 go_wp2_with (first
  | (go_at_call 182;refine (HG.out _ _ S.out).mono ?_;rintro e w1 ⟨rfl,hb⟩;replace S:=Lib.hid (S.out.below hb);clear hb))
 rw [fh rfl HL.out]
 generalize hw:World.alloc _ _=w2
 have S2:Hid (Lo [] w [(w1.heap.size,ab p)] w2):=Lib.hid (by rw [← hw];exact S.out.alloc _ rfl (ab p) _)
 have HSZ:Hid (w.heap.size≤w2.heap.size):=Lib.hid S2.out.only.size
 clear hw S
 have HBS:Hid (Calls Tryz.prog 199 #[.int .i64 bit,.bool on1,.slice (some ⟨w1.heap.size,0,none⟩) 1 1] w2 fun e w'=>∃ v,e=.returned v∧pK w' w2.heap.size v 1 q∧Below w2.heap.size w2 w'):=Lib.hid (by
  have:=yn bit on1 (some ⟨w1.heap.size,0,none⟩) 1 1 p w2 (iw (S2.out.aK 0 rfl HL.out) (S2.out.lt 0 _ rfl)) (by omega)
  rw [HQE.out] at this
  exact this)
 go_wp2_with (first
  | (go_at_call 199;(with_reducible refine HBS.out.mono ?_);rintro e w3 ⟨v,rfl,ho,hb⟩;obtain ⟨g,c,rfl,hg1,hg2,hgr⟩:=BJ ho;have S3:=Lib.hid (S2.out.below hb);have HGR:=Lib.hid hgr;clear ho hb hgr)
  | (with_reducible refine wpList_load_mid rfl 87 (.tmp 17) rfl g 0 rfl (ab q) _ HGR.out Tryz.underlying87 rfl (by rw [aY,aj,HQ.out]) ?_)
  | (go_at_call 121;refine (HE.out _ _ S3.out).mono ?_;rintro e w1 (⟨rfl,hR⟩ | ⟨rfl,hR⟩);(exact ⟨rfl,hR⟩)))
 go_end0
 exact hR
end

section
open Dk (av aa)
open Go.RowKit
open Ii (Ino)
theorem Dl (p i:Int) (x:Ino) (w:World) (h:Pl.aA p i=false):
  Calls Tryz.prog 110 #[bH x,bz p i] w fun e w'=>e=.returned (.bool false)∧Below w.heap.size w w':=by
 have HR:Hid (∀ w,Calls Tryz.prog 105 #[.agg #[.int .i64 p,.int .i64 i]] w fun e w'=>e=.returned (.int .i64 0)∧Below w.heap.size w w'):=Lib.hid (fun w=>Cd p i w h)
 have HS:=Lib.hid (oK w x (bc p i) 103 132)
 clear h
 unfold bH bz
 go_enter Tryz.func110,Tryz.ntmps110
 go_wp2_with fail
 generalize hw:(w.alloc _).alloc _=w1
 have S:Hid (NrS w x (bc p i) w1):=Lib.hid (by rw [← hw];exact HS.out)
 clear hw HS
 go_wp2_with (first
  | (with_reducible refine af fc S.out.gR rfl rfl (.tmp 3) rfl rfl ?_)
  | (go_at_call 105;(with_reducible refine (HR.out _).mono ?_);rintro e w' ⟨rfl,hb⟩;replace S:=Lib.hid (S.out.call hb);clear hb))
 go_ret
 exact ⟨rfl,S.out.below⟩
theorem wj (p i:Int) (x:Ino) (w:World) (h:Pl.aA p i=true) (hk:x.k=0):
  Calls Tryz.prog 110 #[bH x,bz p i] w fun e w'=>e=.returned (.bool (Ii.iZ x))∧Below w.heap.size w w':=by
 obtain ⟨r1,r2,r3,r4⟩:=Pl.aW h
 have HR:Hid (∀ w,Calls Tryz.prog 105 #[.agg #[.int .i64 p,.int .i64 i]] w fun e w'=>e=.returned (.int .i64 (p - Pl.aS i))∧Below w.heap.size w w'):=Lib.hid (fun w=>gS p i w h)
 have HS:=Lib.hid (oK w x (bc p i) 103 132)
 have g0:((p - Pl.aS i) == 0)=false:=by rw [beq_eq_false_iff_ne];omega
 have g1:(x.k == 0)=true:=by simpa using hk
 have E1:∀ (a b:Operand) (w:World),(eqGuard .eql 103 a b (.agg (aH x).toArray) (.agg #[.int .i64 0,.int .i64 0,.int .i64 0,.int .i64 0,.int .i64 0,.int .i64 0,.int .i64 0,.int .i64 0,.int .i64 0,.int .i64 0,.int .i64 0])).run Tryz.prog w=.ok () w:=fun a b w=>og w a b x Ii.zero
 have E2:∀ (w:World),(binOp .eql 103 (.agg (aH x).toArray) (.agg #[.int .i64 0,.int .i64 0,.int .i64 0,.int .i64 0,.int .i64 0,.int .i64 0,.int .i64 0,.int .i64 0,.int .i64 0,.int .i64 0,.int .i64 0])).run Tryz.prog w=.ok (.bool (Ii.iZ x)) w:=fun w=>tm w x
 clear h hk r1 r2 r3 r4
 generalize p - Pl.aS i=r at HR g0
 unfold bH bz
 go_enter Tryz.func110,Tryz.ntmps110
 go_wp2_with fail
 generalize hw:(w.alloc _).alloc _=w1
 have S:Hid (NrS w x (bc p i) w1):=Lib.hid (by rw [← hw];exact HS.out)
 clear hw HS
 go_wp2_with (first
  | (with_reducible refine af fc S.out.gR rfl rfl (.tmp 3) rfl rfl ?_)
  | (with_reducible refine af cz S.out.ino rfl rfl (.tmp 2) rfl rfl ?_)
  | (go_at_call 105;(with_reducible refine (HR.out _).mono ?_);rintro e w' ⟨rfl,hb⟩;replace S:=Lib.hid (S.out.call hb);have hc0:=S.out.ino.cell 0 _ rfl;clear hb))
 go_ret
 exact ⟨rfl,S.out.below⟩
theorem wk (p i:Int) (x:Ino) (w:World) (h:Pl.aA p i=true) (hk:x.k=1∨x.k=2∨x.k=3):
  Calls Tryz.prog 110 #[bH x,bz p i] w fun e w'=>e=.returned (.bool (Ii.JZ x && Ii.rN p i x))∧Below w.heap.size w w':=by
 obtain ⟨r1,r2,r3,r4⟩:=Pl.aW h
 have HR:Hid (∀ w,Calls Tryz.prog 105 #[.agg #[.int .i64 p,.int .i64 i]] w fun e w'=>e=.returned (.int .i64 (p - Pl.aS i))∧Below w.heap.size w w'):=Lib.hid (fun w=>gS p i w h)
 have HC:Hid (∀ w,Calls Tryz.prog 165 #[.agg (aH x).toArray] w fun e w'=>e=.returned (.bool (Ii.JZ x))∧Below w.heap.size w w'):=Lib.hid (fun w=>An x w)
 have HN:Hid (∀ w,Calls Tryz.prog 166 #[.agg #[.int .i64 x.k,.int .i64 x.p,.int .i64 x.u,.int .i64 x.l,.int .i64 x.s,.int .i64 x.a,.int .i64 x.b,.int .i64 x.c,.int .i64 x.d,.int .i64 x.e,.int .i64 x.f],.agg #[.int .i64 p,.int .i64 i]] w fun e w'=>e=.returned (.bool (Ii.rN p i x))∧Below w.heap.size w w'):=Lib.hid (fun w=>vQ p i x w h)
 have HS:=Lib.hid (oK w x (bc p i) 103 132)
 have g0:((p - Pl.aS i) == 0)=false:=by rw [beq_eq_false_iff_ne];omega
 have gk:(x.k == 0)=false:=by rw [beq_eq_false_iff_ne];omega
 have hk:(x.k == 1)=true∨((x.k == 1)=false∧(x.k == 2)=true)∨((x.k == 1)=false∧(x.k == 2)=false∧(x.k == 3)=true):=by
  simp only [beq_eq_false_iff_ne,beq_iff_eq]
  omega
 clear h r1 r2 r3 r4
 generalize p - Pl.aS i=r at HR g0
 obtain ⟨b2,HE2⟩:∃ b,Hid (b=Ii.rN p i x):=⟨_,Lib.hid rfl⟩
 rw [← HE2.out] at HN ⊢
 clear HE2
 cases hb1:Ii.JZ x
 all_goals
  rw [hb1] at HC
  simp only [Bool.false_and,Bool.true_and]
  clear hb1
  unfold bH bz
  rcases hk with g1 | ⟨g1,g2⟩ | ⟨g1,g2,g3⟩
 all_goals
  go_enter Tryz.func110,Tryz.ntmps110
  go_wp2_with fail
  generalize hw:(w.alloc _).alloc _=w1
  have S:Hid (NrS w x (bc p i) w1):=Lib.hid (by rw [← hw];exact HS.out)
  clear hw HS
  go_wp2_with (first
   | (with_reducible refine af fc S.out.gR rfl rfl (.tmp 3) rfl rfl ?_)
   | (with_reducible refine af cz S.out.ino rfl rfl (.tmp 2) rfl rfl ?_)
   | (go_at_call 105;(with_reducible refine (HR.out _).mono ?_);rintro e w' ⟨rfl,hb⟩;replace S:=Lib.hid (S.out.call hb);have hc0:=S.out.ino.cell 0 _ rfl;clear hb)
   | (go_at_call 165;(with_reducible refine (HC.out _).mono ?_);rintro e w' ⟨rfl,hb⟩;clear hc0;replace S:=Lib.hid (S.out.call hb);clear hb;have i0:=S.out.ino.cell 0 _ rfl;have i1:=S.out.ino.cell 1 _ rfl;have i2:=S.out.ino.cell 2 _ rfl;have i3:=S.out.ino.cell 3 _ rfl;have i4:=S.out.ino.cell 4 _ rfl;have i5:=S.out.ino.cell 5 _ rfl;have i6:=S.out.ino.cell 6 _ rfl;have i7:=S.out.ino.cell 7 _ rfl;have i8:=S.out.ino.cell 8 _ rfl;have i9:=S.out.ino.cell 9 _ rfl;have i10:=S.out.ino.cell 10 _ rfl;have j0:=S.out.gR.cell 0 _ rfl;have j1:=S.out.gR.cell 1 _ rfl)
   | (go_at_call 166;(with_reducible refine (HN.out _).mono ?_);rintro e w' ⟨rfl,hb⟩;clear i0 i1 i2 i3 i4 i5 i6 i7 i8 i9 i10 j0 j1;replace S:=Lib.hid (S.out.call hb);clear hb))
  go_ret
  exact ⟨rfl,S.out.below⟩
theorem wm (p i:Int) (x:Ino) (w:World) (h:Pl.aA p i=true) (hk:x.k<0∨3<x.k):
  Calls Tryz.prog 110 #[bH x,bz p i] w fun e w'=>e=.returned (.bool false)∧Below w.heap.size w w':=by
 obtain ⟨r1,r2,r3,r4⟩:=Pl.aW h
 have HR:Hid (∀ w,Calls Tryz.prog 105 #[.agg #[.int .i64 p,.int .i64 i]] w fun e w'=>e=.returned (.int .i64 (p - Pl.aS i))∧Below w.heap.size w w'):=Lib.hid (fun w=>gS p i w h)
 have HS:=Lib.hid (oK w x (bc p i) 103 132)
 have g0:((p - Pl.aS i) == 0)=false:=by rw [beq_eq_false_iff_ne];omega
 have gk:(x.k == 0)=false:=by rw [beq_eq_false_iff_ne];omega
 have g1:(x.k == 1)=false:=by rw [beq_eq_false_iff_ne];omega
 have g2:(x.k == 2)=false:=by rw [beq_eq_false_iff_ne];omega
 have g3:(x.k == 3)=false:=by rw [beq_eq_false_iff_ne];omega
 clear h r1 r2 r3 r4 hk
 generalize p - Pl.aS i=r at HR g0
 unfold bH bz
 go_enter Tryz.func110,Tryz.ntmps110
 go_wp2_with fail
 generalize hw:(w.alloc _).alloc _=w1
 have S:Hid (NrS w x (bc p i) w1):=Lib.hid (by rw [← hw];exact HS.out)
 clear hw HS
 go_wp2_with (first
  | (with_reducible refine af fc S.out.gR rfl rfl (.tmp 3) rfl rfl ?_)
  | (go_at_call 105;(with_reducible refine (HR.out _).mono ?_);rintro e w' ⟨rfl,hb⟩;replace S:=Lib.hid (S.out.call hb);have hc0:=S.out.ino.cell 0 _ rfl;clear hb))
 go_ret
 exact ⟨rfl,S.out.below⟩
theorem qI (p i:Int) (x:Ino) (w:World):
  Calls Tryz.prog 110 #[bH x,bz p i] w fun e w'=>e=.returned (.bool (Ii.kd p i x))∧Below w.heap.size w w':=by
 unfold Ii.kd Ii.inB
 cases h:Pl.aA p i with
 | false=>exact Dl p i x w h
 |
  true=>
  rw [Bool.true_and]
  by_cases k0:x.k=0
  ·rw [if_pos k0];exact wj p i x w h k0
  ·rw [if_neg k0]
   by_cases k1:1≤x.k∧x.k≤3
   ·rw [decide_eq_true k1,Bool.true_and];exact wk p i x w h (by omega)
   ·rw [decide_eq_false k1,Bool.false_and];exact wm p i x w h (by omega)
end
end Go.Proofs.YtagfoogfpabdfaaGreat
