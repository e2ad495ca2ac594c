/- Texts of the proof. -/
import Derived.Test.YtmpfcgjjejlhdaaGreatBaj
import Derived.Test.YtmpfcgjjejlhdaaGreatBaa
import Derived.Test.YtmpfcgjjejlhdaaGreatBaf
import Derived.Deep.Slices
import Derived.Deep.AppendLies
import Derived.Laws.OwnMore
import Derived.Laws.AppendOwnNone
import Derived.ProofKit
import Derived.OpenShut
import Derived.ChangeOld
import Derived.BigQuiet
import Derived.BigRegion
import Derived.Lib.SliceRun
import Derived.Test.YtmpfcgjjejlhdaaGreatBac
import Derived.Test.YtmpfcgjjejlhdaaGreatBai
set_option maxRecDepth 100000
set_option maxHeartbeats 16000000
namespace Go.Proofs.YtmpfcgjjejlhdaaGreat
section
open Go.RowKit Go.Maps
open Dk (zeros zeros_length)
open Ii (Ino)
structure Stp {α : Type} (R : Ending → World → Prop) (B : Nat) (b : Blk) (n I : Int) (Ls : List Nat) (w0 : World) (K : α → Ending → World → Prop) (l : List (Nat × List Value)) (s : Sto) (m : Fs.M α) (w : World) : Prop where
  lo : Lo (b.t :: Ls) w0 l w
  ctx : Ctx w B b s n I
  low : ∀ k ∈ B :: b.all, k < w0.heap.size
  left : ∀ e w', Ends B b n I Ls w0 s m K e w' → R e w'
section
variable {α β : Type} {R : Ending → World → Prop} {B : Nat} {b : Blk} {n I : Int} {Ls : List Nat} {w0 w w' : World} {K : α → Ending → World → Prop} {l : List (Nat × List Value)} {s : Sto} {m : Fs.M α}
theorem Blk.t_mem (b : Blk) : b.t ∈ b.all := by simp [Blk.all]
theorem Stp.start (h : Ctx w B b s n I) (hL : ∀ k ∈ Ls, k < w.heap.size) (H : Hid (∀ e w', Ends B b n I Ls w s m K e w' → R e w')) : Stp R B b n I Ls w K [] s m w :=
  ⟨Lo.start w (fun k hk => by
    rcases List.mem_cons.1 hk with rfl | hk
    · exact h.store.lt _ b.t_mem
    · exact hL k hk), h, fun k hk => by
    rcases List.mem_cons.1 hk with rfl | hk
    · exact h.lt
    · exact h.store.lt k hk, H.out⟩
theorem Stp.below (h : Stp R B b n I Ls w0 K l s m w) (hb : Below w.heap.size w w') : Stp R B b n I Ls w0 K l s m w' := ⟨h.lo.below hb, h.ctx.below hb, h.low, h.left⟩
theorem Stp.drew (h : Stp R B b n I Ls w0 K l s m w) : Stp R B b n I Ls w0 K l s m w.drew := h.below ((Below.refl _ _).drew)
theorem Stp.made {vs : List Value} (h : Stp R B b n I Ls w0 K l s m w) (hR : RowAt w' w.heap.size vs) (hb : Below w.heap.size w w') (hz : w'.heap.size = w.heap.size + 1) : Stp R B b n I Ls w0 K (l ++ [(w.heap.size, vs)]) s m w' :=
  ⟨h.lo.made hR hb hz, h.ctx.below hb, h.low, h.left⟩
theorem below_alloc (w : World) (o : Obj) : Below w.heap.size w (w.alloc o) := (Below.refl _ w).alloc (Nat.le_refl _) o
theorem Stp.alloc (h : Stp R B b n I Ls w0 K l s m w) (X : Nat) (hX : w.heap.size = X) (vs : List Value) (t : TypeId) : Stp R B b n I Ls w0 K (l ++ [(X, vs)]) s m (w.alloc (.cells vs.toArray t)) :=
  ⟨h.lo.alloc X hX vs t, h.ctx.below (below_alloc _ _), h.low, h.left⟩
theorem Stp.cut (h : Stp R B b n I Ls w0 K l s m w) (k : Nat) : Stp R B b n I Ls w0 K (l.take k) s m w := ⟨h.lo.cut k, h.ctx, h.low, h.left⟩
theorem Stp.get (h : Stp R B b n I Ls w0 K l s m w) (k : Nat) (x : Nat × List Value) (hx : l[k]? = some x) : RowAt w x.1 x.2 := h.lo.get k x hx
theorem Stp.lower (h : Stp R B b n I Ls w0 K l s m w) {x : Nat × List Value} (hx : x ∈ l) : x.1 ≠ B ∧ x.1 ∉ b.all := by
  have h1 := (h.lo.row x hx).2.1
  refine ⟨fun q => ?_, fun q => ?_⟩
  · have := h.low B (by simp); omega
  · have := h.low x.1 (List.mem_cons_of_mem _ q); omega
theorem Stp.put (h : Stp R B b n I Ls w0 K l s m w) (k : Nat) (x : Nat × List Value) (hx : l[k]? = some x) (us : List Value) (hl : us.length = x.2.length) : Stp R B b n I Ls w0 K (l.set k (x.1, us)) s m (w.setCells x.1 0 us) := by
  obtain ⟨h1, h2⟩ := h.lower (List.mem_of_getElem? hx)
  refine ⟨h.lo.put k x hx us hl, h.ctx.only ((Only.refl [x.1] w).setCells x.1 (by simp) us 0 w) ?_ ?_, h.low, h.left⟩
  · simp; exact fun q => h1 q.symm
  · intro i hi q
    simp at q
    subst q
    exact h2 hi
theorem Stp.row (h : Stp R B b n I Ls w0 K l s m w) : RowAt w B (stepL b.s n I true 0) := h.ctx.step
theorem Stp.cell0 (h : Stp R B b n I Ls w0 K l s m w) : w.cell? ⟨B, 0, none⟩ = some (.pointer (some ⟨b.s, 0, none⟩)) := h.ctx.step.cell 0 _ rfl
theorem Stp.of {m' : Fs.M α} (h : Stp R B b n I Ls w0 K l s m w) (e : m (nv s) = m' (nv s)) : Stp R B b n I Ls w0 K l s m' w :=
  ⟨h.lo, h.ctx, h.low, fun e' w' hE => h.left e' w' (by
    unfold Ends Fails at hE ⊢
    rw [e]; exact hE)⟩
theorem Stp.saw {γ : Type} {f : Fs.View → γ} {g : γ → Fs.M α} (h : Stp R B b n I Ls w0 K l s (Fs.andThen (Fs.see f) g) w) : Stp R B b n I Ls w0 K l s (g (f (nv s))) w :=
  h.of (by rw [Fs.andThen_ok (show Fs.see f (nv s) = (.ok (f (nv s)), nv s, []) from rfl)]; rfl)
theorem Stp.only (h : Stp R B b n I Ls w0 K l s m w) {L' : List Nat} (ho : Only L' w w') (hL : ∀ k ∈ L', k ∈ B :: b.t :: Ls ∨ w0.heap.size ≤ k) : Only (B :: b.t :: Ls) w0 w' :=
  (h.lo.only.mono (fun _k hk => List.mem_cons_of_mem _ hk)).via ho hL
theorem Stp.bind {γ : Type} {m1 : Fs.M γ} {f : γ → Fs.M α} {K1 : γ → Ending → World → Prop} {e : Ending} (h : Stp R B b n I Ls w0 K l s (Fs.andThen m1 f) w) (hE : Ends B b n I [] w s m1 K1 e w') :
    (e = .panicked [failE B] ∧ R (.panicked [failE B]) w') ∨ ∃ a s' L, m1 (nv s) = (.ok a, nv s', L) ∧ K1 a e w' ∧ Stp R B b n I Ls w0 K l s' (f a) w' := by
  rcases hE with ⟨a, s', L, E, G, C, hK, O⟩ | ⟨er, F, h0, Br, rfl, O⟩
  · exact Or.inr ⟨a, s', L, E, hK, h.lo.call O (fun k hk => by
      rw [List.mem_singleton] at hk
      subst hk
      exact List.mem_cons_self ..), C, h.low, fun e' w'' hE => h.left e' w'' (hE.next E G)⟩
  · exact Or.inl ⟨rfl, h.left _ _ (Ends.broke F h0 Br (h.only O (fun k hk => Or.inl (by
      simp only [List.mem_cons, List.not_mem_nil, or_false] at hk ⊢
      rcases hk with rfl | rfl
      · exact Or.inl rfl
      · exact Or.inr (Or.inl rfl)))))⟩
theorem Stp.bindO {γ : Type} {m1 : Fs.M γ} {f : γ → Fs.M α} {K1 : γ → Ending → World → Prop} {e : Ending} (h : Stp R B b n I Ls w0 K l s (Fs.andThen m1 f) w) (hE : Ends B b n I [] w s m1 K1 e w') :
    (e = .panicked [failE B] ∧ R (.panicked [failE B]) w') ∨ ∃ a s' L, m1 (nv s) = (.ok a, nv s', L) ∧ K1 a e w' ∧ Stp R B b n I Ls w0 K l s' (f a) w' ∧ Only [b.t] w w' := by
  have hh := h.bind hE
  rcases hE with ⟨a, s', L, E, G, C, hK, O⟩ | ⟨er, F, h0, Br, rfl, O⟩
  · refine Or.inr ⟨a, s', L, E, hK, ⟨h.lo.call O (fun k hk => by
      rw [List.mem_singleton] at hk
      subst hk
      exact List.mem_cons_self ..), C, h.low, fun e' w'' hE => h.left e' w'' (hE.next E G)⟩, O⟩
  · rcases hh with ⟨h1, h2⟩ | ⟨a, s', L, E, hK, _⟩
    · exact Or.inl ⟨h1, h2⟩
    · exact Or.inl ⟨rfl, h.left _ _ (Ends.broke F h0 Br (h.only O (fun k hk => Or.inl (by
        simp only [List.mem_cons, List.not_mem_nil, or_false] at hk ⊢
        rcases hk with rfl | rfl
        · exact Or.inl rfl
        · exact Or.inr (Or.inl rfl)))))⟩
theorem Stp.setX (h : Stp R B b n I Ls w0 K l s m w) {X : Nat} (hX : X ∈ Ls) (hB : X ≠ B) (hb : X ∉ b.all) (k : Nat) (v : Value) (hl : ∀ x ∈ l, x.1 ≠ X) : Stp R B b n I Ls w0 K l s m (w.setCell ⟨X, k, none⟩ v) := by
  have ho : Only [X] w (w.setCell ⟨X, k, none⟩ v) := (Only.refl [X] w).setCell (by simp) v
  refine ⟨h.lo.call ho (fun i hi => by rw [List.mem_singleton] at hi; subst hi; exact List.mem_cons_of_mem _ hX), h.ctx.only ho (by simpa using fun q => hB q.symm) (fun i hi q => by simp at q; subst q; exact hb hi), h.low, h.left⟩
theorem Stp.fails (h : Stp R B b n I Ls w0 K l s m w) {er : Int} (F : Fails s m er) (h0 : er ≠ 0) (Br : Broke w' B b s n I er) (O : Only [B] w w') : R (.panicked [failE B]) w' :=
  h.left _ _ (Or.inr ⟨er, F, h0, Br, rfl, h.only O (fun k hk => Or.inl (by rw [List.mem_singleton] at hk; subst hk; simp))⟩)
theorem Stp.done {a : α} {e : Ending} (h : Stp R B b n I Ls w0 K l s (Fs.ret a) w) (hK : K a e w) : R e w := h.left _ _ (Ends.done h.ctx hK h.lo.only)
theorem Stp.last {K1 : α → Ending → World → Prop} {e : Ending} (h : Stp R B b n I Ls w0 K l s m w) (hE : Ends B b n I [] w s m K1 e w') : (e = .panicked [failE B] ∧ R (.panicked [failE B]) w') ∨ ∃ a s' L, m (nv s) = (.ok a, nv s', L) ∧ K1 a e w' ∧ Stp R B b n I Ls w0 K l s' (Fs.ret a) w' :=
  Stp.bind (m1 := m) (f := Fs.ret) ⟨h.lo, h.ctx, h.low, fun e' w'' hE' => h.left e' w'' (by rw [Fs.andThen_ret] at hE'; exact hE')⟩ hE
theorem Fails.err {m : Fs.M α} {er : Int} {V : Fs.View} {L : List Nat} (h : m (nv s) = (.error er, V, L)) : Fails s m er := Or.inl ⟨V, L, h⟩
end
theorem gives_all {P : Program} {m : Sem Next} {f : FuncId} {args : Array Value} {S : World → Prop} {R : Value → World → Prop} {Bp : List PanicEntry → World → Prop} (h1 : ∀ w, m.run P w = .ok (.enter f args) w)
    (h2 : ∀ w, S w → Calls P f args w fun e w'' => (∃ u, e = .returned u ∧ R u w'') ∨ (∃ ch, e = .panicked ch ∧ Bp ch w'')) : ∀ w, S w → GivesP P m w R Bp := fun w hS => givesP_call (h1 w) (h2 w hS)
def SO {σ : Type} (S : σ → World → Prop) : Option σ → World → Prop
  | none, _ => False
  | some k, W => S k W
theorem SO.all {σ : Type} {S : σ → World → Prop} {C : World → Prop} (h : ∀ k W, S k W → C W) : ∀ k W, SO S k W → C W
  | none, _, hS => hS.elim
  | some k, W, hS => h k W hS
theorem zero_box (w : World) : Lo [] w [(w.heap.size, byteVals zeros)] (w.alloc (.cells zeroCells 97)) :=
  (Lo.start w (by simp)).alloc _ rfl (byteVals zeros) _
theorem spage_any {w : World} {B : Nat} {b : Blk} {s : Sto} {n I : Int} (h : Ctx w B b s n I) (at1 : Int) (ha : okP n at1) : Calls Tryz.prog 83 #[.pointer (some ⟨B, 0, none⟩), .int .i64 at1] w fun e w' => e = .returned (pageV (nv s at1.toNat)) ∧ Below w.heap.size w w' := by
  have S0 := Lib.hid (zero_box w)
  obtain ⟨r1, r2, r3⟩ := h.vs.read ha
  have HR : Hid (∀ W l, Lo [] w l W → Calls Tryz.prog 75 #[.pointer (some ⟨b.s, 0, none⟩), .int .i64 at1] W fun e w' => e = .returned (.tuple #[pageV (nv s at1.toNat), .int .i64 0]) ∧ Below W.heap.size W w') := Lib.hid (fun W l hl => by
    have := sread_any (hl.store h.store) at1
    rw [r1, r2] at this
    exact this)
  have HL := Lib.hid r3
  have c0 : ∀ o, (w.alloc o).cell? ⟨B, 0, none⟩ = some (.pointer (some ⟨b.s, 0, none⟩)) := fun o => (h.step.alloc o).cell 0 _ rfl
  clear h ha r1 r2 r3
  generalize nv s at1.toNat = p at HR HL ⊢
  go_enter Tryz.func83, Tryz.ntmps83
  go_wp2_with fail
  rw [← zeroCells_def]
  generalize hw : World.alloc _ _ = w1
  have S : Hid (Lo [] w [(w.heap.size, byteVals zeros)] w1) := Lib.hid (by rw [← hw]; exact S0.out)
  clear hw S0 c0
  go_wp2_with (first
    | (go_at_call 75; refine (HR.out _ _ S.out).mono ?_; rintro e w2 ⟨rfl, hb⟩; replace S := Lib.hid (S.out.below hb); clear hb)
    | ((with_reducible refine wpList_store_new rfl (.tmp 5) (.tmp 15) rfl rfl ?_ ?_ HL.out ?_); (exact rfl); (exact rfl); intro W2 hP hB2 hz2; replace S := Lib.hid (S.out.made hP.rowAt hB2 hz2); clear hP hB2 hz2)
    | (go_at_call 81; (with_reducible refine (must_ok _).mono ?_); rintro e w3 ⟨rfl, rfl⟩)
    | (with_reducible refine wpList_load_page (S.out.page 1 rfl HL.out) rfl (.tmp 5) rfl rfl ?_)
    | ((with_reducible refine wpList_store_page (S.out.page 0 rfl zeros_length) HL.out rfl (.tmp 4) (.tmp 20) rfl rfl ?_ ?_); (exact rfl)))
  have S2 := Lib.hid (S.out.putP 0 rfl zeros_length p HL.out)
  exact bodyPost_ret (results_page _ 4 rfl _ (S2.out.page 0 rfl HL.out) rfl) rfl ⟨rfl, S2.out.bel⟩
end

section
open Go.RowKit Go.Maps
open Dk (zeros zeros_length)
open Ii (Ino)
theorem put_box (w : World) {p : List UInt8} : Lo [] w [(w.heap.size, byteVals p)] (w.alloc (.cells (byteVals p).toArray 97)) :=
  (Lo.start w (by simp)).alloc _ rfl (byteVals p) _
def StpPut (w : World) (b : Blk) (s s' : Sto) (p : List UInt8) (k : Bool) (W : World) : Prop := Lo [b.t] w [(w.heap.size, byteVals p)] W ∧ StoreAt W b (if k = true then s' else s)
theorem StpPut.cell {w W : World} {B : Nat} {b : Blk} {s s' s'' : Sto} {p : List UInt8} {k : Bool} {n I : Int} (h : StpPut w b s s' p k W) (c : Ctx w B b s'' n I) : W.cell? ⟨B, 0, none⟩ = some (.pointer (some ⟨b.s, 0, none⟩)) :=
  (c.step.block (h.1.only.block B c.lt (by simp; exact fun q => c.nb (q ▸ b.t_mem)))).cell 0 _ rfl
theorem sput_step {w : World} {B : Nat} {b : Blk} {s : Sto} {n I : Int} (h : Ctx w B b s n I) (at1 : Int) (p : List UInt8) (ha : okP n at1) (hp : p.length = 64) : Calls Tryz.prog 66 #[.pointer (some ⟨B, 0, none⟩), .int .i64 at1, pageV p] w (Ends B b n I [] w s (Fs.wr at1.toNat p) fun _ e _ => e = .returned (.tuple #[])) := by
  refine calls_of fun R H => ?_
  have S0 := Lib.hid (put_box w (p := p))
  have HL := Lib.hid hp
  have HC : Hid (∀ s1 s2 k W, StpPut w b s1 s2 p k W → W.cell? ⟨B, 0, none⟩ = some (.pointer (some ⟨b.s, 0, none⟩))) := Lib.hid (fun s1 s2 k W hS => hS.cell h)
  have HT := Lib.hid (h.store.lt _ b.t_mem)
  rcases h.vs.put (p := p) ha hp with ⟨e1, e2, e3, e4⟩ | ⟨e1, e2, e3⟩
  · have HP : Hid (∀ W, StpPut w b s (sput s at1 p) p false W → Calls Tryz.prog 76 #[.pointer (some ⟨b.s, 0, none⟩), .int .i64 at1, pageV p] W fun e w' => e = .returned (.int .i64 0) ∧ StpPut w b s (sput s at1 p) p true w') := Lib.hid (fun W hS => by
      have := sput_any (show StoreAt W b s from hS.2) at1 p hp
      rw [e1] at this
      exact this.mono (fun e w' hh => ⟨hh.1, hS.1.call hh.2.2 (fun k hk => hk), hh.2.1⟩))
    have HE : Hid (∀ W, StpPut w b s (sput s at1 p) p true W → R (.returned (.tuple #[])) W) := Lib.hid (fun W hS => H.out _ _ (by
      refine Or.inl ⟨(), _, _, ?_, e3, ⟨h.step.block (hS.1.only.block B h.lt (by simp; exact fun q => h.nb (q ▸ b.t_mem))), hS.2, e4, h.nb⟩, rfl, hS.1.only⟩
      rw [e2]; rfl))
    have hst := Lib.hid h.store
    clear h ha e1 e2 e3 e4 H
    go_enter Tryz.func66, Tryz.ntmps66
    go_wp2_with fail
    rename_i cs hcs
    obtain rfl : cs = (byteVals p).toArray := by unfold pageV at hcs; injection hcs with hcs; exact hcs.symm
    clear hcs
    generalize hw : World.alloc _ _ = w1
    have S : Hid (StpPut w b s (sput s at1 p) p false w1) := Lib.hid ⟨by
      rw [← hw]
      have := S0.out
      exact ⟨this.row, this.ne, this.only.mono (by simp), by simpa using HT.out⟩, by rw [if_neg (by decide), ← hw]; exact hst.out.alloc _⟩
    clear hw S0 hst
    generalize sput s at1 p = s2 at HP HE S
    refine wp_region_linp (StpPut w b s s2 p) (fun _ _ => False) (fun i => i == 8) (fun i => [.pointer (some ⟨B, 0, none⟩), .pointer (some ⟨B, 0, none⟩), .pointer (some ⟨B, 0, none⟩), .pointer (some ⟨B, 0, none⟩), .pointer (some ⟨B, 0, none⟩), .pointer (some ⟨b.s, 0, none⟩), .int .i64 at1, pageV p, .int .i64 0, .tuple #[]].getD i undef) false (by kernel_rfl) (by kernel_rfl) (fun _ _ _ _ h => h.elim) ⟨S.out.1.drew, S.out.2.drew⟩ ?_
    refine linp_step (i := 0) (d := some 6) (v := (.pointer (some ⟨B, 0, none⟩))) rfl rfl (by kernel_rfl) (by kernel_rfl) rfl rfl (ord_value (by kernel_rfl) ?_) ?_
    · ((intro _ _ _; go_simp) <;> kernel_rfl)
    try simp only [Act.put, puA, puB, puC]
    refine linp_step (i := 1) (d := some 7) (v := (.pointer (some ⟨B, 0, none⟩))) rfl rfl (by kernel_rfl) (by kernel_rfl) rfl rfl (ord_value (by kernel_rfl) ?_) ?_
    · ((intro _ _ _; go_simp) <;> kernel_rfl)
    try simp only [Act.put, puA, puB, puC]
    refine linp_step (i := 2) (d := some 8) (v := (.pointer (some ⟨B, 0, none⟩))) rfl rfl (by kernel_rfl) (by kernel_rfl) rfl rfl (ord_value (by kernel_rfl) ?_) ?_
    · ((intro _ _ _; go_simp) <;> kernel_rfl)
    try simp only [Act.put, puA, puB, puC]
    refine linp_step (i := 3) (d := some 9) (v := (.pointer (some ⟨B, 0, none⟩))) rfl rfl (by kernel_rfl) (by kernel_rfl) rfl rfl (ord_value (by kernel_rfl) ?_) ?_
    · ((intro _ _ _; go_simp) <;> kernel_rfl)
    try simp only [Act.put, puA, puB, puC]
    refine linp_step (i := 4) (d := some 10) (v := (.pointer (some ⟨B, 0, none⟩))) rfl rfl (by kernel_rfl) (by kernel_rfl) rfl rfl (ord_value (by kernel_rfl) ?_) ?_
    · ((intro _ _ _; go_simp) <;> kernel_rfl)
    try simp only [Act.put, puA, puB, puC]
    refine linp_step (i := 5) (d := some 11) (v := (.pointer (some ⟨b.s, 0, none⟩))) rfl rfl (by kernel_rfl) (by kernel_rfl) rfl rfl (ord_value (by kernel_rfl) ?_) ?_
    · (intro sZ wZ hZ; have cZ := (fun k W hS => HC.out s s2 k W hS) sZ wZ hZ; go_simp)
    try simp only [Act.put, puA, puB, puC]
    refine linp_step (i := 6) (d := some 12) (v := (.int .i64 at1)) rfl rfl (by kernel_rfl) (by kernel_rfl) rfl rfl (ord_value (by kernel_rfl) ?_) ?_
    · ((intro _ _ _; go_simp) <;> kernel_rfl)
    try simp only [Act.put, puA, puB, puC]
    refine linp_step (i := 7) (d := some 13) (v := (pageV p)) rfl rfl (by kernel_rfl) (by kernel_rfl) rfl rfl (ord_page (by kernel_rfl) (.tmp 5) rfl rfl (fun k W hS => hS.1.page 0 rfl HL.out)) ?_
    try simp only [Act.put, puA, puB, puC]
    refine linp_turn (i := 8) (d := some 14) (fun u k => u = .int .i64 0 ∧ k = true) rfl rfl (by kernel_rfl) (by kernel_rfl) rfl (by kernel_rfl) ⟨_, _, rfl, rfl⟩ (by kernel_rfl) (gives_all (f := 76) (args := #[.pointer (some ⟨b.s, 0, none⟩), .int .i64 at1, pageV p]) ?_ (fun W hS => (HP.out W hS).mono fun e w' hh => Or.inl ⟨_, hh.1, true, ⟨rfl, rfl⟩, hh.2⟩)) ?_
    · (intro _; go_simp)
    rintro _ _ ⟨rfl, rfl⟩
    try simp only [Act.put, puA, puB, puC]
    refine linp_step (i := 9) (d := some 15) (v := (.tuple #[])) rfl rfl (by kernel_rfl) (by kernel_rfl) rfl rfl (ord_call (f := 81) (args := #[.pointer (some ⟨B, 0, none⟩), .int .i64 0]) (by kernel_rfl) ?_ (fun k W hS => (must_ok B).mono fun e w' hh => ⟨hh.1, hh.2 ▸ hS⟩)) ?_
    · (intro _; go_simp)
    try simp only [Act.put, puA, puB, puC]
    refine linp_done (by kernel_rfl) fun W hS => ?_
    go_wp2
    go_end0
    exact HE.out _ hS
  · have HP : Hid (∀ W, StpPut w b s s p false W → Calls Tryz.prog 76 #[.pointer (some ⟨b.s, 0, none⟩), .int .i64 at1, pageV p] W fun e w' => e = .returned (.int .i64 28) ∧ StpPut w b s s p true w') := Lib.hid (fun W hS => by
      have := sput_any (show StoreAt W b s from hS.2) at1 p hp
      rw [e1, e2] at this
      exact this.mono (fun e w' hh => ⟨hh.1, hS.1.call hh.2.2 (fun k hk => hk), hh.2.1⟩))
    have HE : Hid (∀ W, StpPut w b s s p true W → Calls Tryz.prog 81 #[.pointer (some ⟨B, 0, none⟩), .int .i64 28] W fun e w' => e = .panicked [failE B] ∧ R (.panicked [failE B]) w') := Lib.hid (fun W hS => by
      have C : Ctx W B b s n I := ⟨h.step.block (hS.1.only.block B h.lt (by simp; exact fun q => h.nb (q ▸ b.t_mem))), hS.2, h.vs, h.nb⟩
      refine (must_no C 28 (by decide)).mono fun e w' hh => ⟨hh.1, H.out _ _ (Or.inr ⟨28, Or.inr ⟨rfl, e3⟩, by decide, hh.2.1, rfl, ?_⟩)⟩
      exact (hS.1.only.mono (fun k hk => by simp at hk ⊢; exact Or.inr hk)).via hh.2.2 (fun i hi => Or.inl (by simp at hi ⊢; exact Or.inl hi)))
    have hst := Lib.hid h.store
    clear h ha e1 e2 e3 H
    go_enter Tryz.func66, Tryz.ntmps66
    go_wp2_with fail
    rename_i cs hcs
    obtain rfl : cs = (byteVals p).toArray := by unfold pageV at hcs; injection hcs with hcs; exact hcs.symm
    clear hcs
    generalize hw : World.alloc _ _ = w1
    have S : Hid (StpPut w b s s p false w1) := Lib.hid ⟨by
      rw [← hw]
      have := S0.out
      exact ⟨this.row, this.ne, this.only.mono (by simp), by simpa using HT.out⟩, by rw [if_neg (by decide), ← hw]; exact hst.out.alloc _⟩
    clear hw S0 hst
    refine wp_region_linp (SO (StpPut w b s s p)) (fun ch W => ch = [failE B] ∧ R (.panicked [failE B]) W) (fun i => i == 8 || i == 9) (fun i => [.pointer (some ⟨B, 0, none⟩), .pointer (some ⟨B, 0, none⟩), .pointer (some ⟨B, 0, none⟩), .pointer (some ⟨B, 0, none⟩), .pointer (some ⟨B, 0, none⟩), .pointer (some ⟨b.s, 0, none⟩), .int .i64 at1, pageV p].getD i undef) (some false) (by kernel_rfl) (by kernel_rfl) (fun ch a' W hd hh => ?_) ⟨S.out.1.drew, S.out.2.drew⟩ ?_
    · exact ⟨hd, by obtain ⟨rfl, hR⟩ := hh; exact hR⟩
    refine linp_step (i := 0) (d := some 6) (v := (.pointer (some ⟨B, 0, none⟩))) rfl rfl (by kernel_rfl) (by kernel_rfl) rfl rfl (ord_value (by kernel_rfl) ?_) ?_
    · ((intro _ _ _; go_simp) <;> kernel_rfl)
    try simp only [Act.put, puA, puB, puC]
    refine linp_step (i := 1) (d := some 7) (v := (.pointer (some ⟨B, 0, none⟩))) rfl rfl (by kernel_rfl) (by kernel_rfl) rfl rfl (ord_value (by kernel_rfl) ?_) ?_
    · ((intro _ _ _; go_simp) <;> kernel_rfl)
    try simp only [Act.put, puA, puB, puC]
    refine linp_step (i := 2) (d := some 8) (v := (.pointer (some ⟨B, 0, none⟩))) rfl rfl (by kernel_rfl) (by kernel_rfl) rfl rfl (ord_value (by kernel_rfl) ?_) ?_
    · ((intro _ _ _; go_simp) <;> kernel_rfl)
    try simp only [Act.put, puA, puB, puC]
    refine linp_step (i := 3) (d := some 9) (v := (.pointer (some ⟨B, 0, none⟩))) rfl rfl (by kernel_rfl) (by kernel_rfl) rfl rfl (ord_value (by kernel_rfl) ?_) ?_
    · ((intro _ _ _; go_simp) <;> kernel_rfl)
    try simp only [Act.put, puA, puB, puC]
    refine linp_step (i := 4) (d := some 10) (v := (.pointer (some ⟨B, 0, none⟩))) rfl rfl (by kernel_rfl) (by kernel_rfl) rfl rfl (ord_value (by kernel_rfl) ?_) ?_
    · ((intro _ _ _; go_simp) <;> kernel_rfl)
    try simp only [Act.put, puA, puB, puC]
    refine linp_step (i := 5) (d := some 11) (v := (.pointer (some ⟨b.s, 0, none⟩))) rfl rfl (by kernel_rfl) (by kernel_rfl) rfl rfl (ord_value (by kernel_rfl) ?_) ?_
    · (intro sZ wZ hZ; have cZ := (SO.all (fun k W hS => HC.out s s k W hS)) sZ wZ hZ; go_simp)
    try simp only [Act.put, puA, puB, puC]
    refine linp_step (i := 6) (d := some 12) (v := (.int .i64 at1)) rfl rfl (by kernel_rfl) (by kernel_rfl) rfl rfl (ord_value (by kernel_rfl) ?_) ?_
    · ((intro _ _ _; go_simp) <;> kernel_rfl)
    try simp only [Act.put, puA, puB, puC]
    refine linp_step (i := 7) (d := some 13) (v := (pageV p)) rfl rfl (by kernel_rfl) (by kernel_rfl) rfl rfl (ord_page (by kernel_rfl) (.tmp 5) rfl rfl (SO.all (fun k W hS => hS.1.page 0 rfl HL.out))) ?_
    try simp only [Act.put, puA, puB, puC]
    refine linp_turn (i := 8) (d := some 14) (fun u k => u = .int .i64 28 ∧ k = some true) rfl rfl (by kernel_rfl) (by kernel_rfl) rfl (by kernel_rfl) ⟨_, _, rfl, rfl⟩ (by kernel_rfl) (gives_all (f := 76) (args := #[.pointer (some ⟨b.s, 0, none⟩), .int .i64 at1, pageV p]) ?_ (fun W hS => (HP.out W hS).mono fun e w' hh => Or.inl ⟨_, hh.1, some true, ⟨rfl, rfl⟩, hh.2⟩)) ?_
    · (intro _; go_simp)
    rintro _ _ ⟨rfl, rfl⟩
    try simp only [Act.put, puA, puB, puC]
    refine linp_turn (i := 9) (d := some 15) (fun _ k => k = none) rfl rfl (by kernel_rfl) (by kernel_rfl) rfl (by kernel_rfl) ⟨undef, _, rfl⟩ (by kernel_rfl) (gives_all (f := 81) (args := #[.pointer (some ⟨B, 0, none⟩), .int .i64 28]) ?_ (fun W hS => (HE.out W hS).mono fun e w' hh => Or.inr ⟨_, hh.1, rfl, hh.2⟩)) ?_
    · (intro _; go_simp)
    rintro _ _ rfl
    exact linp_done (by kernel_rfl) fun W hS => hS.elim
end

section
open Go.RowKit Go.Maps
open Dk (zeros zeros_length)
open Ii (Ino)
section
variable {α : Type} {B : Nat} {b : Blk} {n I : Int} {Ls : List Nat} {w w1 w' : World} {K : α → Ending → World → Prop} {s : Sto} {e : Ending}
theorem Ends.told {f : Fs.View → Except Int α} {a : α} (E : f (nv s) = .ok a) (C : Ctx w B b s n I) (hb : Below w.heap.size w w') (hK : K a e w') : Ends B b n I Ls w s (Fs.tell f) K e w' :=
  Or.inl ⟨a, s, [], by unfold Fs.tell; rw [E], Goes.refl s, C.below hb, hK, Only.below hb⟩
theorem Ends.untold {f : Fs.View → Except Int α} {er : Int} (E : f (nv s) = .error er) (h0 : er ≠ 0) (hb : Below w.heap.size w w1) (Br : Broke w' B b s n I er) (O : Only [B] w1 w') : Ends B b n I Ls w s (Fs.tell f) K (.panicked [failE B]) w' :=
  Or.inr ⟨er, Or.inl ⟨nv s, [], by unfold Fs.tell; rw [E]⟩, h0, Br, rfl, (show Only (B :: b.t :: Ls) w w1 from Only.below hb).via O (fun i hi => Or.inl (by simp at hi ⊢; exact Or.inl hi))⟩
theorem Ends.later {m : Fs.M α} {w0 : World} (hl : Only (b.t :: Ls) w0 w) (h : Ends B b n I Ls w s m K e w') : Ends B b n I Ls w0 s m K e w' := by
  rcases h with ⟨a, s', L, E, G, C, hK, O⟩ | ⟨er, F, h0, Br, he, O⟩
  · exact Or.inl ⟨a, s', L, E, G, C, hK, hl.via O (fun i hi => Or.inl hi)⟩
  · exact Or.inr ⟨er, F, h0, Br, he, (hl.mono (fun k hk => List.mem_cons_of_mem _ hk)).via O (fun i hi => Or.inl hi)⟩
theorem Ends.same {m m' : Fs.M α} (hm : m (nv s) = m' (nv s)) (h : Ends B b n I Ls w s m' K e w') : Ends B b n I Ls w s m K e w' := by
  unfold Ends Fails at h ⊢
  rw [hm]; exact h
theorem Ends.unit {R : Ending → World → Prop} {m : Fs.M Unit} (H : Hid (∀ e w', Ends B b n I [] w s m (fun _ e _ => e = .returned (.tuple #[])) e w' → R e w')) (h : Ends B b n I [] w s m (fun _ e _ => e = .returned (.tuple #[])) e w') :
    (e = .panicked [failE B] ∧ R (.panicked [failE B]) w') ∨ (e = .returned (.tuple #[]) ∧ R (.returned (.tuple #[])) w') := by
  have hR := H.out e w' h
  rcases h with ⟨a, s', L, E, G, C, rfl, O⟩ | ⟨er, F, h0, Br, rfl, O⟩
  · exact Or.inr ⟨rfl, hR⟩
  · exact Or.inl ⟨rfl, hR⟩
end
theorem ino_box (w : World) : Lo [] w [(w.heap.size, inoL Ii.zero)] (w.alloc (.cells (inoL Ii.zero).toArray 47)) :=
  (Lo.start w (by simp)).alloc _ rfl (inoL Ii.zero) _
theorem smustTaken_any {w : World} {B : Nat} {b : Blk} {s : Sto} {n I : Int} (h : Ctx w B b s n I) (i : Int) : Calls Tryz.prog 63 #[.pointer (some ⟨B, 0, none⟩), .int .i64 i] w (Ends B b n I [] w s (Fs.tell (Fs.takenF I i)) fun x e _ => e = .returned (inoV x)) := by
  refine calls_of fun R H => ?_
  have S := Lib.hid (ino_box w)
  have HB : Hid (∀ W l, Lo [] w l W → W.rangeAt B 0 (baseL b.s n I)) := Lib.hid (fun W l hl => (Lo.ctx (L := []) hl h).step.base)
  have HC := Lib.hid h
  rcases taken_or I i (nv s) with hx | ⟨x, hx⟩
  · have HT : Hid (∀ W l, Lo [] w l W → Calls Tryz.prog 110 #[baseV b.s n I, .int .i64 i] W fun e w' => e = .returned (.tuple #[inoV Ii.zero, .int .i64 22]) ∧ Below W.heap.size W w') := Lib.hid (fun W l hl => btaken_no (hl.store h.store) h.vs i hx)
    have HM : Hid (∀ W l, Lo [] w l W → Calls Tryz.prog 81 #[.pointer (some ⟨B, 0, none⟩), .int .i64 22] W fun e w' => e = .panicked [failE B] ∧ R (.panicked [failE B]) w') := Lib.hid (fun W l hl => (must_no (Lo.ctx (L := []) hl h) 22 (by decide)).mono fun e w' hh => ⟨hh.1, H.out _ _ (Ends.untold hx (by decide) hl.bel hh.2.1 hh.2.2)⟩)
    clear h hx H
    go_enter Tryz.func63, Tryz.ntmps63
    go_wp2_with (first
      | (with_reducible refine wpList_load_base (HB.out _ _ S.out) rfl (.tmp 10) rfl rfl ?_)
      | (go_at_call 110; refine (HT.out _ _ S.out).mono ?_; rintro e w1 ⟨rfl, hb⟩; replace S := Lib.hid (S.out.below hb); clear hb)
      | ((with_reducible refine wpList_store_newrow (vs := inoL Ii.zero) inoT ?_ (inoL_one _) rfl (.tmp 5) (.tmp 14) rfl rfl ?_ ?_ ?_); (exact rfl); (exact rfl); (exact rfl); intro W4 hP hB2 hz2; replace S := Lib.hid (S.out.made hP hB2 hz2); clear hP hB2 hz2)
      | (go_at_call 81; refine (HM.out _ _ S.out).mono ?_; rintro e w1 ⟨rfl, hR⟩))
    exact ⟨rfl, hR⟩
  · have HT : Hid (∀ W l, Lo [] w l W → Calls Tryz.prog 110 #[baseV b.s n I, .int .i64 i] W fun e w' => e = .returned (.tuple #[inoV x, .int .i64 0]) ∧ Below W.heap.size W w') := Lib.hid (fun W l hl => btaken_yes (hl.store h.store) h.vs i hx)
    have HE : Hid (∀ W l, Lo [] w l W → R (.returned (inoV x)) W) := Lib.hid (fun W l hl => H.out _ _ (Ends.told hx h hl.bel rfl))
    clear h hx H
    go_enter Tryz.func63, Tryz.ntmps63
    go_wp2_with (first
      | (with_reducible refine wpList_load_base (HB.out _ _ S.out) rfl (.tmp 10) rfl rfl ?_)
      | (go_at_call 110; refine (HT.out _ _ S.out).mono ?_; rintro e w1 ⟨rfl, hb⟩; replace S := Lib.hid (S.out.below hb); clear hb)
      | ((with_reducible refine wpList_store_newrow (vs := inoL x) inoT ?_ (inoL_one _) rfl (.tmp 5) (.tmp 14) rfl rfl ?_ ?_ ?_); (exact rfl); (exact rfl); (exact rfl); intro W4 hP hB2 hz2; replace S := Lib.hid (S.out.made hP hB2 hz2); clear hP hB2 hz2)
      | (go_at_call 81; (with_reducible refine (must_ok _).mono ?_); rintro e w1 ⟨rfl, rfl⟩)
      | (with_reducible refine wpList_load_rw inoT (S.out.get 1 _ rfl) rfl rfl (.tmp 5) rfl rfl ?_)
      | ((with_reducible refine wpList_store_rw (vs := inoL x) inoT (S.out.get 0 _ rfl) ?_ ?_ (inoL_one _) rfl (.tmp 4) (.tmp 19) rfl ?_ ?_ ?_); (exact rfl); (exact rfl); (exact rfl); (exact rfl)))
    have S2 := Lib.hid (S.out.put 0 _ rfl (inoL x) rfl)
    exact bodyPost_ret (results_row1 inoT _ 4 rfl _ (S2.out.get 0 _ rfl) rfl rfl) rfl (HE.out _ _ S2.out)
theorem dat_box (w : World) : Lo [] w [(w.heap.size, byteVals zeros)] (w.alloc (.cells zeroCells 97)) :=
  (Lo.start w (by simp)).alloc _ rfl (byteVals zeros) _
theorem smustData_any {w : World} {B : Nat} {b : Blk} {s : Sto} {n I : Int} (h : Ctx w B b s n I) (m : Int) : Calls Tryz.prog 68 #[.pointer (some ⟨B, 0, none⟩), .int .i64 m] w (Ends B b n I [] w s (Fs.tell (Fs.dataF n I m)) fun p e _ => e = .returned (pageV p)) := by
  refine calls_of fun R H => ?_
  have S0 := Lib.hid (dat_box w)
  have HB : Hid (∀ W l, Lo [] w l W → W.rangeAt B 0 (baseL b.s n I)) := Lib.hid (fun W l hl => (Lo.ctx (L := []) hl h).step.base)
  have HD : Hid (∀ W l, Lo [] w l W → Calls Tryz.prog 116 #[baseV b.s n I, .int .i64 m] W fun e w' => e = .returned (exV pageV (pageV zeros) (Fs.dataF n I m (nv s))) ∧ Below W.heap.size W w') := Lib.hid (fun W l hl => bdata_any (hl.store h.store) h.vs m)
  cases hd : Fs.dataF n I m (nv s) with
  | error er =>
    obtain rfl := data_err hd
    rw [hd] at HD
    simp only [exV] at HD
    have HM : Hid (∀ W l, Lo [] w l W → Calls Tryz.prog 81 #[.pointer (some ⟨B, 0, none⟩), .int .i64 5] W fun e w' => e = .panicked [failE B] ∧ R (.panicked [failE B]) w') := Lib.hid (fun W l hl => (must_no (Lo.ctx (L := []) hl h) 5 (by decide)).mono fun e w' hh => ⟨hh.1, H.out _ _ (Ends.untold hd (by decide) hl.bel hh.2.1 hh.2.2)⟩)
    have c0 : ∀ o, (w.alloc o).rangeAt B 0 (baseL b.s n I) := fun o => ((h.step.alloc o).base)
    clear h hd H
    go_enter Tryz.func68, Tryz.ntmps68
    go_wp2_with (with_reducible refine wpList_load_base (c0 _) rfl (.tmp 10) rfl rfl ?_)
    rw [← zeroCells_def]
    generalize hw : World.alloc _ _ = w1
    have S : Hid (Lo [] w [(w.heap.size, byteVals zeros)] w1) := Lib.hid (by rw [← hw]; exact S0.out)
    clear hw S0 c0
    go_wp2_with (first
      | (go_at_call 116; refine (HD.out _ _ S.out).mono ?_; rintro e w1 ⟨rfl, hb⟩; replace S := Lib.hid (S.out.below hb); clear hb)
      | ((with_reducible refine wpList_store_new rfl (.tmp 5) (.tmp 14) rfl rfl ?_ ?_ zeros_length ?_); (exact rfl); (exact rfl); intro W2 hP hB2 hz2; replace S := Lib.hid (S.out.made hP.rowAt hB2 hz2); clear hP hB2 hz2)
      | (go_at_call 81; refine (HM.out _ _ S.out).mono ?_; rintro e w1 ⟨rfl, hR⟩))
    exact ⟨rfl, hR⟩
  | ok p =>
    have HL := Lib.hid (data_len h.vs hd)
    rw [hd] at HD
    simp only [exV] at HD
    have HE : Hid (∀ W l, Lo [] w l W → R (.returned (pageV p)) W) := Lib.hid (fun W l hl => H.out _ _ (Ends.told hd h hl.bel rfl))
    have c0 : ∀ o, (w.alloc o).rangeAt B 0 (baseL b.s n I) := fun o => ((h.step.alloc o).base)
    clear h hd H
    go_enter Tryz.func68, Tryz.ntmps68
    go_wp2_with (with_reducible refine wpList_load_base (c0 _) rfl (.tmp 10) rfl rfl ?_)
    rw [← zeroCells_def]
    generalize hw : World.alloc _ _ = w1
    have S : Hid (Lo [] w [(w.heap.size, byteVals zeros)] w1) := Lib.hid (by rw [← hw]; exact S0.out)
    clear hw S0 c0
    go_wp2_with (first
      | (go_at_call 116; refine (HD.out _ _ S.out).mono ?_; rintro e w1 ⟨rfl, hb⟩; replace S := Lib.hid (S.out.below hb); clear hb)
      | ((with_reducible refine wpList_store_new rfl (.tmp 5) (.tmp 14) rfl rfl ?_ ?_ HL.out ?_); (exact rfl); (exact rfl); intro W2 hP hB2 hz2; replace S := Lib.hid (S.out.made hP.rowAt hB2 hz2); clear hP hB2 hz2)
      | (go_at_call 81; (with_reducible refine (must_ok _).mono ?_); rintro e w1 ⟨rfl, rfl⟩)
      | (with_reducible refine wpList_load_page (S.out.page 1 rfl HL.out) rfl (.tmp 5) rfl rfl ?_)
      | ((with_reducible refine wpList_store_page (S.out.page 0 rfl zeros_length) HL.out rfl (.tmp 4) (.tmp 19) rfl rfl ?_ ?_); (exact rfl)))
    have S2 := Lib.hid (S.out.putP 0 rfl zeros_length p HL.out)
    exact bodyPost_ret (results_page _ 4 rfl _ (S2.out.page 0 rfl HL.out) rfl) rfl (HE.out _ _ S2.out)
end

section
open Go.ChangeShapes Go.WideShapes Go.ChangeAt Go.RowKit
structure Row (w : World) (A : Option Addr) (n : Nat) (bs : List UInt8) : Prop where
  len : bs.length = 64 * n
  small : n ≤ maxLen
  nul : A = none → n = 0
  cells : 0 < n → ∃ b off, A = some ⟨b, off, none⟩ ∧ b < w.heap.size ∧ ∀ j, j < 64 * n → w.cell? ⟨b, off + j, none⟩ = some (.int .u8 ((bs.getD j 0).toNat : Int))
theorem Row.keep {w w' : World} {A : Option Addr} {n : Nat} {bs : List UInt8} (h : Row w A n bs) (hs : w.heap.size ≤ w'.heap.size) (hb : 0 < n → ∀ b off, A = some ⟨b, off, none⟩ → b < w.heap.size → w'.heap[b]? = w.heap[b]?) : Row w' A n bs where
  len := h.len
  small := h.small
  nul := h.nul
  cells := fun hn => by
    obtain ⟨b, off, rfl, hlt, hc⟩ := h.cells hn
    exact ⟨b, off, rfl, Nat.lt_of_lt_of_le hlt hs, fun j hj => (World.cell?_of_block (a := ⟨b, off + j, none⟩) (hb hn b off rfl hlt)).trans (hc j hj)⟩
theorem Row.step {w w' : World} {A : Option Addr} {n : Nat} {bs : List UInt8} (h : Row w A n bs) (hb : Below w.heap.size w w') : Row w' A n bs :=
  h.keep hb.size fun _ b _ _ hlt => hb.block b hlt
theorem Row.drewN {w : World} {A : Option Addr} {n : Nat} {bs : List UInt8} (h : Row w A n bs) (m : Nat) : Row (w.drewN m) A n bs :=
  h.keep (Nat.le_refl _) fun _ _ _ _ _ => rfl
def OwnB (W : World) (base : Nat) (v : Value) (n : Nat) (bs : List UInt8) : Prop := W.ownsRow base 97 64 v n (byteVals bs)
theorem bpage_type : ∃ i z, Tryz.prog.info? 97 = some i ∧ i.zero = some z ∧ i.size = 64 ∧ i.bytes = 64 ∧ z.cells.size = 64 := by
  have e : (Tryz.prog.info? 97).map (fun i => (i.zero.map (·.cells.size), i.size, i.bytes)) = some (some 64, 64, 64) := by kernel_rfl
  cases h : Tryz.prog.info? 97 with
  | none => rw [h] at e; cases e
  | some i =>
    rw [h] at e
    simp only [Option.map_some, Option.some.injEq, Prod.mk.injEq] at e
    obtain ⟨e1, e2, e3⟩ := e
    cases hz : i.zero with
    | none => rw [hz] at e1; cases e1
    | some z => rw [hz] at e1; exact ⟨i, z, rfl, hz, e2, e3, by simpa using e1⟩
theorem OwnB.len {W : World} {base : Nat} {v : Value} {n : Nat} {bs : List UInt8} (h : OwnB W base v n bs) : bs.length = 64 * n := by
  have := h.1
  rw [byteVals_length] at this
  omega
theorem OwnB.form {W : World} {base : Nat} {v : Value} {n : Nat} {bs : List UInt8} (h : OwnB W base v n bs) :
    ∃ A cap, v = .slice A n cap ∧ Row W A n bs ∧ (∀ b off, A = some ⟨b, off, none⟩ → base ≤ b ∧ off = 0) ∧ n ≤ cap := by
  have hl := h.len
  obtain ⟨hl', h'⟩ := id h
  rcases h' with ⟨rfl, h0⟩ | ⟨g, cap, cur, rfl, hb, hg, hc, hcm, hcs, ht⟩
  · exact ⟨none, 0, by rw [h0], ⟨hl, by unfold maxLen; omega, fun _ => h0, fun hn => by omega⟩, fun b off q => (by cases q), by omega⟩
  · have hlt : g < W.heap.size := by
      rcases Nat.lt_or_ge g W.heap.size with hlt | hge
      · exact hlt
      · rw [Array.getElem?_eq_none hge] at hg; cases hg
    refine ⟨some ⟨g, 0, none⟩, cap, rfl, ⟨hl, Nat.le_trans hc hcm, fun q => (by cases q), fun hn => ⟨g, 0, rfl, hlt, fun j hj => ?_⟩⟩, fun b off q => ?_, hc⟩
    · have hj' : j < bs.length := by omega
      have := World.ownsRow.cellAt h j (by omega)
      rw [Nat.zero_add, this, byteVals_at bs j hj', List.getD_eq_getElem?_getD, List.getElem?_eq_getElem hj']; rfl
    · injection q with q; injection q with q1 q2; exact ⟨by omega, q2.symm⟩
theorem grown_below {W W' : World} (hb : Below W.heap.size W W') : W.grownBy W' none := ⟨hb.os, hb.tape, hb.output, hb.size, fun k hk _ => hb.block k hk⟩
theorem OwnB.step {W W' : World} {base : Nat} {v : Value} {n : Nat} {bs : List UInt8} (h : OwnB W base v n bs) (hb : Below W.heap.size W W') : OwnB W' base v n bs := by
  refine World.ownsRow.kept h (grown_below hb) ?_
  cases hv : v.ownBlock with
  | none => exact Or.inl rfl
  | some g => exact Or.inr (fun e => by cases e)
theorem bbelow_drewN (N : Nat) (w : World) (m : Nat) : Below N w (w.drewN m) := ⟨rfl, rfl, rfl, Nat.le_refl _, fun _ _ => rfl⟩
end

section
open Go.RowKit
theorem bthere_yes (i n : Nat) (A : Option Addr) (c : Nat) (w : World) (hn : n ≤ 1000) (h : i < n * 512) :
    Calls Tryz.prog 129 #[.int .i64 (i : Int), .slice A n c] w fun e w' => e = .returned (.bool true) ∧ w = w' := by
  go_enter Tryz.func129, Tryz.ntmps129
  go_wp2
  go_ret
  exact ⟨ret_bool (by simp; omega), rfl⟩
theorem bthere_no (i : Int) (n : Nat) (A : Option Addr) (c : Nat) (w : World) (hn : n ≤ 1000) (h : ¬ (0 ≤ i ∧ i < (n : Int) * 512)) :
    Calls Tryz.prog 129 #[.int .i64 i, .slice A n c] w fun e w' => e = .returned (.bool false) ∧ w = w' := by
  go_enter Tryz.func129, Tryz.ntmps129
  by_cases c1 : 0 ≤ i
  · go_wp2
    go_ret
    exact ⟨ret_bool (by simp; omega), rfl⟩
  · go_wp2
    go_ret
    exact ⟨rfl, rfl⟩
theorem place_any (i : Nat) (w : World) (h : i < 512000) :
    Calls Tryz.prog 130 #[.int .i64 (i : Int)] w fun e w' => e = .returned (.tuple #[.int .i64 ((i / 512 : Nat) : Int), .int .i64 ((i % 512 / 8 : Nat) : Int), .int .u8 ((Bt.pw (i % 8) : Nat) : Int)]) ∧ ∃ m, w' = w.drewN m := by
  have hr : Hid ((2 ^ (i % 8) : Int) % 256 = ((Bt.pw (i % 8) : Nat) : Int)) := Lib.hid (by
    have hp := Bt.pw_lt (i % 8) (Nat.mod_lt _ (by omega))
    have e : ((Bt.pw (i % 8) : Nat) : Int) = (2 ^ (i % 8) : Int) := by rw [Bt.pw_def]; push_cast; rfl
    rw [← e]; exact Int.emod_eq_of_lt (by omega) (by omega))
  go_enter Tryz.func130, Tryz.ntmps130
  go_wp2
  go_quiet (fail)
  go_wp2
  go_ret3
  refine ⟨?_, _, rfl⟩
  simp [hr.out]
theorem Row.byte {w : World} {b off n : Nat} {bs : List UInt8} (hc : ∀ j, j < 64 * n → w.cell? ⟨b, off + j, none⟩ = some (.int .u8 ((bs.getD j 0).toNat : Int))) (i : Nat) (h : i < n * 512) :
    w.cell? ⟨b, off + i / 512 * 64 + i % 512 / 8, none⟩ = some (.int .u8 ((bs.getD (i / 8) 0).toNat : Int)) := by
  have e : i / 512 * 64 + i % 512 / 8 = i / 8 := by omega
  have := hc (i / 8) (by omega)
  rw [Nat.add_assoc, e]; exact this
theorem bget_no (i : Int) (A : Option Addr) (n c : Nat) (w : World) (hn : n ≤ 1000) (h : ¬ (0 ≤ i ∧ i < (n : Int) * 512)) :
    Calls Tryz.prog 192 #[.int .i64 i, .slice A n c] w fun e w' => e = .returned (.bool false) ∧ ∃ m, w' = w.drewN m := by
  have HH := Lib.hid h; clear h
  go_enter Tryz.func192, Tryz.ntmps192
  go_wp2_with (go_at_call 129; refine (bthere_no _ _ _ _ _ hn HH.out).mono ?_; rintro e w' ⟨rfl, rfl⟩)
  go_ret
  exact ⟨rfl, 0, rfl⟩
theorem bget_yes (i : Nat) (b off n c : Nat) (bs : List UInt8) (w : World) (hn : n ≤ 1000) (h : i < n * 512)
    (hc : ∀ j, j < 64 * n → w.cell? ⟨b, off + j, none⟩ = some (.int .u8 ((bs.getD j 0).toNat : Int))) :
    Calls Tryz.prog 192 #[.int .i64 (i : Int), .slice (some ⟨b, off, none⟩) n c] w fun e w' => e = .returned (.bool (Bt.bit bs i)) ∧ ∃ m, w' = w.drewN m := by
  have hb := Row.byte hc i h
  clear hc
  have hi : i < 512000 := by omega
  have hx := (bs.getD (i / 8) 0).toNat_lt
  have hp := Bt.pw_lt (i % 8) (Nat.mod_lt _ (by omega))
  have HB : Hid (Bt.bit bs i = !decide ((bs.getD (i / 8) 0).toNat &&& Bt.pw (i % 8) = 0)) := Lib.hid (by
    unfold Bt.bit
    rw [Bt.pw_def]
    have := Bt.and_bit (bs.getD (i / 8) 0).toNat (i % 8)
    cases hq : (bs.getD (i / 8) 0).toNat.testBit (i % 8) <;> simp_all)
  generalize (bs.getD (i / 8) 0).toNat = x at hb hx HB
  have hq1 : i / 512 < n := by omega
  have hq2 : i % 512 / 8 < 64 := by omega
  go_enter Tryz.func192, Tryz.ntmps192
  go_wp2_with (first | (go_at_call 129; refine (bthere_yes _ _ _ _ _ hn h).mono ?_; rintro e w' ⟨rfl, rfl⟩) | (go_at_call 130; refine (place_any _ _ hi).mono ?_; rintro e w' ⟨rfl, m, rfl⟩))
  go_ret
  refine ⟨ret_bool ?_, _, rfl⟩
  rw [HB.out, u8_and_nat _ _ hx hp]
  cases hz : decide (x &&& Bt.pw (i % 8) = 0) <;> simp_all
theorem bget_any (i : Int) (A : Option Addr) (n c : Nat) (bs : List UInt8) (w : World) (h : Row w A n bs) (hn : n ≤ 1000) :
    Calls Tryz.prog 192 #[.int .i64 i, .slice A n c] w fun e w' => e = .returned (.bool (Bt.getB bs i)) ∧ ∃ m, w' = w.drewN m := by
  by_cases hi : 0 ≤ i ∧ i < (n : Int) * 512
  · obtain ⟨k, rfl⟩ := Int.eq_ofNat_of_zero_le hi.1
    obtain ⟨b, off, rfl, _, hc⟩ := h.cells (by omega)
    rw [Bt.getB_nat]
    exact bget_yes k b off n c bs w hn (by omega) hc
  · rw [Bt.getB_no bs n h.len i hi]
    exact bget_no i A n c w hn hi
end

section
open Go.RowKit
theorem own_empty (w : World) : OwnB (w.alloc (.cells #[] 97)) w.heap.size (.slice (some ⟨w.heap.size, 0, none⟩) 0 0) 0 [] := World.ownsRow_made w #[] 0 (Nat.le_refl _) (Nat.zero_le _) rfl
theorem byteVals_cell {w : World} {b off n : Nat} {bs : List UInt8} (hl : bs.length = 64 * n) (hc : ∀ j, j < 64 * n → w.cell? ⟨b, off + j, none⟩ = some (.int .u8 ((bs.getD j 0).toNat : Int))) :
    ∀ j u, (byteVals bs)[j]? = some u → w.cell? ((⟨b, off, none⟩ : Addr).add j) = some u := by
  intro j u hu
  have hj : j < bs.length := by
    have := (List.getElem?_eq_some_iff.1 hu).1
    rwa [byteVals_length] at this
  rw [byteVals_at bs j hj] at hu
  have := hc j (by omega)
  rw [List.getD_eq_getElem?_getD, List.getElem?_eq_getElem hj, Option.getD_some] at this
  rw [Addr.add_mid, this, hu]
theorem wpList_copy {ops : Array Oper} {rest : List Oper} {o : Oper} {a : Act} {Q : Exit → Act → World → Prop} {w : World} {A : Option Addr} {n c : Nat} {bs : List UInt8} (hr : Row w A n bs) (hn : n ≤ 1000) (hA : A ≠ none)
    (hgd : o.guard = none) (s x : Operand) (ho : o.op = .call { callee := .builtin .append, args := #[s, x], argTypes := #[86, 86] }) (hs : a.eval s = .slice (some ⟨w.heap.size, 0, none⟩) 0 0) (hx : a.eval x = .slice A n c)
    (h : ∀ v w', OwnB w' w.heap.size v n bs → Below w.heap.size w w' → wpList Tryz.prog ops Q rest (a.put o.dst v) w') :
    wpList Tryz.prog ops Q (o :: rest) a (w.alloc (.cells #[] 97)) := by
  obtain ⟨i, z, hi, hz, h64, hby, hzs⟩ := bpage_type
  obtain ⟨ad, rfl⟩ := Option.ne_none_iff_exists'.1 hA
  refine wpList_append_own_at _ hgd s x 86 ho w.heap.size 97 i z 64 64 Tryz.underlying86 hi hz h64 hby hzs (by omega) _ 0 [] hs (own_empty w) ad n c (byteVals bs) hx (by rw [byteVals_length, hr.len]; omega) ?_ (byteVals_one bs) (by unfold maxLen; omega) (by omega) (by simp) ?_
  · intro j u hu
    have hj : j < bs.length := by
      have := (List.getElem?_eq_some_iff.1 hu).1
      rwa [byteVals_length] at this
    have hl := hr.len
    obtain ⟨b, off, e, hlt, hc⟩ := hr.cells (by omega)
    injection e with e
    subst e
    refine Eq.trans (World.cell?_of_block (w := w) (Below.heap_alloc w _ _ ?_)) (byteVals_cell hl hc j u hu)
    rw [Addr.add_mid]; exact hlt
  · intro v w' h1 h2 _ _
    rw [Nat.zero_add, List.nil_append] at h1
    refine h v w' h1 (((Below.refl _ w).alloc (Nat.le_refl _) _).grown h2 (by simp) ?_)
    intro k hk
    simp [Value.ownBlock] at hk
    omega
theorem clone_any (A : Option Addr) (n c : Nat) (bs : List UInt8) (w : World) (h : Row w A n bs) (hn : n ≤ 1000) :
    Calls Tryz.prog 128 #[.slice A n c] w fun e w' => ∃ v, e = .returned v ∧ OwnB w' w.heap.size v n bs ∧ Below w.heap.size w w' := by
  cases A with
  | none =>
    have h0 := h.nul rfl
    subst h0
    have hb : bs = [] := List.eq_nil_of_length_eq_zero (by rw [h.len])
    subst hb
    clear h
    have q22 := fun w : World => Lib.run_eql_slice_nil (P := Tryz.prog) w 86 97 none 0 c 0 0 Tryz.underlying86
    go_enter Tryz.func128, Tryz.ntmps128
    go_wp2
    go_ret
    exact ⟨_, rfl, World.ownsRow_nil _ _ _ _, Below.refl _ _⟩
  | some ad =>
    have HR := Lib.hid h; clear h
    have q22 := fun w : World => Lib.run_eql_slice_nil (P := Tryz.prog) w 86 97 (some ad) n c 0 0 Tryz.underlying86
    go_enter Tryz.func128, Tryz.ntmps128
    go_wp2_with (at_builtin; go_must (refine wpList_copy (c := c) HR.out hn (Option.some_ne_none ad) rfl (.tmp 5) (.tmp 6) rfl ?_ ?_ ?_); (exact rfl); (exact rfl); intro v w' h1 h2)
    go_ret
    exact ⟨_, rfl, h1, h2⟩
theorem OwnB.put {W : World} {base g cap n : Nat} {bs : List UInt8} (h : OwnB W base (.slice (some ⟨g, 0, none⟩) n cap) n bs) (j : Nat) (c : UInt8) :
    OwnB (W.setCell ⟨g, j, none⟩ (.int .u8 (c.toNat : Int))) base (.slice (some ⟨g, 0, none⟩) n cap) n (bs.set j c) ∧ W.grownBy (W.setCell ⟨g, j, none⟩ (.int .u8 (c.toNat : Int))) (some g) := by
  have := World.ownsRow.stored h j (.int .u8 (c.toNat : Int))
  rw [byteVals_set] at this
  exact this
theorem own_byte {W : World} {base g cap n : Nat} {bs : List UInt8} (h : OwnB W base (.slice (some ⟨g, 0, none⟩) n cap) n bs) (i : Nat) (hi : i < n * 512) :
    W.cell? ⟨g, i / 512 * 64 + i % 512 / 8, none⟩ = some (.int .u8 ((bs.getD (i / 8) 0).toNat : Int)) := by
  have hl := h.len
  have e : i / 512 * 64 + i % 512 / 8 = i / 8 := by omega
  have hj : i / 8 < bs.length := by omega
  have := World.ownsRow.cellAt h (i / 8) (by omega)
  rw [e, this, byteVals_at bs _ hj, List.getD_eq_getElem?_getD, List.getElem?_eq_getElem hj]; rfl
theorem bset_no (i : Int) (on1 : Bool) (A : Option Addr) (n c : Nat) (bs : List UInt8) (w : World) (h : Row w A n bs) (hn : n ≤ 1000) (hi : ¬ (0 ≤ i ∧ i < (n : Int) * 512)) :
    Calls Tryz.prog 85 #[.int .i64 i, .bool on1, .slice A n c] w fun e w' => ∃ v, e = .returned v ∧ OwnB w' w.heap.size v n bs ∧ Below w.heap.size w w' := by
  have HH := Lib.hid hi; clear hi
  have HR := Lib.hid h; clear h
  go_enter Tryz.func85, Tryz.ntmps85
  go_wp2_with (first | (go_at_call 128; refine (clone_any _ _ _ _ _ HR.out hn).mono ?_; rintro e w' ⟨v, rfl, ho, hb⟩; obtain ⟨A', c', rfl, _⟩ := OwnB.form ho) | (go_at_call 129; refine (bthere_no _ _ _ _ _ hn HH.out).mono ?_; rintro e w' ⟨rfl, rfl⟩))
  go_ret
  exact ⟨_, rfl, ho, hb⟩
theorem bset_yes (i : Nat) (on1 : Bool) (A : Option Addr) (n c : Nat) (bs : List UInt8) (w : World) (h : Row w A n bs) (hn : n ≤ 1000) (hi : i < n * 512) :
    Calls Tryz.prog 85 #[.int .i64 (i : Int), .bool on1, .slice A n c] w fun e w' => ∃ v, e = .returned v ∧ OwnB w' w.heap.size v n (Bt.setBit bs i on1) ∧ Below w.heap.size w w' := by
  have HR := Lib.hid h; clear h
  have hq1 : i / 512 < n := by omega
  have hq2 : i % 512 / 8 < 64 := by omega
  have hi' : i < 512000 := by omega
  obtain ⟨x, hxe0⟩ : ∃ x, bs.getD (i / 8) 0 = x := ⟨_, rfl⟩
  have hx := x.toNat_lt
  have hxe := Lib.hid hxe0; clear hxe0
  have hp := Bt.pw_lt (i % 8) (Nat.mod_lt _ (by omega))
  have HN : Hid (0 < n) := Lib.hid (by omega)
  cases on1 with
  | true =>
    have HV : Hid (bits .or .u8 (x.toNat : Int) (Bt.pw (i % 8) : Int) = ((Bt.byteSet x (i % 8) true).toNat : Int)) := Lib.hid (by rw [u8_or_nat _ _ hx hp, Bt.byteSet_on _ _ (Nat.mod_lt _ (by omega)), Bt.pw_def])
    go_enter Tryz.func85, Tryz.ntmps85
    go_wp2_with (first | (go_at_call 128; refine (clone_any _ _ _ _ _ HR.out hn).mono ?_; rintro e w' ⟨v, rfl, ho, hb⟩; obtain ⟨g, c', rfl, hg, _⟩ := World.ownsRow.form ho HN.out; have hcell := own_byte ho i hi; have hfr := World.ownsRow.frozenAt ho (i / 512 * 64 + i % 512 / 8); rw [hxe.out] at hcell; have HO := Lib.hid ho; clear ho) | (go_at_call 129; refine (bthere_yes _ _ _ _ _ hn hi).mono ?_; rintro e w' ⟨rfl, rfl⟩) | (go_at_call 130; refine (place_any _ _ hi').mono ?_; rintro e w' ⟨rfl, m, rfl⟩))
    go_region
    go_wp2
    go_ret
    have HQ := OwnB.put (HO.out.step (bbelow_drewN _ _ (m + 1))) (i / 512 * 64 + i % 512 / 8) (Bt.byteSet x (i % 8) true)
    refine ⟨_, rfl, ?_, ?_⟩
    · rw [HV.out]
      have e : i / 512 * 64 + i % 512 / 8 = i / 8 := by omega
      unfold Bt.setBit
      rw [hxe.out]
      have := HQ.1
      rw [e] at this ⊢
      exact this
    · refine (hb.trans (bbelow_drewN _ _ (m + 1))).setCell ?_ _
      exact hg
  | false =>
    have HV : Hid (bits .andNot .u8 (x.toNat : Int) (Bt.pw (i % 8) : Int) = ((Bt.byteSet x (i % 8) false).toNat : Int)) := Lib.hid (by rw [u8_andNot_nat _ _ hx hp, Bt.byteSet_off, Bt.pw_def])
    go_enter Tryz.func85, Tryz.ntmps85
    go_wp2_with (first | (go_at_call 128; refine (clone_any _ _ _ _ _ HR.out hn).mono ?_; rintro e w' ⟨v, rfl, ho, hb⟩; obtain ⟨g, c', rfl, hg, _⟩ := World.ownsRow.form ho HN.out; have hcell := own_byte ho i hi; have hfr := World.ownsRow.frozenAt ho (i / 512 * 64 + i % 512 / 8); rw [hxe.out] at hcell; have HO := Lib.hid ho; clear ho) | (go_at_call 129; refine (bthere_yes _ _ _ _ _ hn hi).mono ?_; rintro e w' ⟨rfl, rfl⟩) | (go_at_call 130; refine (place_any _ _ hi').mono ?_; rintro e w' ⟨rfl, m, rfl⟩))
    go_region
    go_wp2
    go_ret
    have HQ := OwnB.put (HO.out.step (bbelow_drewN _ _ (m + 1))) (i / 512 * 64 + i % 512 / 8) (Bt.byteSet x (i % 8) false)
    refine ⟨_, rfl, ?_, ?_⟩
    · rw [HV.out]
      have e : i / 512 * 64 + i % 512 / 8 = i / 8 := by omega
      unfold Bt.setBit
      rw [hxe.out]
      have := HQ.1
      rw [e] at this ⊢
      exact this
    · refine (hb.trans (bbelow_drewN _ _ (m + 1))).setCell ?_ _
      exact hg
theorem bset_any (i : Int) (on1 : Bool) (A : Option Addr) (n c : Nat) (bs : List UInt8) (w : World) (h : Row w A n bs) (hn : n ≤ 1000) :
    Calls Tryz.prog 85 #[.int .i64 i, .bool on1, .slice A n c] w fun e w' => ∃ v, e = .returned v ∧ OwnB w' w.heap.size v n (Bt.setB bs i on1) ∧ Below w.heap.size w w' := by
  have hl := h.len
  by_cases hi : 0 ≤ i ∧ i < (n : Int) * 512
  · obtain ⟨k, rfl⟩ := Int.eq_ofNat_of_zero_le hi.1
    rw [Bt.setB_nat bs k on1 (by omega)]
    exact bset_yes k on1 A n c bs w h hn (by omega)
  · rw [Bt.setB_no bs i on1 (by omega)]
    exact bset_no i on1 A n c bs w h hn hi
end

section
open Go.RowKit Go.Maps
open Dk (zeros zeros_length)
open Ii (Ino)
theorem set_box (w : World) (x : Ino) : Lo [] w [(w.heap.size, inoL x)] (w.alloc (.cells (inoL x).toArray 47)) :=
  (Lo.start w (by simp)).alloc _ rfl (inoL x) _
theorem sset_step {w : World} {B : Nat} {b : Blk} {s : Sto} {n I : Int} (h : Ctx w B b s n I) (i : Int) (x : Ino) (h1 : 1 ≤ i) (h2 : i ≤ I) : Calls Tryz.prog 39 #[.pointer (some ⟨B, 0, none⟩), .int .i64 i, inoV x] w (Ends B b n I [] w s (Fs.setI i x) fun _ e _ => e = .returned (.tuple #[])) := by
  refine calls_of fun R H => ?_
  have S := Lib.hid (set_box w x)
  obtain ⟨k1, k2⟩ := tbl_ok h.vs h1 h2
  obtain ⟨r1, r2, r3⟩ := h.vs.read k1
  rw [k2] at r1 r3
  have HB : Hid (∀ W l, Lo [] w l W → RowAt W B (stepL b.s n I true 0)) := Lib.hid (fun W l hl => (Lo.ctx (L := []) hl h).step)
  have HP : Hid (∀ w, Calls Tryz.prog 82 #[planV n I, .int .i64 i] w fun e w' => e = .returned (.tuple #[.int .i64 (43 + (i - 1) / 2), .int .i64 ((i - 1) % 2)]) ∧ Below w.heap.size w w') := Lib.hid (fun w => place_yes n I i w h.vs.pl h1 h2)
  have HG : Hid (∀ W l, Lo [] w l W → Calls Tryz.prog 83 #[.pointer (some ⟨B, 0, none⟩), .int .i64 (43 + (i - 1) / 2)] W fun e w' => e = .returned (pageV (nv s (Fs.tbl i))) ∧ Below W.heap.size W w') := Lib.hid (fun W l hl => by
    have := spage_any (Lo.ctx (L := []) hl h) (43 + (i - 1) / 2) k1
    rw [k2] at this
    exact this)
  have HI : Hid (∀ w, Calls Tryz.prog 84 #[pageV (nv s (Fs.tbl i)), .int .i64 ((i - 1) % 2), .agg (inoL x).toArray] w fun e w' => e = .returned (pageV (Ii.putN (nv s (Fs.tbl i)) (Fs.halfAt i) x)) ∧ Below w.heap.size w w') := Lib.hid (fun w => iput_any (nv s (Fs.tbl i)) i x w r3)
  have hql := Ii.putN_length (nv s (Fs.tbl i)) (Fs.halfAt i) x r3 (by unfold Fs.halfAt; omega)
  have HS : Hid (∀ W l, Lo [] w l W → Calls Tryz.prog 66 #[.pointer (some ⟨B, 0, none⟩), .int .i64 (43 + (i - 1) / 2), pageV (Ii.putN (nv s (Fs.tbl i)) (Fs.halfAt i) x)] W (Ends B b n I [] W s (Fs.wr (Fs.tbl i) (Ii.putN (nv s (Fs.tbl i)) (Fs.halfAt i) x)) fun _ e _ => e = .returned (.tuple #[]))) := Lib.hid (fun W l hl => by
    have := sput_step (Lo.ctx (L := []) hl h) (43 + (i - 1) / 2) (Ii.putN (nv s (Fs.tbl i)) (Fs.halfAt i) x) k1 (hql)
    rw [k2] at this
    exact this)
  have HL := Lib.hid r3
  have HQ := Lib.hid hql
  have HC := Lib.hid h
  by_cases c : Ii.putN (nv s (Fs.tbl i)) (Fs.halfAt i) x = nv s (Fs.tbl i)
  · have HE : Hid (∀ W l, Lo [] w l W → R (.returned (.tuple #[])) W) := Lib.hid (fun W l hl => H.out _ _ (by
      have C := Lo.ctx (L := []) hl HC.out
      have e : Fs.setI i x (nv s) = Fs.ret () (nv s) := by unfold Fs.setI; rw [if_pos c]
      exact Or.inl ⟨(), s, [], e, Goes.refl s, C, rfl, hl.only.mono (by simp)⟩))
    rw [c] at HI
    clear h r1 r2 r3 k1 k2 h1 h2 hql HS HC c H
    generalize (43 + (i - 1) / 2 : Int) = at1 at HP HG
    generalize nv s (Fs.tbl i) = p at HG HI HL
    clear HQ
    have E1 : ∀ (w : World), (binOp .neq 97 (pageV p) (pageV p)).run Tryz.prog w = .ok (.bool false) w := fun w => run_neq_same w p HL.out
    have E0 : ∀ (w : World) (x y : Operand), (eqGuard .neq 97 x y (pageV p) (pageV p)).run Tryz.prog w = .ok () w := fun w x y => run_neGuard_page w x y p p
    unfold inoV
    go_enter Tryz.func39, Tryz.ntmps39
    go_wp2_with (first
      | (with_reducible refine wpList_load_plan (HB.out _ _ S.out).plan rfl (.tmp 14) rfl rfl ?_)
      | (go_at_call 82; (with_reducible refine (HP.out _).mono ?_); rintro e w1 ⟨rfl, hb⟩; replace S := Lib.hid (S.out.below hb); clear hb)
      | (go_at_call 83; refine (HG.out _ _ S.out).mono ?_; rintro e w1 ⟨rfl, hb⟩; replace S := Lib.hid (S.out.below hb); clear hb)
      | ((with_reducible refine wpList_store_new rfl (.tmp 8) (.tmp 22) rfl rfl ?_ ?_ HL.out ?_); (exact rfl); (exact rfl); intro W2 hP hB2 hz2; replace S := Lib.hid (S.out.made hP.rowAt hB2 hz2); clear hP hB2 hz2)
      | (with_reducible refine wpList_load_page (S.out.page 1 rfl HL.out) rfl (.tmp 8) rfl rfl ?_)
      | (with_reducible refine wpList_load_rw inoT (S.out.get 0 _ rfl) rfl rfl (.tmp 5) rfl rfl ?_)
      | (go_at_call 84; (with_reducible refine (HI.out _).mono ?_); rintro e w1 ⟨rfl, hb⟩; replace S := Lib.hid (S.out.below hb); clear hb)
      | ((with_reducible refine wpList_store_new rfl (.tmp 9) (.tmp 26) rfl rfl ?_ ?_ HL.out ?_); (exact rfl); (exact rfl); intro W2 hP hB2 hz2; replace S := Lib.hid (S.out.made hP.rowAt hB2 hz2); clear hP hB2 hz2)
      | (with_reducible refine wpList_load_page (S.out.page 2 rfl HL.out) rfl (.tmp 9) rfl rfl ?_))
    go_end0
    exact HE.out _ _ S.out
  · have HE : Hid (∀ W l, Lo [] w l W → Calls Tryz.prog 66 #[.pointer (some ⟨B, 0, none⟩), .int .i64 (43 + (i - 1) / 2), pageV (Ii.putN (nv s (Fs.tbl i)) (Fs.halfAt i) x)] W fun e w' => (e = .panicked [failE B] ∧ R (.panicked [failE B]) w') ∨ (e = .returned (.tuple #[]) ∧ R (.returned (.tuple #[])) w')) := Lib.hid (fun W l hl => (HS.out W l hl).mono fun e w' hE => Ends.unit H (Ends.later (hl.only.mono (by simp)) (Ends.same (by unfold Fs.setI; rw [if_neg c]) hE)))
    clear h r1 r2 r3 k1 k2 h1 h2 hql HS HC H
    generalize (43 + (i - 1) / 2 : Int) = at1 at HP HG HE
    generalize Ii.putN (nv s (Fs.tbl i)) (Fs.halfAt i) x = q at HI HE HQ c
    generalize nv s (Fs.tbl i) = p at HG HI HL c
    have E1 : ∀ (w : World), (binOp .neq 97 (pageV q) (pageV p)).run Tryz.prog w = .ok (.bool true) w := fun w => run_neq_not w q p HQ.out HL.out c
    clear c
    have E0 : ∀ (w : World) (x y : Operand), (eqGuard .neq 97 x y (pageV q) (pageV p)).run Tryz.prog w = .ok () w := fun w x y => run_neGuard_page w x y q p
    unfold inoV
    go_enter Tryz.func39, Tryz.ntmps39
    go_wp2_with (first
      | (with_reducible refine wpList_load_plan (HB.out _ _ S.out).plan rfl (.tmp 14) rfl rfl ?_)
      | (go_at_call 82; (with_reducible refine (HP.out _).mono ?_); rintro e w1 ⟨rfl, hb⟩; replace S := Lib.hid (S.out.below hb); clear hb)
      | (go_at_call 83; refine (HG.out _ _ S.out).mono ?_; rintro e w1 ⟨rfl, hb⟩; replace S := Lib.hid (S.out.below hb); clear hb)
      | ((with_reducible refine wpList_store_new rfl (.tmp 8) (.tmp 22) rfl rfl ?_ ?_ HL.out ?_); (exact rfl); (exact rfl); intro W2 hP hB2 hz2; replace S := Lib.hid (S.out.made hP.rowAt hB2 hz2); clear hP hB2 hz2)
      | (with_reducible refine wpList_load_page (S.out.page 1 rfl HL.out) rfl (.tmp 8) rfl rfl ?_)
      | (with_reducible refine wpList_load_rw inoT (S.out.get 0 _ rfl) rfl rfl (.tmp 5) rfl rfl ?_)
      | (go_at_call 84; (with_reducible refine (HI.out _).mono ?_); rintro e w1 ⟨rfl, hb⟩; replace S := Lib.hid (S.out.below hb); clear hb)
      | ((with_reducible refine wpList_store_new rfl (.tmp 9) (.tmp 26) rfl rfl ?_ ?_ HQ.out ?_); (exact rfl); (exact rfl); intro W2 hP hB2 hz2; replace S := Lib.hid (S.out.made hP.rowAt hB2 hz2); clear hP hB2 hz2)
      | (with_reducible refine wpList_load_page (S.out.page 2 rfl HQ.out) rfl (.tmp 9) rfl rfl ?_)
      | (go_at_call 66; refine (HE.out _ _ S.out).mono ?_; rintro e w1 (⟨rfl, hR⟩ | ⟨rfl, hR⟩); (exact ⟨rfl, hR⟩)))
    go_end0
    exact hR
theorem fold_zip {α : Type} : ∀ (l : List α) (k : Nat) (zs : Array α), k + l.length ≤ zs.size → List.foldl (fun (cs : Array α) x => cs.setIfInBounds x.2 x.1) zs (l.zipIdx k) = (zs.toList.take k ++ l ++ zs.toList.drop (k + l.length)).toArray
  | [], k, zs, _ => by simp
  | x :: l, k, zs, h => by
    rw [List.length_cons] at h
    rw [List.zipIdx_cons, List.foldl_cons, fold_zip l (k + 1) _ (by simp; omega)]
    apply Array.ext'
    have hk : k < zs.toList.length := by simp; omega
    simp only [Array.toList_setIfInBounds]
    have e1 : (zs.toList.set k x).take (k + 1) = zs.toList.take k ++ [x] := by
      rw [List.take_set, List.take_succ_eq_append_getElem hk, List.set_append_right _ _ (by simp; omega)]
      have : k - (List.take k zs.toList).length = 0 := by simp; omega
      rw [this]; rfl
    have e2 : (zs.toList.set k x).drop (k + 1 + l.length) = zs.toList.drop (k + (l.length + 1)) := by
      rw [List.drop_set_of_lt (by omega)]
      congr 1; omega
    rw [e1, e2]
    simp
theorem fold_page {zs : Array Value} {p : List UInt8} (h : zs.size = 64) (hp : p.length = 64) : List.foldl (fun (cs : Array Value) x => cs.setIfInBounds x.2 x.1) zs (byteVals p).zipIdx = (byteVals p).toArray := by
  rw [fold_zip _ 0 _ (by rw [byteVals_length, hp, h]; exact Nat.le_refl _)]
  rw [List.take_zero, List.nil_append, List.drop_of_length_le (by rw [byteVals_length, hp, ← h]; simp), List.append_nil]
theorem row_of_page {W : World} {g : Nat} {p : List UInt8} (h : PageAt W g p) (hg : g < W.heap.size) : Row W (some ⟨g, 0, none⟩) 1 p := by
  refine ⟨h.len, by unfold maxLen; omega, fun q => (by cases q), fun _ => ⟨g, 0, rfl, hg, fun j hj => ?_⟩⟩
  have hj' : j < p.length := by rw [h.len]; exact hj
  have := h.range j (.int .u8 ((p.getD j 0).toNat : Int)) (by rw [byteVals_at p j hj', List.getD_eq_getElem?_getD, List.getElem?_eq_getElem hj']; rfl)
  exact this
theorem row_own {W : World} {base : Nat} {v : Value} {p : List UInt8} (h : OwnB W base v 1 p) : ∃ g c, v = .slice (some ⟨g, 0, none⟩) 1 c ∧ base ≤ g ∧ g < W.heap.size ∧ W.rangeAt g 0 (byteVals p) := by
  obtain ⟨A, cap, rfl, hR, hA, _⟩ := h.form
  obtain ⟨b, off, rfl, hlt, hc⟩ := hR.cells (by decide)
  obtain ⟨h1, rfl⟩ := hA b off rfl
  refine ⟨b, cap, rfl, h1, hlt, fun j v hv => ?_⟩
  have hl := hR.len
  obtain ⟨hj, hv⟩ := List.getElem?_eq_some_iff.1 hv
  rw [byteVals_length] at hj
  have := hc j (by omega)
  rw [this, ← hv]
  have e := byteVals_at p j hj
  rw [List.getElem?_eq_getElem (by rw [byteVals_length]; exact hj)] at e
  injection e with e
  rw [e, List.getD_eq_getElem?_getD, List.getElem?_eq_getElem hj]; rfl
theorem smark_step {w : World} {B : Nat} {b : Blk} {s : Sto} {n I : Int} (h : Ctx w B b s n I) (at1 bit : Int) (on1 : Bool) (ha : okP n at1) : Calls Tryz.prog 40 #[.pointer (some ⟨B, 0, none⟩), .int .i64 at1, .int .i64 bit, .bool on1] w (Ends B b n I [] w s (Fs.markM at1.toNat bit on1) fun _ e _ => e = .returned (.tuple #[])) := by
  refine calls_of fun R H => ?_
  obtain ⟨r1, r2, r3⟩ := h.vs.read ha
  have HL := Lib.hid r3
  have HQ : Hid ((Bt.setB (nv s at1.toNat) bit on1).length = 64) := Lib.hid (by rw [Bt.setB_length]; exact r3)
  have HG : Hid (∀ W l, Lo [] w l W → Calls Tryz.prog 83 #[.pointer (some ⟨B, 0, none⟩), .int .i64 at1] W fun e w' => e = .returned (.agg (byteVals (nv s at1.toNat)).toArray) ∧ Below W.heap.size W w') := Lib.hid (fun W l hl => spage_any (Lo.ctx (L := []) hl h) at1 ha)
  have HE : Hid (∀ W l, Lo [] w l W → Calls Tryz.prog 66 #[.pointer (some ⟨B, 0, none⟩), .int .i64 at1, pageV (Bt.setB (nv s at1.toNat) bit on1)] W fun e w' => (e = .panicked [failE B] ∧ R (.panicked [failE B]) w') ∨ (e = .returned (.tuple #[]) ∧ R (.returned (.tuple #[])) w')) := Lib.hid (fun W l hl => (sput_step (Lo.ctx (L := []) hl h) at1 (Bt.setB (nv s at1.toNat) bit on1) ha HQ.out).mono fun e w' hE => Ends.unit H (Ends.later (hl.only.mono (by simp)) (Ends.same rfl hE)))
  have S := Lib.hid (Lo.start (L := []) w (by simp))
  clear h H r1 r2 r3 ha
  generalize hq : Bt.setB (nv s at1.toNat) bit on1 = q at HE HQ
  generalize nv s at1.toNat = p at HG HL hq
  have HQE := Lib.hid hq
  clear hq
  have hbl : (byteVals p).length = 64 := by rw [byteVals_length]; exact HL.out
  go_enter Tryz.func40, Tryz.ntmps40
  go_wp2_with (first
    | (go_at_call 83; refine (HG.out _ _ S.out).mono ?_; rintro e w1 ⟨rfl, hb⟩; replace S := Lib.hid (S.out.below hb); clear hb))
  rw [fold_page rfl HL.out]
  generalize hw : World.alloc _ _ = w2
  have S2 : Hid (Lo [] w [(w1.heap.size, byteVals p)] w2) := Lib.hid (by rw [← hw]; exact S.out.alloc _ rfl (byteVals p) _)
  have HSZ : Hid (w.heap.size ≤ w2.heap.size) := Lib.hid S2.out.only.size
  clear hw S
  have HBS : Hid (Calls Tryz.prog 85 #[.int .i64 bit, .bool on1, .slice (some ⟨w1.heap.size, 0, none⟩) 1 1] w2 fun e w' => ∃ v, e = .returned v ∧ OwnB w' w2.heap.size v 1 q ∧ Below w2.heap.size w2 w') := Lib.hid (by
    have := bset_any bit on1 (some ⟨w1.heap.size, 0, none⟩) 1 1 p w2 (row_of_page (S2.out.page 0 rfl HL.out) (S2.out.lt 0 _ rfl)) (by omega)
    rw [HQE.out] at this
    exact this)
  go_wp2_with (first
    | (go_at_call 85; (with_reducible refine HBS.out.mono ?_); rintro e w3 ⟨v, rfl, ho, hb⟩; obtain ⟨g, c, rfl, hg1, hg2, hgr⟩ := row_own ho; have S3 := Lib.hid (S2.out.below hb); have HGR := Lib.hid hgr; clear ho hb hgr)
    | (with_reducible refine wpList_load_mid rfl 97 (.tmp 17) rfl g 0 rfl (byteVals q) _ HGR.out Tryz.underlying97 rfl (by rw [page_info, byteVals_length, HQ.out]) ?_)
    | (go_at_call 66; refine (HE.out _ _ S3.out).mono ?_; rintro e w1 (⟨rfl, hR⟩ | ⟨rfl, hR⟩); (exact ⟨rfl, hR⟩)))
  go_end0
  exact hR
end

section
open Dk (zeros zeros_length)
open Go.RowKit
open Ii (Ino)
theorem iright_no (p i : Int) (x : Ino) (w : World) (h : Pl.rightB p i = false) :
    Calls Tryz.prog 79 #[inoV x, planV p i] w fun e w' => e = .returned (.bool false) ∧ Below w.heap.size w w' := by
  have HR : Hid (∀ w, Calls Tryz.prog 123 #[.agg #[.int .i64 p, .int .i64 i]] w fun e w' => e = .returned (.int .i64 0) ∧ Below w.heap.size w w') := Lib.hid (fun w => plRoom_no p i w h)
  have HS := Lib.hid (nrS_box w x (planL p i) 47 68)
  clear h
  unfold inoV planV
  go_enter Tryz.func79, Tryz.ntmps79
  go_wp2_with fail
  generalize hw : (w.alloc _).alloc _ = w1
  have S : Hid (NrS w x (planL p i) w1) := Lib.hid (by rw [← hw]; exact HS.out)
  clear hw HS
  go_wp2_with (first
    | (with_reducible refine wpList_load_rw planT S.out.plan rfl rfl (.tmp 3) rfl rfl ?_)
    | (go_at_call 123; (with_reducible refine (HR.out _).mono ?_); rintro e w' ⟨rfl, hb⟩; replace S := Lib.hid (S.out.call hb); clear hb))
  go_ret
  exact ⟨rfl, S.out.below⟩
theorem iright_zero (p i : Int) (x : Ino) (w : World) (h : Pl.rightB p i = true) (hk : x.k = 0) :
    Calls Tryz.prog 79 #[inoV x, planV p i] w fun e w' => e = .returned (.bool (Ii.zeroB x)) ∧ Below w.heap.size w w' := by
  obtain ⟨r1, r2, r3, r4⟩ := Pl.right_yes h
  have HR : Hid (∀ w, Calls Tryz.prog 123 #[.agg #[.int .i64 p, .int .i64 i]] w fun e w' => e = .returned (.int .i64 (p - Pl.dataN i)) ∧ Below w.heap.size w w') := Lib.hid (fun w => plRoom_yes p i w h)
  have HS := Lib.hid (nrS_box w x (planL p i) 47 68)
  have g0 : ((p - Pl.dataN i) == 0) = false := by rw [beq_eq_false_iff_ne]; omega
  have g1 : (x.k == 0) = true := by simpa using hk
  have E1 : ∀ (a b : Operand) (w : World), (eqGuard .eql 47 a b (.agg (inoL x).toArray) (.agg #[.int .i64 0, .int .i64 0, .int .i64 0, .int .i64 0, .int .i64 0, .int .i64 0, .int .i64 0, .int .i64 0, .int .i64 0, .int .i64 0, .int .i64 0])).run Tryz.prog w = .ok () w := fun a b w => run_eqGuard_ino w a b x Ii.zero
  have E2 : ∀ (w : World), (binOp .eql 47 (.agg (inoL x).toArray) (.agg #[.int .i64 0, .int .i64 0, .int .i64 0, .int .i64 0, .int .i64 0, .int .i64 0, .int .i64 0, .int .i64 0, .int .i64 0, .int .i64 0, .int .i64 0])).run Tryz.prog w = .ok (.bool (Ii.zeroB x)) w := fun w => run_zero_ino w x
  clear h hk r1 r2 r3 r4
  generalize p - Pl.dataN i = r at HR g0
  unfold inoV planV
  go_enter Tryz.func79, Tryz.ntmps79
  go_wp2_with fail
  generalize hw : (w.alloc _).alloc _ = w1
  have S : Hid (NrS w x (planL p i) w1) := Lib.hid (by rw [← hw]; exact HS.out)
  clear hw HS
  go_wp2_with (first
    | (with_reducible refine wpList_load_rw planT S.out.plan rfl rfl (.tmp 3) rfl rfl ?_)
    | (with_reducible refine wpList_load_rw inoT S.out.ino rfl rfl (.tmp 2) rfl rfl ?_)
    | (go_at_call 123; (with_reducible refine (HR.out _).mono ?_); rintro e w' ⟨rfl, hb⟩; replace S := Lib.hid (S.out.call hb); have hc0 := S.out.ino.cell 0 _ rfl; clear hb))
  go_ret
  exact ⟨rfl, S.out.below⟩
theorem iright_some (p i : Int) (x : Ino) (w : World) (h : Pl.rightB p i = true) (hk : x.k = 1 ∨ x.k = 2 ∨ x.k = 3) :
    Calls Tryz.prog 79 #[inoV x, planV p i] w fun e w' => e = .returned (.bool (Ii.cntB x && Ii.numsB p i x)) ∧ Below w.heap.size w w' := by
  obtain ⟨r1, r2, r3, r4⟩ := Pl.right_yes h
  have HR : Hid (∀ w, Calls Tryz.prog 123 #[.agg #[.int .i64 p, .int .i64 i]] w fun e w' => e = .returned (.int .i64 (p - Pl.dataN i)) ∧ Below w.heap.size w w') := Lib.hid (fun w => plRoom_yes p i w h)
  have HC : Hid (∀ w, Calls Tryz.prog 124 #[.agg (inoL x).toArray] w fun e w' => e = .returned (.bool (Ii.cntB x)) ∧ Below w.heap.size w w') := Lib.hid (fun w => counts_any x w)
  have HN : Hid (∀ w, Calls Tryz.prog 125 #[.agg #[.int .i64 x.k, .int .i64 x.p, .int .i64 x.u, .int .i64 x.l, .int .i64 x.s, .int .i64 x.a, .int .i64 x.b, .int .i64 x.c, .int .i64 x.d, .int .i64 x.e, .int .i64 x.f], .agg #[.int .i64 p, .int .i64 i]] w fun e w' => e = .returned (.bool (Ii.numsB p i x)) ∧ Below w.heap.size w w') := Lib.hid (fun w => numbers_any p i x w h)
  have HS := Lib.hid (nrS_box w x (planL p i) 47 68)
  have g0 : ((p - Pl.dataN i) == 0) = false := by rw [beq_eq_false_iff_ne]; omega
  have gk : (x.k == 0) = false := by rw [beq_eq_false_iff_ne]; omega
  have hk : (x.k == 1) = true ∨ ((x.k == 1) = false ∧ (x.k == 2) = true) ∨ ((x.k == 1) = false ∧ (x.k == 2) = false ∧ (x.k == 3) = true) := by
    simp only [beq_eq_false_iff_ne, beq_iff_eq]
    omega
  clear h r1 r2 r3 r4
  generalize p - Pl.dataN i = r at HR g0
  obtain ⟨b2, HE2⟩ : ∃ b, Hid (b = Ii.numsB p i x) := ⟨_, Lib.hid rfl⟩
  rw [← HE2.out] at HN ⊢
  clear HE2
  cases hb1 : Ii.cntB x
  all_goals
    rw [hb1] at HC
    simp only [Bool.false_and, Bool.true_and]
    clear hb1
    unfold inoV planV
    rcases hk with g1 | ⟨g1, g2⟩ | ⟨g1, g2, g3⟩
  all_goals
    go_enter Tryz.func79, Tryz.ntmps79
    go_wp2_with fail
    generalize hw : (w.alloc _).alloc _ = w1
    have S : Hid (NrS w x (planL p i) w1) := Lib.hid (by rw [← hw]; exact HS.out)
    clear hw HS
    go_wp2_with (first
      | (with_reducible refine wpList_load_rw planT S.out.plan rfl rfl (.tmp 3) rfl rfl ?_)
      | (with_reducible refine wpList_load_rw inoT S.out.ino rfl rfl (.tmp 2) rfl rfl ?_)
      | (go_at_call 123; (with_reducible refine (HR.out _).mono ?_); rintro e w' ⟨rfl, hb⟩; replace S := Lib.hid (S.out.call hb); have hc0 := S.out.ino.cell 0 _ rfl; clear hb)
      | (go_at_call 124; (with_reducible refine (HC.out _).mono ?_); rintro e w' ⟨rfl, hb⟩; clear hc0; replace S := Lib.hid (S.out.call hb); clear hb; have i0 := S.out.ino.cell 0 _ rfl; have i1 := S.out.ino.cell 1 _ rfl; have i2 := S.out.ino.cell 2 _ rfl; have i3 := S.out.ino.cell 3 _ rfl; have i4 := S.out.ino.cell 4 _ rfl; have i5 := S.out.ino.cell 5 _ rfl; have i6 := S.out.ino.cell 6 _ rfl; have i7 := S.out.ino.cell 7 _ rfl; have i8 := S.out.ino.cell 8 _ rfl; have i9 := S.out.ino.cell 9 _ rfl; have i10 := S.out.ino.cell 10 _ rfl; have j0 := S.out.plan.cell 0 _ rfl; have j1 := S.out.plan.cell 1 _ rfl)
      | (go_at_call 125; (with_reducible refine (HN.out _).mono ?_); rintro e w' ⟨rfl, hb⟩; clear i0 i1 i2 i3 i4 i5 i6 i7 i8 i9 i10 j0 j1; replace S := Lib.hid (S.out.call hb); clear hb))
    go_ret
    exact ⟨rfl, S.out.below⟩
theorem iright_else (p i : Int) (x : Ino) (w : World) (h : Pl.rightB p i = true) (hk : x.k < 0 ∨ 3 < x.k) :
    Calls Tryz.prog 79 #[inoV x, planV p i] w fun e w' => e = .returned (.bool false) ∧ Below w.heap.size w w' := by
  obtain ⟨r1, r2, r3, r4⟩ := Pl.right_yes h
  have HR : Hid (∀ w, Calls Tryz.prog 123 #[.agg #[.int .i64 p, .int .i64 i]] w fun e w' => e = .returned (.int .i64 (p - Pl.dataN i)) ∧ Below w.heap.size w w') := Lib.hid (fun w => plRoom_yes p i w h)
  have HS := Lib.hid (nrS_box w x (planL p i) 47 68)
  have g0 : ((p - Pl.dataN i) == 0) = false := by rw [beq_eq_false_iff_ne]; omega
  have gk : (x.k == 0) = false := by rw [beq_eq_false_iff_ne]; omega
  have g1 : (x.k == 1) = false := by rw [beq_eq_false_iff_ne]; omega
  have g2 : (x.k == 2) = false := by rw [beq_eq_false_iff_ne]; omega
  have g3 : (x.k == 3) = false := by rw [beq_eq_false_iff_ne]; omega
  clear h r1 r2 r3 r4 hk
  generalize p - Pl.dataN i = r at HR g0
  unfold inoV planV
  go_enter Tryz.func79, Tryz.ntmps79
  go_wp2_with fail
  generalize hw : (w.alloc _).alloc _ = w1
  have S : Hid (NrS w x (planL p i) w1) := Lib.hid (by rw [← hw]; exact HS.out)
  clear hw HS
  go_wp2_with (first
    | (with_reducible refine wpList_load_rw planT S.out.plan rfl rfl (.tmp 3) rfl rfl ?_)
    | (go_at_call 123; (with_reducible refine (HR.out _).mono ?_); rintro e w' ⟨rfl, hb⟩; replace S := Lib.hid (S.out.call hb); have hc0 := S.out.ino.cell 0 _ rfl; clear hb))
  go_ret
  exact ⟨rfl, S.out.below⟩
theorem iright_any (p i : Int) (x : Ino) (w : World) :
    Calls Tryz.prog 79 #[inoV x, planV p i] w fun e w' => e = .returned (.bool (Ii.rightI p i x)) ∧ Below w.heap.size w w' := by
  unfold Ii.rightI Ii.inB
  cases h : Pl.rightB p i with
  | false => exact iright_no p i x w h
  | true =>
    rw [Bool.true_and]
    by_cases k0 : x.k = 0
    · rw [if_pos k0]; exact iright_zero p i x w h k0
    · rw [if_neg k0]
      by_cases k1 : 1 ≤ x.k ∧ x.k ≤ 3
      · rw [decide_eq_true k1, Bool.true_and]; exact iright_some p i x w h (by omega)
      · rw [decide_eq_false k1, Bool.false_and]; exact iright_else p i x w h (by omega)
end
end Go.Proofs.YtmpfcgjjejlhdaaGreat
