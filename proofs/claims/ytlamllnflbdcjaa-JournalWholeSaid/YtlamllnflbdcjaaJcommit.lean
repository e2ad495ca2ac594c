/-
  The contract of a journal's commit.
-/
import Derived.Test.YtlamllnflbdcjaaJopen
namespace Go.Proofs.Ytlamllnflbdcjaa
open Go.RowKit
open Dk (zeros zeros_length)
open Hd (Head rightB pageH)
open Jn (Chg quietH liveH)

structure CmI (w : World) (j d l m a z : Nat) (o : Bool) (A : Option Addr) (cs : List Chg) (lb : Nat) (q : Int) (s : Dk.St) (W : World) : Prop where
  disk : DiskAt W d l m s
  jr : JAt W j d a z q o
  rows : RowsAt W lb (Jn.layN cs)
  lt : lb < W.heap.size
  far : lb ∉ [d, l, m, j]
  row : ChAt W A [d, l, m, j] cs
  only : Only [d, l, m, j] w W
theorem CmI.step {w : World} {j d l m a z : Nat} {o : Bool} {A : Option Addr} {cs : List Chg} {lb : Nat} {q q' : Int} {s s' : Dk.St} {W W' : World} {L : List Nat} (h : CmI w j d l m a z o A cs lb q s W) (ho : Only L W W') (hL : ∀ x ∈ L, x ∈ [d, l, m, j]) (hd : DiskAt W' d l m s') (hj : JAt W' j d a z q' o) : CmI w j d l m a z o A cs lb q' s' W' :=
  ⟨hd, hj, h.rows.block (ho.block lb h.lt (fun e => h.far (hL _ e))), Nat.lt_of_lt_of_le h.lt ho.size, h.far, h.row.only ho hL, h.only.trans (ho.mono hL)⟩
theorem CmI.below {w : World} {j d l m a z : Nat} {o : Bool} {A : Option Addr} {cs : List Chg} {lb : Nat} {q : Int} {s : Dk.St} {W W' : World} (h : CmI w j d l m a z o A cs lb q s W) (hb : Below W.heap.size W W') : CmI w j d l m a z o A cs lb q s W' :=
  h.step (Only.below (l := []) hb) (by simp) (h.disk.below hb) (h.jr.below hb)
theorem CmI.rows' {w : World} {j d l m a z : Nat} {o : Bool} {A : Option Addr} {cs : List Chg} {lb : Nat} {q : Int} {s : Dk.St} {W : World} (h : CmI w j d l m a z o A cs lb q s W) : RowsAt W lb (Jn.layN cs) := h.rows
theorem CmI.below' {w : World} {j d l m a z : Nat} {o : Bool} {A : Option Addr} {cs : List Chg} {lb : Nat} {q : Int} {s : Dk.St} {W W' : World} (h : CmI w j d l m a z o A cs lb q s W) (hb : Below W.heap.size W W') : CmI w j d l m a z o A cs lb q s W' := h.below hb
theorem CmI.c3 {w : World} {j d l m a z : Nat} {o : Bool} {A : Option Addr} {cs : List Chg} {lb : Nat} {q : Int} {s : Dk.St} {W : World} (h : CmI w j d l m a z o A cs lb q s W) : W.cell? ⟨j, 3, none⟩ = some (.int .i64 q) := h.jr.c3

/-- how a commit ends -/
def Done (w : World) (j d l m a z : Nat) (o : Bool) (q : Int) (R : Dk.St × Int) (e : Ending) (w' : World) : Prop :=
  e = .returned (.int .i64 R.2) ∧ DiskAt w' d l m R.1 ∧ (∃ q', JAt w' j d a z q' o ∧ (R.2 = 0 → q' = q + 2)) ∧ Only [d, l, m, j] w w'
set_option maxRecDepth 100000 in
set_option maxHeartbeats 4000000 in
theorem commit_any {w : World} {j d l m a z : Nat} {q : Int} {o : Bool} {s : Dk.St} {cs : List Chg} (hj : JAt w j d a z q o) (h : DiskAt w d l m s) (hjd : j ∉ [d, l, m]) (ha : a ≤ 900) (hz : z ≤ 900) (A : Option Addr) (c : Nat) (hrow : ChAt w A [d, l, m, j] cs) (hm : Jn.May a z s.last.length cs) (hq0 : 0 ≤ q) (hq1 : q < 4294967290) :
    Calls Try.prog 20 #[.pointer (some ⟨j, 0, none⟩), .slice A cs.length c] w (Done w j d l m a z o q (Jn.runs s (Jn.steps a q cs))) := by
  have HJD := Lib.hid hjd
  have HPG : Hid (∀ x ∈ cs, x.page.length = 64) := Lib.hid (fun x hx => (hm.val x hx).2)
  have HPL := Lib.hid (Jn.layN_pages HPG.out)
  have HLL := Lib.hid (Jn.layN_length cs)
  have HLY := Lib.hid (layout_any A c cs (hrow.mono (by simp)) HPG.out hm.pos hm.few)
  have HI0 : Hid (∀ W lb, RowsAt W lb (Jn.layN cs) → w.heap.size ≤ lb → lb < W.heap.size → Below w.heap.size w W → CmI w j d l m a z o A cs lb q s W) := Lib.hid (fun W lb h1 h2 h3 hb => ⟨h.below hb, hj.below hb, h1, h3, by have := h.dlt; have := h.llt; have := h.mlt; have := hj.lt; simp; omega, hrow.below hb, Only.below hb⟩)
  have HPT : Hid (∀ W lb, CmI w j d l m a z o A cs lb q s W → Calls Try.prog 30 #[regV d a z, .int .i64 ((a : Int) + 1), .slice (some ⟨lb, 0, none⟩) (1 + cs.length) (1 + cs.length)] W fun e w' => e = .returned (.int .i64 (Jn.runW s (Jn.layAt (a + 1) (Jn.layN cs))).2) ∧ CmI w j d l m a z o A cs lb q (Jn.runW s (Jn.layAt (a + 1) (Jn.layN cs))).1 w') := Lib.hid (fun W lb hW => by
    have := put_any hW.disk a (a + 1) z (some ⟨lb, 0, none⟩) (1 + cs.length) (Jn.layN cs) (hW.rows.slice (fun e => hW.far (by simp at e ⊢; omega))) HPL.out (by rw [HLL.out]; have := hm.few; omega) (by omega)
    rw [HLL.out, show ((a + 1 : Nat) : Int) = (a : Int) + 1 by omega] at this
    exact this.mono fun e w' ⟨h1, h2, h3⟩ => ⟨h1, hW.step h3 (by simp) h2 (hW.jr.only h3 hjd)⟩)
  have HSM : Hid (∀ W lb, RowsAt W lb (Jn.layN cs) → Calls Try.prog 31 #[.slice (some ⟨lb, 0, none⟩) (1 + cs.length) (1 + cs.length)] W fun e w' => e = .returned (.int .u32 (Jn.sumN (Jn.layN cs))) ∧ Below W.heap.size W w') := Lib.hid (fun W lb hT => by
    have hrow := (hT.slice (L := []) (by simp)).row (by rw [HLL.out]; have := hm.few; omega) hT.size
    rw [HLL.out] at hrow
    exact sumPages_any _ _ (1 + cs.length) _ W hrow (by have := hm.few; omega) (by omega))
  have HRT : Hid (rightB (liveH (q + 1) cs) = true) := Lib.hid (Jn.live_right (by omega) (by omega) hm.pos (by have := hm.few; omega))
  have HSB := Lib.hid (Jn.sumN_bd (Jn.layN cs))
  have HLD0 : Hid (∀ W lb s1, CmI w j d l m a z o A cs lb q s1 W → Calls Try.prog 24 #[.pointer (some ⟨j, 0, none⟩), headV (liveH (q + 1) cs)] W fun e w' => e = .returned (.int .i64 (Jn.runW s1 [⟨(a : Int), pageH (liveH (q + 1) cs)⟩]).2) ∧ CmI w j d l m a z o A cs lb (q + 1) (Jn.runW s1 [⟨(a : Int), pageH (liveH (q + 1) cs)⟩]).1 w') := Lib.hid (fun W lb s1 hW => (lead_any hW.jr hW.disk hjd ha (liveH (q + 1) cs) HRT.out HSB.out.1 HSB.out.2).mono fun e w' ⟨h1, h2, h3, h4⟩ => ⟨h1, hW.step h4 (by simp) h2 h3⟩)
  have HAP : Hid (∀ W lb s1, CmI w j d l m a z o A cs lb (q + 1) s1 W → Calls Try.prog 27 #[regV d a z, .slice A cs.length c] W fun e w' => e = .returned (.int .i64 (Jn.runW s1 cs).2) ∧ CmI w j d l m a z o A cs lb (q + 1) (Jn.runW s1 cs).1 w') := Lib.hid (fun W lb s1 hW => (apply_any hW.disk a z A c cs (hW.row.mono (by simp)) HPG.out (by have := hm.few; omega)).mono fun e w' ⟨h1, h2, h3⟩ => ⟨h1, hW.step h3 (by simp) h2 (hW.jr.only h3 hjd)⟩)
  have HLE : Hid (∀ W lb s1, CmI w j d l m a z o A cs lb (q + 1) s1 W → Calls Try.prog 24 #[.pointer (some ⟨j, 0, none⟩), .agg #[.int .i64 (q + 1 + 1), .bool false, .int .i64 0, .int .u32 0]] W fun e w' => e = .returned (.int .i64 (Jn.runW s1 [⟨(a : Int), pageH (quietH (q + 2))⟩]).2) ∧ CmI w j d l m a z o A cs lb (q + 2) (Jn.runW s1 [⟨(a : Int), pageH (quietH (q + 2))⟩]).1 w') := Lib.hid (fun W lb s1 hW => by
    rw [show q + 1 + 1 = q + 2 by omega]
    exact (lead_any hW.jr hW.disk hjd ha (quietH (q + 2)) (Jn.quietH_right (by omega) (by omega)) (Int.le_refl 0) (show (0 : Int) < 4294967296 by omega)).mono fun e w' ⟨h1, h2, h3, h4⟩ => ⟨h1, hW.step h4 (by simp) h2 h3⟩)
  have hk32 := hm.few
  have HHV0 : Hid (∀ k : Nat, cs.length = k → Value.agg #[.int .i64 (q + 1), .bool true, .int .i64 (k : Int), .int .u32 (Jn.sumN (Jn.layN cs))] = headV (liveH (q + 1) cs)) := Lib.hid (fun k hk => by rw [← hk]; rfl)
  clear h hj hjd hrow hm
  have HST : Hid (Jn.steps a q cs = [Jn.layAt (a + 1) (Jn.layN cs), [⟨(a : Int), pageH (liveH (q + 1) cs)⟩], cs, [⟨(a : Int), pageH (quietH (q + 2))⟩]]) := Lib.hid rfl
  generalize hsteps : Jn.runs s (Jn.steps a q cs) = R
  rw [HST.out] at hsteps
  have HRS := Lib.hid hsteps
  clear hsteps HST
  obtain ⟨k, hk⟩ : ∃ k, cs.length = k := ⟨_, rfl⟩
  have HHV := Lib.hid (HHV0.out k hk)
  rw [hk] at HLY HPT HSM HAP hk32 ⊢
  clear hk HHV0
  generalize hhh : liveH (q + 1) cs = hh at HLD0 HHV HRS
  clear hhh
  have hq3 : IntKind.i64.wrap ((a : Int) + 1) = (a : Int) + 1 := IntWalk.i64_in _ (by omega)
  have hq4 : IntKind.i64.wrap (q + 1) = q + 1 := IntWalk.i64_in _ (by omega)
  go_enter Try.func20, Try.ntmps20
  go_wp2_with fail
  refine HLY.out.mono ?_
  rintro e w1 ⟨lb, rfl, hr1, hl1, hl2, hB1⟩
  have HI1 := Lib.hid (HI0.out _ _ hr1 hl1 hl2 hB1)
  clear hr1 hl1 hl2 hB1 HI0 HLY
  replace HPT := Lib.hid (fun W => HPT.out W lb)
  go_wp2_with fail
  refine wp_region_noPanic ?_
  refine wp_region_held_drew (S := fun W => JAt W j d a z q o) (by kernel_rfl) (HI1.out.jr.below (Below.refl _ _).drew) (fun hHeld => ?_)
  have HI2 := Lib.hid (HI1.out.below (Below.refl _ _).drew)
  clear HI1
  generalize w1.drew = w2 at HI2 hHeld ⊢
  refine take_at (i := 0) (d := some 11) (v := .pointer (some ⟨j, 0, none⟩)) rfl rfl (by kernel_rfl) (by kernel_rfl) (by kernel_rfl) (fun _ _ _ h => h) (Or.inl ⟨by kernel_rfl, ?_⟩) hHeld ?_
  · intro w hSw; have c1 := hSw.c1; go_simp
  (try simp only [Act.put, List.setIfInBounds_toArray, List.set_cons_zero, List.set_cons_succ])
  refine take_at (i := 1) (d := some 12) (v := .pointer (some ⟨j, 0, none⟩)) rfl rfl (by kernel_rfl) (by kernel_rfl) (by kernel_rfl) (fun _ _ _ h => h) (Or.inl ⟨by kernel_rfl, ?_⟩) hHeld ?_
  · intro w hSw; have c1 := hSw.c1; go_simp
  (try simp only [Act.put, List.setIfInBounds_toArray, List.set_cons_zero, List.set_cons_succ])
  refine take_at (i := 2) (d := some 13) (v := .pointer (some ⟨j, 0, none⟩)) rfl rfl (by kernel_rfl) (by kernel_rfl) (by kernel_rfl) (fun _ _ _ h => h) (Or.inl ⟨by kernel_rfl, ?_⟩) hHeld ?_
  · intro w hSw; have c1 := hSw.c1; go_simp
  (try simp only [Act.put, List.setIfInBounds_toArray, List.set_cons_zero, List.set_cons_succ])
  refine take_at (i := 3) (d := some 14) (v := regV d a z) rfl rfl (by kernel_rfl) (by kernel_rfl) (by kernel_rfl) (fun _ _ _ h => h) (yields_reg (by kernel_rfl) (.tmp 13) rfl rfl (fun _ hSw => hSw.reg)) hHeld ?_
  (try simp only [Act.put, List.setIfInBounds_toArray, List.set_cons_zero, List.set_cons_succ])
  refine take_at (i := 4) (d := some 15) (v := .pointer (some ⟨j, 0, none⟩)) rfl rfl (by kernel_rfl) (by kernel_rfl) (by kernel_rfl) (fun _ _ _ h => h) (Or.inl ⟨by kernel_rfl, ?_⟩) hHeld ?_
  · intro w hSw; have c1 := hSw.c1; go_simp
  (try simp only [Act.put, List.setIfInBounds_toArray, List.set_cons_zero, List.set_cons_succ])
  refine take_at (i := 5) (d := some 16) (v := .pointer (some ⟨j, 0, none⟩)) rfl rfl (by kernel_rfl) (by kernel_rfl) (by kernel_rfl) (fun _ _ _ h => h) (Or.inl ⟨by kernel_rfl, ?_⟩) hHeld ?_
  · intro w hSw; have c1 := hSw.c1; go_simp
  (try simp only [Act.put, List.setIfInBounds_toArray, List.set_cons_zero, List.set_cons_succ])
  refine take_at (i := 6) (d := some 17) (v := .pointer (some ⟨j, 0, none⟩)) rfl rfl (by kernel_rfl) (by kernel_rfl) (by kernel_rfl) (fun _ _ _ h => h) (Or.inl ⟨by kernel_rfl, ?_⟩) hHeld ?_
  · intro w hSw; have c1 := hSw.c1; go_simp
  (try simp only [Act.put, List.setIfInBounds_toArray, List.set_cons_zero, List.set_cons_succ])
  refine take_at (i := 7) (d := some 18) (v := .pointer (some ⟨j, 1, none⟩)) rfl rfl (by kernel_rfl) (by kernel_rfl) (by kernel_rfl) (fun _ _ _ h => h) (Or.inl ⟨by kernel_rfl, ?_⟩) hHeld ?_
  · intro w hSw; have c1 := hSw.c1; go_simp
  (try simp only [Act.put, List.setIfInBounds_toArray, List.set_cons_zero, List.set_cons_succ])
  refine take_at (i := 8) (d := some 19) (v := .int .i64 (a : Int)) rfl rfl (by kernel_rfl) (by kernel_rfl) (by kernel_rfl) (fun _ _ _ h => h) (Or.inl ⟨by kernel_rfl, ?_⟩) hHeld ?_
  · intro w hSw; have c1 := hSw.c1; go_simp
  (try simp only [Act.put, List.setIfInBounds_toArray, List.set_cons_zero, List.set_cons_succ])
  refine take_at (i := 9) (d := some 20) (v := .int .i64 ((a : Int) + 1)) rfl rfl (by kernel_rfl) (by kernel_rfl) (by kernel_rfl) (fun _ _ _ h => h) (Or.inl ⟨by kernel_rfl, ?_⟩) hHeld ?_
  · intro w hSw; have c1 := hSw.c1; go_simp
  (try simp only [Act.put, List.setIfInBounds_toArray, List.set_cons_zero, List.set_cons_succ])
  refine take_at (i := 10) (d := some 21) (v := .slice (some ⟨lb, 0, none⟩) (1 + k) (1 + k)) rfl rfl (by kernel_rfl) (by kernel_rfl) (by kernel_rfl) (fun _ _ _ h => h) (Or.inl ⟨by kernel_rfl, ?_⟩) hHeld ?_
  · intro w hSw; have c1 := hSw.c1; go_simp
  (try simp only [Act.put, List.setIfInBounds_toArray, List.set_cons_zero, List.set_cons_succ])
  refine wpAnyH_ready (rs := [11]) (by kernel_rfl) (by simp) ?_
  refine AllReadyH.cons rfl (fun K hK => ?_) AllReadyH.nil
  go_simp
  (go_at_call 30; refine (HPT.out _ HI2.out).mono ?_; rintro e w3 ⟨rfl, hI3⟩; have HI3 := Lib.hid hI3; clear hI3)
  (try go_wp2_with fail)
  refine hK.out _ _ HI3.out.jr (fun hHeld => ?_)
  clear hK K
  (try simp only [Act.put, List.setIfInBounds_toArray, List.set_cons_zero, List.set_cons_succ])
  refine take_at (i := 12) (d := some 6) (v := .int .i64 (Jn.runW s (Jn.layAt (a + 1) (Jn.layN cs))).2) rfl rfl (by kernel_rfl) (by kernel_rfl) (by kernel_rfl) (fun _ _ _ h => h) (Or.inl ⟨by kernel_rfl, ?_⟩) hHeld ?_
  · intro w hSw; have c1 := hSw.c1; go_simp
  (try simp only [Act.put, List.setIfInBounds_toArray, List.set_cons_zero, List.set_cons_succ])
  refine wpAnyH_done (by kernel_rfl) ?_ _
  refine NoPanic.normal ?_
  by_cases hE1 : (Jn.runW s (Jn.layAt (a + 1) (Jn.layN cs))).2 = 0
  · have HR1 : Hid (R = Jn.runs (Jn.runW s (Jn.layAt (a + 1) (Jn.layN cs))).1 [[⟨(a : Int), pageH hh⟩], cs, [⟨(a : Int), pageH (quietH (q + 2))⟩]]) := Lib.hid (by rw [← HRS.out, runs_ok hE1])
    rw [hE1]
    clear hE1 HRS HPT HI2 hHeld
    generalize (Jn.runW s (Jn.layAt (a + 1) (Jn.layN cs))).1 = s1 at HI3 HR1
    have HLD1 := Lib.hid (fun W => HLD0.out W lb s1)
    have HRP : Hid (∀ (X : Dk.St × Int) , X = Jn.runW s1 [⟨(a : Int), pageH hh⟩] → X = Jn.runW s1 [⟨(a : Int), pageH hh⟩]) := Lib.hid (fun _ h => h)
    obtain ⟨X2, hX2⟩ : ∃ X, X = Jn.runW s1 [⟨(a : Int), pageH hh⟩] := ⟨_, rfl⟩
    rw [← hX2] at HLD1
    have HX2 := Lib.hid hX2
    clear hX2 HRP
    obtain ⟨s2, E2⟩ := X2
    simp only at HLD1
    have HLD : Hid (∀ W, CmI w j d l m a z o A cs lb (if false = true then q + 1 else q) (if false = true then s2 else s1) W → Calls Try.prog 24 #[.pointer (some ⟨j, 0, none⟩), headV hh] W fun e w' => e = .returned (.int .i64 E2) ∧ CmI w j d l m a z o A cs lb (if true = true then q + 1 else q) (if true = true then s2 else s1) w') := Lib.hid (fun W hW => HLD1.out W hW)
    clear HLD0 HLD1
    go_wp2_with fail
    refine wp_region_lin (fun (b : Bool) => CmI w j d l m a z o A cs lb (if b = true then q + 1 else q) (if b = true then s2 else s1)) (fun i => i == 4 || i == 11) (fun i => [.pointer (some ⟨j, 0, none⟩), .pointer (some ⟨j, 0, none⟩), .pointer (some ⟨j, 0, none⟩), .pointer (some ⟨j, 3, none⟩), undef, .int .i64 (q + 1), .slice A k c, .int .i64 (k : Int), .slice (some ⟨lb, 0, none⟩) (1 + k) (1 + k), .int .u32 (Jn.sumN (Jn.layN cs)), headV hh, undef, .int .i64 E2].getD i undef) (false) (by kernel_rfl) (by kernel_rfl) (HI3.out.below (Below.refl _ _).drew) ?_
    refine lin_step (i := 0) (d := some 26) (v := .pointer (some ⟨j, 0, none⟩)) rfl rfl (by kernel_rfl) (by kernel_rfl) rfl rfl (ord_value (by kernel_rfl) ?_) ?_
    · intro _ _ hS; go_simp
    (try simp only [Act.put, List.setIfInBounds_toArray, List.set_cons_zero, List.set_cons_succ])
    refine lin_step (i := 1) (d := some 27) (v := .pointer (some ⟨j, 0, none⟩)) rfl rfl (by kernel_rfl) (by kernel_rfl) rfl rfl (ord_value (by kernel_rfl) ?_) ?_
    · intro _ _ hS; go_simp
    (try simp only [Act.put, List.setIfInBounds_toArray, List.set_cons_zero, List.set_cons_succ])
    refine lin_step (i := 2) (d := some 28) (v := .pointer (some ⟨j, 0, none⟩)) rfl rfl (by kernel_rfl) (by kernel_rfl) rfl rfl (ord_value (by kernel_rfl) ?_) ?_
    · intro _ _ hS; go_simp
    (try simp only [Act.put, List.setIfInBounds_toArray, List.set_cons_zero, List.set_cons_succ])
    refine lin_step (i := 3) (d := some 29) (v := .pointer (some ⟨j, 3, none⟩)) rfl rfl (by kernel_rfl) (by kernel_rfl) rfl rfl (ord_value (by kernel_rfl) ?_) ?_
    · intro _ _ hS; go_simp
    (try simp only [Act.put, List.setIfInBounds_toArray, List.set_cons_zero, List.set_cons_succ])
    refine lin_turnD (i := 4) (d := some 30) [5, 10, 11] (fun u s => u = .int .i64 q ∧ s = false) rfl rfl (by kernel_rfl) (by kernel_rfl) rfl (by kernel_rfl) (⟨_, _, rfl, rfl⟩) (by kernel_rfl) (fun W hS => gives_value (v := .int .i64 q) (by have c3 := CmI.c3 hS; go_simp) ⟨false, ⟨rfl, rfl⟩, hS⟩) ?_
    rintro _ _ ⟨rfl, rfl⟩
    (try simp only [Act.put, List.setIfInBounds_toArray, List.set_cons_zero, List.set_cons_succ])
    refine lin_step (i := 5) (d := some 31) (v := .int .i64 (q + 1)) rfl rfl (by kernel_rfl) (by kernel_rfl) rfl rfl (ord_value (by kernel_rfl) ?_) ?_
    · intro _ _ hS; go_simp
    (try simp only [Act.put, List.setIfInBounds_toArray, List.set_cons_zero, List.set_cons_succ])
    refine lin_step (i := 6) (d := some 32) (v := .slice A k c) rfl rfl (by kernel_rfl) (by kernel_rfl) rfl rfl (ord_value (by kernel_rfl) ?_) ?_
    · intro _ _ hS; go_simp
    (try simp only [Act.put, List.setIfInBounds_toArray, List.set_cons_zero, List.set_cons_succ])
    refine lin_step (i := 7) (d := some 33) (v := .int .i64 (k : Int)) rfl rfl (by kernel_rfl) (by kernel_rfl) rfl rfl (ord_value (by kernel_rfl) ?_) ?_
    · intro _ _ hS; go_simp
    (try simp only [Act.put, List.setIfInBounds_toArray, List.set_cons_zero, List.set_cons_succ])
    refine lin_step (i := 8) (d := some 34) (v := .slice (some ⟨lb, 0, none⟩) (1 + k) (1 + k)) rfl rfl (by kernel_rfl) (by kernel_rfl) rfl rfl (ord_value (by kernel_rfl) ?_) ?_
    · intro _ _ hS; go_simp
    (try simp only [Act.put, List.setIfInBounds_toArray, List.set_cons_zero, List.set_cons_succ])
    refine lin_step (i := 9) (d := some 35) (v := .int .u32 (Jn.sumN (Jn.layN cs))) rfl rfl (by kernel_rfl) (by kernel_rfl) rfl rfl (ord_call (f := 31) (args := #[.slice (some ⟨lb, 0, none⟩) (1 + k) (1 + k)]) (by kernel_rfl) ?_ (fun b W hS => (HSM.out W lb (CmI.rows' hS)).mono fun _ _ ⟨he, hb⟩ => ⟨he, CmI.below' hS hb⟩)) ?_
    · intro _; go_simp
    (try simp only [Act.put, List.setIfInBounds_toArray, List.set_cons_zero, List.set_cons_succ])
    refine lin_step (i := 10) (d := some 36) (v := headV hh) rfl rfl (by kernel_rfl) (by kernel_rfl) rfl rfl (ord_value (by kernel_rfl) ?_) ?_
    · intro _ _ _; go_simp; exact HHV.out
    (try simp only [Act.put, List.setIfInBounds_toArray, List.set_cons_zero, List.set_cons_succ])
    refine lin_turnD (i := 11) (d := some 37) [] (fun u s => u = .int .i64 E2 ∧ s = true) rfl rfl (by kernel_rfl) (by kernel_rfl) rfl (by kernel_rfl) (⟨_, _, rfl, rfl⟩) (by kernel_rfl) (fun W hS => gives_call (f := 24) (args := #[.pointer (some ⟨j, 0, none⟩), headV hh]) (by go_simp) ((HLD.out W hS).mono fun e w' ⟨he, hS'⟩ => ⟨_, he, true, ⟨rfl, rfl⟩, hS'⟩)) ?_
    rintro _ _ ⟨rfl, rfl⟩
    (try simp only [Act.put, List.setIfInBounds_toArray, List.set_cons_zero, List.set_cons_succ])
    refine lin_step (i := 12) (d := some 7) (v := .int .i64 E2) rfl rfl (by kernel_rfl) (by kernel_rfl) rfl rfl (ord_value (by kernel_rfl) ?_) ?_
    · intro _ _ hS; go_simp
    (try simp only [Act.put, List.setIfInBounds_toArray, List.set_cons_zero, List.set_cons_succ])
    refine lin_done (by kernel_rfl) ?_
    intro w4 hS4
    have HI4 : Hid (CmI w j d l m a z o A cs lb (q + 1) s2 w4) := Lib.hid hS4
    clear hS4 HI3 HLD HSM
    by_cases hE2 : E2 = 0
    · have HR2 : Hid (R = Jn.runs s2 [cs, [⟨(a : Int), pageH (quietH (q + 2))⟩]]) := Lib.hid (by rw [HR1.out, runs_ok (by rw [← HX2.out]; exact hE2), ← HX2.out])
      subst hE2
      clear HR1 HX2
      go_wp2_with (with_reducible refine wpList_load_reg HI4.out.jr.reg rfl (.tmp 43) rfl rfl ?_)
      refine (HAP.out _ _ _ HI4.out).mono ?_
      rintro e w5 ⟨rfl, hI5⟩
      have HI5 := Lib.hid hI5
      clear hI5 HI4
      by_cases hE3 : (Jn.runW s2 cs).2 = 0
      · have HR3 : Hid (R = Jn.runW (Jn.runW s2 cs).1 [⟨(a : Int), pageH (quietH (q + 2))⟩]) := Lib.hid (by rw [HR2.out, runs_ok hE3, runs_one])
        rw [hE3]
        clear hE3 HR2
        have c3 := CmI.c3 HI5.out
        go_wp2_with fail
        refine (HLE.out _ _ _ HI5.out).mono ?_
        rintro e w6 ⟨rfl, hI6⟩
        have HI6 := Lib.hid hI6
        clear hI6 HI5 c3
        go_wp2_with fail
        go_ret
        rw [HR3.out]
        exact ⟨rfl, HI6.out.disk, ⟨_, HI6.out.jr, fun _ => rfl⟩, HI6.out.only⟩
      · have HR3 : Hid (R = Jn.runW s2 cs) := Lib.hid (by rw [HR2.out, runs_bad hE3])
        have HNE := Lib.hid hE3
        have hne2 : ((Jn.runW s2 cs).2 == 0) = false := by simpa using hE3
        have hne3 : ((Jn.runW s2 cs).2 != 0) = true := by simpa using hE3
        clear hE3 HR2
        go_wp2_with fail
        go_ret
        rw [HR3.out]
        exact ⟨rfl, HI5.out.disk, ⟨_, HI5.out.jr, fun e => absurd e HNE.out⟩, HI5.out.only⟩
    · have HR2 : Hid (R = (s2, E2)) := Lib.hid (by rw [HR1.out, runs_bad (by rw [← HX2.out]; exact hE2), ← HX2.out])
      have HNE := Lib.hid hE2
      have hne2 : (E2 == 0) = false := by simpa using hE2
      have hne3 : (E2 != 0) = true := by simpa using hE2
      clear hE2 HR1
      go_wp2_with fail
      go_ret
      rw [HR2.out]
      exact ⟨rfl, HI4.out.disk, ⟨_, HI4.out.jr, fun e => absurd e HNE.out⟩, HI4.out.only⟩
  · have HR1 : Hid (R = Jn.runW s (Jn.layAt (a + 1) (Jn.layN cs))) := Lib.hid (by rw [← HRS.out, runs_bad hE1])
    have HNE := Lib.hid hE1
    have hne2 : ((Jn.runW s (Jn.layAt (a + 1) (Jn.layN cs))).2 == 0) = false := by simpa using hE1
    have hne3 : ((Jn.runW s (Jn.layAt (a + 1) (Jn.layN cs))).2 != 0) = true := by simpa using hE1
    clear hE1 HRS
    go_wp2_with fail
    go_ret
    rw [HR1.out]
    exact ⟨rfl, HI3.out.disk, ⟨_, HI3.out.jr, fun e => absurd e HNE.out⟩, HI3.out.only⟩
end Go.Proofs.Ytlamllnflbdcjaa
