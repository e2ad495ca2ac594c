/-
  The contract of a journal's commit.
-/
import Derived.Test.YtppbiohjhnoagaaGreatMjd
namespace Go.Proofs.YtppbiohjhnoagaaGreat
open Go.RowKit
open Dk (zeros zeros_length)
open Hd (Head rightB pageH)
open Jn (Chg quietH liveH)

structure CmI (w : World) (j d l m a z : Nat) (o : Bool) (A : Option Addr) (cs : List Chg) (lb : Nat) (q : Int) (s : Dk.St) (W : World) : Prop where
  disk : DiskAt W d l m s
  jr : JAt W j d a z q o
  rows : RowsAt W lb (Jn.layN cs)
  lt : lb < W.heap.size
  far : lb ∉ [d, l, m, j]
  row : ChAt W A [d, l, m, j] cs
  only : Only [d, l, m, j] w W
set_option maxRecDepth 100000 in
theorem CmI.step {w : World} {j d l m a z : Nat} {o : Bool} {A : Option Addr} {cs : List Chg} {lb : Nat} {q q' : Int} {s s' : Dk.St} {W W' : World} {L : List Nat} (h : CmI w j d l m a z o A cs lb q s W) (ho : Only L W W') (hL : ∀ x ∈ L, x ∈ [d, l, m, j]) (hd : DiskAt W' d l m s') (hj : JAt W' j d a z q' o) : CmI w j d l m a z o A cs lb q' s' W' :=
  ⟨hd, hj, h.rows.block (ho.block lb h.lt (fun e => h.far (hL _ e))), Nat.lt_of_lt_of_le h.lt ho.size, h.far, h.row.only ho hL, h.only.trans (ho.mono hL)⟩
set_option maxRecDepth 100000 in
theorem CmI.below {w : World} {j d l m a z : Nat} {o : Bool} {A : Option Addr} {cs : List Chg} {lb : Nat} {q : Int} {s : Dk.St} {W W' : World} (h : CmI w j d l m a z o A cs lb q s W) (hb : Below W.heap.size W W') : CmI w j d l m a z o A cs lb q s W' :=
  h.step (Only.below (l := []) hb) (by simp) (h.disk.below hb) (h.jr.below hb)
set_option maxRecDepth 100000 in
theorem CmI.rows' {w : World} {j d l m a z : Nat} {o : Bool} {A : Option Addr} {cs : List Chg} {lb : Nat} {q : Int} {s : Dk.St} {W : World} (h : CmI w j d l m a z o A cs lb q s W) : RowsAt W lb (Jn.layN cs) := h.rows
set_option maxRecDepth 100000 in
theorem CmI.below' {w : World} {j d l m a z : Nat} {o : Bool} {A : Option Addr} {cs : List Chg} {lb : Nat} {q : Int} {s : Dk.St} {W W' : World} (h : CmI w j d l m a z o A cs lb q s W) (hb : Below W.heap.size W W') : CmI w j d l m a z o A cs lb q s W' := h.below hb
set_option maxRecDepth 100000 in
theorem CmI.c3 {w : World} {j d l m a z : Nat} {o : Bool} {A : Option Addr} {cs : List Chg} {lb : Nat} {q : Int} {s : Dk.St} {W : World} (h : CmI w j d l m a z o A cs lb q s W) : W.cell? ⟨j, 3, none⟩ = some (.int .i64 q) := h.jr.c3

/-- how a commit ends -/
def Done (w : World) (j d l m a z : Nat) (o : Bool) (q : Int) (R : Dk.St × Int) (e : Ending) (w' : World) : Prop :=
  e = .returned (.int .i64 R.2) ∧ DiskAt w' d l m R.1 ∧ (∃ q', JAt w' j d a z q' o ∧ (R.2 = 0 → q' = q + 2)) ∧ Only [d, l, m, j] w w'
set_option maxRecDepth 100000 in
set_option maxHeartbeats 4000000 in
theorem commit_any {w : World} {j d l m a z : Nat} {q : Int} {o : Bool} {s : Dk.St} {cs : List Chg} (hj : JAt w j d a z q o) (h : DiskAt w d l m s) (hjd : j ∉ [d, l, m]) (ha : a ≤ 900) (_hz : z ≤ 900) (A : Option Addr) (c : Nat) (hrow : ChAt w A [d, l, m, j] cs) (hm : Jn.May a z s.last.length cs) (hq0 : 0 ≤ q) (hq1 : q < 4294967290) :
    Calls Tryz.prog 59 #[.pointer (some ⟨j, 0, none⟩), .slice A cs.length c] w (Done w j d l m a z o q (Jn.runs s (Jn.steps a q cs))) := by
  have HJD := Lib.hid hjd
  have HPG : Hid (∀ x ∈ cs, x.page.length = 64) := Lib.hid (fun x hx => (hm.val x hx).2)
  have HPL := Lib.hid (Jn.layN_pages HPG.out)
  have HLL := Lib.hid (Jn.layN_length cs)
  have HLY := Lib.hid (layout_any A c cs (hrow.mono (by simp)) HPG.out hm.pos hm.few)
  have HI0 : Hid (∀ W lb, RowsAt W lb (Jn.layN cs) → w.heap.size ≤ lb → lb < W.heap.size → Below w.heap.size w W → CmI w j d l m a z o A cs lb q s W) := Lib.hid (fun W lb h1 h2 h3 hb => ⟨h.below hb, hj.below hb, h1, h3, by have := h.dlt; have := h.llt; have := h.mlt; have := hj.lt; simp; omega, hrow.below hb, Only.below hb⟩)
  have HPT : Hid (∀ W lb, CmI w j d l m a z o A cs lb q s W → Calls Tryz.prog 78 #[regV d a z, .int .i64 ((a : Int) + 1), .slice (some ⟨lb, 0, none⟩) (1 + cs.length) (1 + cs.length)] W fun e w' => e = .returned (.int .i64 (Jn.runW s (Jn.layAt (a + 1) (Jn.layN cs))).2) ∧ CmI w j d l m a z o A cs lb q (Jn.runW s (Jn.layAt (a + 1) (Jn.layN cs))).1 w') := Lib.hid (fun W lb hW => by
    have := put_any hW.disk a (a + 1) z (some ⟨lb, 0, none⟩) (1 + cs.length) (Jn.layN cs) (hW.rows.slice (fun e => hW.far (by simp at e ⊢; omega))) HPL.out (by rw [HLL.out]; have := hm.few; omega) (by omega)
    rw [HLL.out, show ((a + 1 : Nat) : Int) = (a : Int) + 1 by omega] at this
    exact this.mono fun e w' ⟨h1, h2, h3⟩ => ⟨h1, hW.step h3 (by simp) h2 (hW.jr.only h3 hjd)⟩)
  have HSM : Hid (∀ W lb, RowsAt W lb (Jn.layN cs) → Calls Tryz.prog 79 #[.slice (some ⟨lb, 0, none⟩) (1 + cs.length) (1 + cs.length)] W fun e w' => e = .returned (.int .u32 (Jn.sumN (Jn.layN cs))) ∧ Below W.heap.size W w') := Lib.hid (fun W lb hT => by
    have hrow := (hT.slice (L := []) (by simp)).row (by rw [HLL.out]; have := hm.few; omega) hT.size
    rw [HLL.out] at hrow
    exact sumPages_any _ _ (1 + cs.length) _ W hrow (by have := hm.few; omega) (by omega))
  have HRT : Hid (rightB (liveH (q + 1) cs) = true) := Lib.hid (Jn.live_right (by omega) (by omega) hm.pos (by have := hm.few; omega))
  have HSB := Lib.hid (Jn.sumN_bd (Jn.layN cs))
  have HLD0 : Hid (∀ W lb s1, CmI w j d l m a z o A cs lb q s1 W → Calls Tryz.prog 65 #[.pointer (some ⟨j, 0, none⟩), headV (liveH (q + 1) cs)] W fun e w' => e = .returned (.int .i64 (Jn.runW s1 [⟨(a : Int), pageH (liveH (q + 1) cs)⟩]).2) ∧ CmI w j d l m a z o A cs lb (q + 1) (Jn.runW s1 [⟨(a : Int), pageH (liveH (q + 1) cs)⟩]).1 w') := Lib.hid (fun W lb s1 hW => (lead_any hW.jr hW.disk hjd ha (liveH (q + 1) cs) HRT.out HSB.out.1 HSB.out.2).mono fun e w' ⟨h1, h2, h3, h4⟩ => ⟨h1, hW.step h4 (by simp) h2 h3⟩)
  have HAP : Hid (∀ W lb s1, CmI w j d l m a z o A cs lb (q + 1) s1 W → Calls Tryz.prog 68 #[regV d a z, .slice A cs.length c] W fun e w' => e = .returned (.int .i64 (Jn.runW s1 cs).2) ∧ CmI w j d l m a z o A cs lb (q + 1) (Jn.runW s1 cs).1 w') := Lib.hid (fun W lb s1 hW => (apply_any hW.disk a z A c cs (hW.row.mono (by simp)) HPG.out (by have := hm.few; omega)).mono fun e w' ⟨h1, h2, h3⟩ => ⟨h1, hW.step h3 (by simp) h2 (hW.jr.only h3 hjd)⟩)
  have HLE : Hid (∀ W lb s1, CmI w j d l m a z o A cs lb (q + 1) s1 W → Calls Tryz.prog 65 #[.pointer (some ⟨j, 0, none⟩), .agg #[.int .i64 (q + 1 + 1), .bool false, .int .i64 0, .int .u32 0]] W fun e w' => e = .returned (.int .i64 (Jn.runW s1 [⟨(a : Int), pageH (quietH (q + 2))⟩]).2) ∧ CmI w j d l m a z o A cs lb (q + 2) (Jn.runW s1 [⟨(a : Int), pageH (quietH (q + 2))⟩]).1 w') := Lib.hid (fun W lb s1 hW => by
    rw [show q + 1 + 1 = q + 2 by omega]
    exact (lead_any hW.jr hW.disk hjd ha (quietH (q + 2)) (Jn.quietH_right (by omega) (by omega)) (Int.le_refl 0) (show (0 : Int) < 4294967296 by omega)).mono fun e w' ⟨h1, h2, h3, h4⟩ => ⟨h1, hW.step h4 (by simp) h2 h3⟩)
  have hk32 := hm.few
  have HHV0 : Hid (∀ k : Nat, cs.length = k → Value.agg #[.int .i64 (q + 1), .bool true, .int .i64 (k : Int), .int .u32 (Jn.sumN (Jn.layN cs))] = headV (liveH (q + 1) cs)) := Lib.hid (fun k hk => by rw [← hk]; rfl)
  clear h hj hjd hrow hm
  have HST : Hid (Jn.steps a q cs = [Jn.layAt (a + 1) (Jn.layN cs), [⟨(a : Int), pageH (liveH (q + 1) cs)⟩], cs, [⟨(a : Int), pageH (quietH (q + 2))⟩]]) := Lib.hid rfl
  generalize hsteps : Jn.runs s (Jn.steps a q cs) = R
  rw [HST.out] at hsteps
  have HRS := Lib.hid hsteps
  clear hsteps HST
  obtain ⟨k, hk⟩ : ∃ k, cs.length = k := ⟨_, rfl⟩
  have HHV := Lib.hid (HHV0.out k hk)
  rw [hk] at HLY HPT HSM HAP hk32 ⊢
  clear hk HHV0
  generalize hhh : liveH (q + 1) cs = hh at HLD0 HHV HRS
  clear hhh
  have hq3 : IntKind.i64.wrap ((a : Int) + 1) = (a : Int) + 1 := IntWalk.i64_in _ (by omega)
  have hq4 : IntKind.i64.wrap (q + 1) = q + 1 := IntWalk.i64_in _ (by omega)
  go_enter Tryz.func59, Tryz.ntmps59
  go_wp2_with fail
  refine HLY.out.mono ?_
  rintro e w1 ⟨lb, rfl, hr1, hl1, hl2, hB1⟩
  have HI1 := Lib.hid (HI0.out _ _ hr1 hl1 hl2 hB1)
  clear hr1 hl1 hl2 hB1 HI0 HLY
  replace HPT := Lib.hid (fun W => HPT.out W lb)
  go_wp2_with fail
  refine wp_region_noPanic ?_
  refine wp_region_held_drew (S := fun W => JAt W j d a z q o) (by kernel_rfl) (HI1.out.jr.below (Below.refl _ _).drew) (fun hHeld => ?_)
  have HI2 := Lib.hid (HI1.out.below (Below.refl _ _).drew)
  clear HI1
  generalize w1.drew = w2 at HI2 hHeld ⊢
  refine take_at (i := 0) (d := some 11) (v := .pointer (some ⟨j, 0, none⟩)) rfl rfl (by kernel_rfl) (by kernel_rfl) (by kernel_rfl) (fun _ _ _ h => h) (Or.inl ⟨by kernel_rfl, ?_⟩) hHeld ?_
  · intro w hSw; have c1 := hSw.c1; go_simp
  (try simp only [Act.put, List.setIfInBounds_toArray, List.set_cons_zero, List.set_cons_succ])
  refine take_at (i := 1) (d := some 12) (v := .pointer (some ⟨j, 0, none⟩)) rfl rfl (by kernel_rfl) (by kernel_rfl) (by kernel_rfl) (fun _ _ _ h => h) (Or.inl ⟨by kernel_rfl, ?_⟩) hHeld ?_
  · intro w hSw; have c1 := hSw.c1; go_simp
  (try simp only [Act.put, List.setIfInBounds_toArray, List.set_cons_zero, List.set_cons_succ])
  refine take_at (i := 2) (d := some 13) (v := .pointer (some ⟨j, 0, none⟩)) rfl rfl (by kernel_rfl) (by kernel_rfl) (by kernel_rfl) (fun _ _ _ h => h) (Or.inl ⟨by kernel_rfl, ?_⟩) hHeld ?_
  · intro w hSw; have c1 := hSw.c1; go_simp
  (try simp only [Act.put, List.setIfInBounds_toArray, List.set_cons_zero, List.set_cons_succ])
  refine take_at (i := 3) (d := some 14) (v := regV d a z) rfl rfl (by kernel_rfl) (by kernel_rfl) (by kernel_rfl) (fun _ _ _ h => h) (yields_reg (by kernel_rfl) (.tmp 13) rfl rfl (fun _ hSw => hSw.reg)) hHeld ?_
  (try simp only [Act.put, List.setIfInBounds_toArray, List.set_cons_zero, List.set_cons_succ])
  refine take_at (i := 4) (d := some 15) (v := .pointer (some ⟨j, 0, none⟩)) rfl rfl (by kernel_rfl) (by kernel_rfl) (by kernel_rfl) (fun _ _ _ h => h) (Or.inl ⟨by kernel_rfl, ?_⟩) hHeld ?_
  · intro w hSw; have c1 := hSw.c1; go_simp
  (try simp only [Act.put, List.setIfInBounds_toArray, List.set_cons_zero, List.set_cons_succ])
  refine take_at (i := 5) (d := some 16) (v := .pointer (some ⟨j, 0, none⟩)) rfl rfl (by kernel_rfl) (by kernel_rfl) (by kernel_rfl) (fun _ _ _ h => h) (Or.inl ⟨by kernel_rfl, ?_⟩) hHeld ?_
  · intro w hSw; have c1 := hSw.c1; go_simp
  (try simp only [Act.put, List.setIfInBounds_toArray, List.set_cons_zero, List.set_cons_succ])
  refine take_at (i := 6) (d := some 17) (v := .pointer (some ⟨j, 0, none⟩)) rfl rfl (by kernel_rfl) (by kernel_rfl) (by kernel_rfl) (fun _ _ _ h => h) (Or.inl ⟨by kernel_rfl, ?_⟩) hHeld ?_
  · intro w hSw; have c1 := hSw.c1; go_simp
  (try simp only [Act.put, List.setIfInBounds_toArray, List.set_cons_zero, List.set_cons_succ])
  refine take_at (i := 7) (d := some 18) (v := .pointer (some ⟨j, 1, none⟩)) rfl rfl (by kernel_rfl) (by kernel_rfl) (by kernel_rfl) (fun _ _ _ h => h) (Or.inl ⟨by kernel_rfl, ?_⟩) hHeld ?_
  · intro w hSw; have c1 := hSw.c1; go_simp
  (try simp only [Act.put, List.setIfInBounds_toArray, List.set_cons_zero, List.set_cons_succ])
  refine take_at (i := 8) (d := some 19) (v := .int .i64 (a : Int)) rfl rfl (by kernel_rfl) (by kernel_rfl) (by kernel_rfl) (fun _ _ _ h => h) (Or.inl ⟨by kernel_rfl, ?_⟩) hHeld ?_
  · intro w hSw; have c1 := hSw.c1; go_simp
  (try simp only [Act.put, List.setIfInBounds_toArray, List.set_cons_zero, List.set_cons_succ])
  refine take_at (i := 9) (d := some 20) (v := .int .i64 ((a : Int) + 1)) rfl rfl (by kernel_rfl) (by kernel_rfl) (by kernel_rfl) (fun _ _ _ h => h) (Or.inl ⟨by kernel_rfl, ?_⟩) hHeld ?_
  · intro w hSw; have c1 := hSw.c1; go_simp
  (try simp only [Act.put, List.setIfInBounds_toArray, List.set_cons_zero, List.set_cons_succ])
  refine take_at (i := 10) (d := some 21) (v := .slice (some ⟨lb, 0, none⟩) (1 + k) (1 + k)) rfl rfl (by kernel_rfl) (by kernel_rfl) (by kernel_rfl) (fun _ _ _ h => h) (Or.inl ⟨by kernel_rfl, ?_⟩) hHeld ?_
  · intro w hSw; have c1 := hSw.c1; go_simp
  (try simp only [Act.put, List.setIfInBounds_toArray, List.set_cons_zero, List.set_cons_succ])
  refine wpAnyH_ready (rs := [11]) (by kernel_rfl) (by simp) ?_
  refine AllReadyH.cons rfl (fun K hK => ?_) AllReadyH.nil
  go_simp
  (go_at_call 78; refine (HPT.out _ HI2.out).mono ?_; rintro e w3 ⟨rfl, hI3⟩; have HI3 := Lib.hid hI3; clear hI3)
  (try go_wp2_with fail)
  refine hK.out _ _ HI3.out.jr (fun hHeld => ?_)
  clear hK K
  (try simp only [Act.put, List.setIfInBounds_toArray, List.set_cons_zero, List.set_cons_succ])
  refine take_at (i := 12) (d := some 6) (v := .int .i64 (Jn.runW s (Jn.layAt (a + 1) (Jn.layN cs))).2) rfl rfl (by kernel_rfl) (by kernel_rfl) (by kernel_rfl) (fun _ _ _ h => h) (Or.inl ⟨by kernel_rfl, ?_⟩) hHeld ?_
  · intro w hSw; have c1 := hSw.c1; go_simp
  (try simp only [Act.put, List.setIfInBounds_toArray, List.set_cons_zero, List.set_cons_succ])
  refine wpAnyH_done (by kernel_rfl) ?_ _
  refine NoPanic.normal ?_
  by_cases hE1 : (Jn.runW s (Jn.layAt (a + 1) (Jn.layN cs))).2 = 0
  · have HR1 : Hid (R = Jn.runs (Jn.runW s (Jn.layAt (a + 1) (Jn.layN cs))).1 [[⟨(a : Int), pageH hh⟩], cs, [⟨(a : Int), pageH (quietH (q + 2))⟩]]) := Lib.hid (by rw [← HRS.out, runs_ok hE1])
    rw [hE1]
    clear hE1 HRS HPT HI2 hHeld
    generalize (Jn.runW s (Jn.layAt (a + 1) (Jn.layN cs))).1 = s1 at HI3 HR1
    have HLD1 := Lib.hid (fun W => HLD0.out W lb s1)
    have HRP : Hid (∀ (X : Dk.St × Int) , X = Jn.runW s1 [⟨(a : Int), pageH hh⟩] → X = Jn.runW s1 [⟨(a : Int), pageH hh⟩]) := Lib.hid (fun _ h => h)
    obtain ⟨X2, hX2⟩ : ∃ X, X = Jn.runW s1 [⟨(a : Int), pageH hh⟩] := ⟨_, rfl⟩
    rw [← hX2] at HLD1
    have HX2 := Lib.hid hX2
    clear hX2 HRP
    obtain ⟨s2, E2⟩ := X2
    simp only at HLD1
    have HLD : Hid (∀ W, CmI w j d l m a z o A cs lb (if false = true then q + 1 else q) (if false = true then s2 else s1) W → Calls Tryz.prog 65 #[.pointer (some ⟨j, 0, none⟩), headV hh] W fun e w' => e = .returned (.int .i64 E2) ∧ CmI w j d l m a z o A cs lb (if true = true then q + 1 else q) (if true = true then s2 else s1) w') := Lib.hid (fun W hW => HLD1.out W hW)
    clear HLD0 HLD1
    go_wp2_with fail
    refine wp_region_lin (fun (b : Bool) => CmI w j d l m a z o A cs lb (if b = true then q + 1 else q) (if b = true then s2 else s1)) (fun i => i == 4 || i == 11) (fun i => [.pointer (some ⟨j, 0, none⟩), .pointer (some ⟨j, 0, none⟩), .pointer (some ⟨j, 0, none⟩), .pointer (some ⟨j, 3, none⟩), undef, .int .i64 (q + 1), .slice A k c, .int .i64 (k : Int), .slice (some ⟨lb, 0, none⟩) (1 + k) (1 + k), .int .u32 (Jn.sumN (Jn.layN cs)), headV hh, undef, .int .i64 E2].getD i undef) (false) (by kernel_rfl) (by kernel_rfl) (HI3.out.below (Below.refl _ _).drew) ?_
    refine lin_step (i := 0) (d := some 26) (v := .pointer (some ⟨j, 0, none⟩)) rfl rfl (by kernel_rfl) (by kernel_rfl) rfl rfl (ord_value (by kernel_rfl) ?_) ?_
    · intro _ _ hS; go_simp
    (try simp only [Act.put, List.setIfInBounds_toArray, List.set_cons_zero, List.set_cons_succ])
    refine lin_step (i := 1) (d := some 27) (v := .pointer (some ⟨j, 0, none⟩)) rfl rfl (by kernel_rfl) (by kernel_rfl) rfl rfl (ord_value (by kernel_rfl) ?_) ?_
    · intro _ _ hS; go_simp
    (try simp only [Act.put, List.setIfInBounds_toArray, List.set_cons_zero, List.set_cons_succ])
    refine lin_step (i := 2) (d := some 28) (v := .pointer (some ⟨j, 0, none⟩)) rfl rfl (by kernel_rfl) (by kernel_rfl) rfl rfl (ord_value (by kernel_rfl) ?_) ?_
    · intro _ _ hS; go_simp
    (try simp only [Act.put, List.setIfInBounds_toArray, List.set_cons_zero, List.set_cons_succ])
    refine lin_step (i := 3) (d := some 29) (v := .pointer (some ⟨j, 3, none⟩)) rfl rfl (by kernel_rfl) (by kernel_rfl) rfl rfl (ord_value (by kernel_rfl) ?_) ?_
    · intro _ _ hS; go_simp
    (try simp only [Act.put, List.setIfInBounds_toArray, List.set_cons_zero, List.set_cons_succ])
    refine lin_turnD (i := 4) (d := some 30) [5, 10, 11] (fun u s => u = .int .i64 q ∧ s = false) rfl rfl (by kernel_rfl) (by kernel_rfl) rfl (by kernel_rfl) (⟨_, _, rfl, rfl⟩) (by kernel_rfl) (fun W hS => gives_value (v := .int .i64 q) (by have c3 := CmI.c3 hS; go_simp) ⟨false, ⟨rfl, rfl⟩, hS⟩) ?_
    rintro _ _ ⟨rfl, rfl⟩
    (try simp only [Act.put, List.setIfInBounds_toArray, List.set_cons_zero, List.set_cons_succ])
    refine lin_step (i := 5) (d := some 31) (v := .int .i64 (q + 1)) rfl rfl (by kernel_rfl) (by kernel_rfl) rfl rfl (ord_value (by kernel_rfl) ?_) ?_
    · intro _ _ hS; go_simp
    (try simp only [Act.put, List.setIfInBounds_toArray, List.set_cons_zero, List.set_cons_succ])
    refine lin_step (i := 6) (d := some 32) (v := .slice A k c) rfl rfl (by kernel_rfl) (by kernel_rfl) rfl rfl (ord_value (by kernel_rfl) ?_) ?_
    · intro _ _ hS; go_simp
    (try simp only [Act.put, List.setIfInBounds_toArray, List.set_cons_zero, List.set_cons_succ])
    refine lin_step (i := 7) (d := some 33) (v := .int .i64 (k : Int)) rfl rfl (by kernel_rfl) (by kernel_rfl) rfl rfl (ord_value (by kernel_rfl) ?_) ?_
    · intro _ _ hS; go_simp
    (try simp only [Act.put, List.setIfInBounds_toArray, List.set_cons_zero, List.set_cons_succ])
    refine lin_step (i := 8) (d := some 34) (v := .slice (some ⟨lb, 0, none⟩) (1 + k) (1 + k)) rfl rfl (by kernel_rfl) (by kernel_rfl) rfl rfl (ord_value (by kernel_rfl) ?_) ?_
    · intro _ _ hS; go_simp
    (try simp only [Act.put, List.setIfInBounds_toArray, List.set_cons_zero, List.set_cons_succ])
    refine lin_step (i := 9) (d := some 35) (v := .int .u32 (Jn.sumN (Jn.layN cs))) rfl rfl (by kernel_rfl) (by kernel_rfl) rfl rfl (ord_call (f := 79) (args := #[.slice (some ⟨lb, 0, none⟩) (1 + k) (1 + k)]) (by kernel_rfl) ?_ (fun b W hS => (HSM.out W lb (CmI.rows' hS)).mono fun _ _ ⟨he, hb⟩ => ⟨he, CmI.below' hS hb⟩)) ?_
    · intro _; go_simp
    (try simp only [Act.put, List.setIfInBounds_toArray, List.set_cons_zero, List.set_cons_succ])
    refine lin_step (i := 10) (d := some 36) (v := headV hh) rfl rfl (by kernel_rfl) (by kernel_rfl) rfl rfl (ord_value (by kernel_rfl) ?_) ?_
    · intro _ _ _; go_simp; exact HHV.out
    (try simp only [Act.put, List.setIfInBounds_toArray, List.set_cons_zero, List.set_cons_succ])
    refine lin_turnD (i := 11) (d := some 37) [] (fun u s => u = .int .i64 E2 ∧ s = true) rfl rfl (by kernel_rfl) (by kernel_rfl) rfl (by kernel_rfl) (⟨_, _, rfl, rfl⟩) (by kernel_rfl) (fun W hS => gives_call (f := 65) (args := #[.pointer (some ⟨j, 0, none⟩), headV hh]) (by go_simp) ((HLD.out W hS).mono fun e w' ⟨he, hS'⟩ => ⟨_, he, true, ⟨rfl, rfl⟩, hS'⟩)) ?_
    rintro _ _ ⟨rfl, rfl⟩
    (try simp only [Act.put, List.setIfInBounds_toArray, List.set_cons_zero, List.set_cons_succ])
    refine lin_step (i := 12) (d := some 7) (v := .int .i64 E2) rfl rfl (by kernel_rfl) (by kernel_rfl) rfl rfl (ord_value (by kernel_rfl) ?_) ?_
    · intro _ _ hS; go_simp
    (try simp only [Act.put, List.setIfInBounds_toArray, List.set_cons_zero, List.set_cons_succ])
    refine lin_done (by kernel_rfl) ?_
    intro w4 hS4
    have HI4 : Hid (CmI w j d l m a z o A cs lb (q + 1) s2 w4) := Lib.hid hS4
    clear hS4 HI3 HLD HSM
    by_cases hE2 : E2 = 0
    · have HR2 : Hid (R = Jn.runs s2 [cs, [⟨(a : Int), pageH (quietH (q + 2))⟩]]) := Lib.hid (by rw [HR1.out, runs_ok (by rw [← HX2.out]; exact hE2), ← HX2.out])
      subst hE2
      clear HR1 HX2
      go_wp2_with (with_reducible refine wpList_load_reg HI4.out.jr.reg rfl (.tmp 43) rfl rfl ?_)
      refine (HAP.out _ _ _ HI4.out).mono ?_
      rintro e w5 ⟨rfl, hI5⟩
      have HI5 := Lib.hid hI5
      clear hI5 HI4
      by_cases hE3 : (Jn.runW s2 cs).2 = 0
      · have HR3 : Hid (R = Jn.runW (Jn.runW s2 cs).1 [⟨(a : Int), pageH (quietH (q + 2))⟩]) := Lib.hid (by rw [HR2.out, runs_ok hE3, runs_one])
        rw [hE3]
        clear hE3 HR2
        have c3 := CmI.c3 HI5.out
        go_wp2_with fail
        refine (HLE.out _ _ _ HI5.out).mono ?_
        rintro e w6 ⟨rfl, hI6⟩
        have HI6 := Lib.hid hI6
        clear hI6 HI5 c3
        go_wp2_with fail
        go_ret
        rw [HR3.out]
        exact ⟨rfl, HI6.out.disk, ⟨_, HI6.out.jr, fun _ => rfl⟩, HI6.out.only⟩
      · have HR3 : Hid (R = Jn.runW s2 cs) := Lib.hid (by rw [HR2.out, runs_bad hE3])
        have HNE := Lib.hid hE3
        have hne2 : ((Jn.runW s2 cs).2 == 0) = false := by simpa using hE3
        have hne3 : ((Jn.runW s2 cs).2 != 0) = true := by simpa using hE3
        clear hE3 HR2
        go_wp2_with fail
        go_ret
        rw [HR3.out]
        exact ⟨rfl, HI5.out.disk, ⟨_, HI5.out.jr, fun e => absurd e HNE.out⟩, HI5.out.only⟩
    · have HR2 : Hid (R = (s2, E2)) := Lib.hid (by rw [HR1.out, runs_bad (by rw [← HX2.out]; exact hE2), ← HX2.out])
      have HNE := Lib.hid hE2
      have hne2 : (E2 == 0) = false := by simpa using hE2
      have hne3 : (E2 != 0) = true := by simpa using hE2
      clear hE2 HR1
      go_wp2_with fail
      go_ret
      rw [HR2.out]
      exact ⟨rfl, HI4.out.disk, ⟨_, HI4.out.jr, fun e => absurd e HNE.out⟩, HI4.out.only⟩
  · have HR1 : Hid (R = Jn.runW s (Jn.layAt (a + 1) (Jn.layN cs))) := Lib.hid (by rw [← HRS.out, runs_bad hE1])
    have HNE := Lib.hid hE1
    have hne2 : ((Jn.runW s (Jn.layAt (a + 1) (Jn.layN cs))).2 == 0) = false := by simpa using hE1
    have hne3 : ((Jn.runW s (Jn.layAt (a + 1) (Jn.layN cs))).2 != 0) = true := by simpa using hE1
    clear hE1 HRS
    go_wp2_with fail
    go_ret
    rw [HR1.out]
    exact ⟨rfl, HI3.out.disk, ⟨_, HI3.out.jr, fun e => absurd e HNE.out⟩, HI3.out.only⟩
end Go.Proofs.YtppbiohjhnoagaaGreat

/-
  The contract of a journal's Commit.
-/
namespace Go.Proofs.YtppbiohjhnoagaaGreat
open Go.RowKit
open Dk (zeros zeros_length)
open Hd (Head rightB pageH)
open Jn (Chg quietH liveH)

set_option maxRecDepth 100000 in
theorem takes_all {n a z : Nat} (cs : List Chg) : ∀ (f : Nat → Bool), takesFrom n a z f cs = true → ∀ c ∈ cs, otherB n a z c.no = true := by
  induction cs with
  | nil => intro f _ c hc; cases hc
  | cons x r ih =>
    intro f h c hc
    rw [takesFrom] at h
    by_cases hx : otherB n a z x.no = true ∧ f x.no.toNat = false
    · rw [if_pos hx] at h
      rcases List.mem_cons.1 hc with rfl | hc
      · exact hx.1
      · exact ih _ h c hc
    · rw [if_neg hx] at h; cases h
set_option maxRecDepth 100000 in
theorem takes_may {n a z r : Nat} {cs : List Chg} (h : takesB n a z cs = true) (hp : ∀ c ∈ cs, c.page.length = 64) (h1 : 1 ≤ cs.length) (h2 : cs.length ≤ r) (hr : r ≤ 32) (hz : 2 + r ≤ z) (hreg : a + z ≤ n) (hn : n ≤ 512) : Jn.May a z n cs where
  val := fun c hc => by
    have := of_decide_eq_true (takes_all cs _ h c hc)
    exact ⟨decide_eq_true ⟨this.1, this.2.1⟩, hp c hc⟩
  out := fun c hc => by
    have := of_decide_eq_true (takes_all cs _ h c hc)
    omega
  pos := h1
  few := by omega
  fit := by omega
  reg := hreg
  top := hn

set_option maxRecDepth 100000 in
theorem over_any {w : World} {j d a z : Nat} {q : Int} {o : Bool} (hj : JAt w j d a z q o) : Calls Tryz.prog 43 #[.pointer (some ⟨j, 0, none⟩)] w fun e w' => e = .returned (.bool o) ∧ w = w' := by
  have c4 := hj.c4
  clear hj
  go_enter Tryz.func43, Tryz.ntmps43
  go_wp2
  go_ret
  exact ⟨rfl, rfl⟩
set_option maxRecDepth 100000 in
theorem mroom_any {w : World} {j d a z r : Nat} {q : Int} {o : Bool} (hj : JAt w j d a z q o) (hroom : RoomIs z r) : Calls Tryz.prog 30 #[.pointer (some ⟨j, 0, none⟩)] w fun e w' => e = .returned (.int .i64 (r : Int)) ∧ w = w' := by
  have c2 := hj.c2
  have HR : Hid (∀ w, Calls Tryz.prog 46 #[.int .i64 (z : Int)] w fun e w' => e = .returned (.int .i64 (r : Int)) ∧ w = w') := Lib.hid hroom
  clear hj hroom
  go_enter Tryz.func30, Tryz.ntmps30
  go_wp2_with (go_at_call 46; refine (HR.out _).mono ?_; rintro e w' ⟨rfl, rfl⟩)
  go_ret
  exact ⟨rfl, rfl⟩

/-- how a Commit ends -/
def Comm (w : World) (j d l m a z r n : Nat) (q : Int) (s : Dk.St) (cs : List Chg) (e : Ending) (w' : World) : Prop :=
  (takesB n a z cs = false ∧ e = .returned (.int .i64 22) ∧ Below w.heap.size w w') ∨
  (r < cs.length ∧ e = .returned (.int .i64 28) ∧ Below w.heap.size w w') ∨
  (cs = [] ∧ e = .returned (.int .i64 0) ∧ Below w.heap.size w w') ∨
  (Jn.May a z n cs ∧ e = .returned (.int .i64 (Jn.runs s (Jn.steps a q cs)).2) ∧ DiskAt w' d l m (Jn.runs s (Jn.steps a q cs)).1 ∧ (∃ q', JAt w' j d a z q' ((Jn.runs s (Jn.steps a q cs)).2 != 0) ∧ ((Jn.runs s (Jn.steps a q cs)).2 = 0 → q' = q + 2)) ∧ Only [d, l, m, j] w w')
set_option maxRecDepth 100000 in
set_option maxHeartbeats 4000000 in
theorem outer_any {w : World} {j d l m a z r : Nat} {q : Int} {s : Dk.St} {cs : List Chg} (hj : JAt w j d a z q false) (h : DiskAt w d l m s) (hjd : j ∉ [d, l, m]) (ha : a ≤ 900) (hz : z ≤ 900) (hroom : RoomIs z r) (hr : r ≤ 32) (hrz : 2 + r ≤ z) (hreg : a + z ≤ s.last.length) (A : Option Addr) (c : Nat) (hrow : ChAt w A [d, l, m, j] cs) (hp : ∀ x ∈ cs, x.page.length = 64) (hl : cs.length ≤ 900) (hq0 : 0 ≤ q) (hq1 : q < 4294967290) :
    Calls Tryz.prog 39 #[.pointer (some ⟨j, 0, none⟩), .slice A cs.length c] w (Comm w j d l m a z r s.last.length q s cs) := by
  have HJD := Lib.hid hjd
  have HOV := Lib.hid (over_any hj)
  have HTK := Lib.hid (takes_any h a z (by omega) (by omega) A c cs (hrow.mono (by simp)) hp (by omega))
  have HRG := Lib.hid hj.reg
  have HI : Hid (∀ W, Below w.heap.size w W → JAt W j d a z q false ∧ DiskAt W d l m s ∧ ChAt W A [d, l, m, j] cs) := Lib.hid (fun W hb => ⟨hj.below hb, h.below hb, hrow.below hb⟩)
  have HMY := Lib.hid (fun (ht : takesB s.last.length a z cs = true) (h1 : 1 ≤ cs.length) (h2 : cs.length ≤ r) => takes_may ht hp h1 h2 hr hrz hreg h.ok.small)
  have HRM := Lib.hid hroom
  clear h hj hjd hrow hp hroom hreg
  unfold Comm
  generalize hR : Jn.runs s (Jn.steps a q cs) = R
  have HRR := Lib.hid hR
  clear hR
  generalize hnn : s.last.length = n at HTK HMY ⊢
  have HNN : Hid (n = s.last.length) := Lib.hid hnn.symm
  clear hnn
  obtain ⟨k, hk⟩ : ∃ k, cs.length = k := ⟨_, rfl⟩
  have HK := Lib.hid hk
  rw [hk] at HTK hl HMY ⊢
  clear hk
  go_enter Tryz.func39, Tryz.ntmps39
  go_wp2_with fail
  refine HOV.out.mono ?_
  rintro e w' ⟨rfl, rfl⟩
  clear HOV
  go_wp2_with (with_reducible refine wpList_load_reg HRG.out rfl (.tmp 10) rfl rfl ?_)
  refine HTK.out.mono ?_
  rintro e w2 ⟨rfl, hB2⟩
  have HB2 := Lib.hid hB2
  have HI2 := Lib.hid (HI.out _ hB2)
  clear hB2 HTK HRG HI
  cases ht : takesB n a z cs with
  | false =>
    go_wp2_with fail
    go_ret
    exact Or.inl ⟨ht, rfl, HB2.out⟩
  | true =>
    have HT := Lib.hid ht
    clear ht
    have HMR := Lib.hid (mroom_any HI2.out.1 HRM.out)
    go_wp2_with fail
    refine HMR.out.mono ?_
    rintro e w' ⟨rfl, rfl⟩
    clear HMR
    by_cases hkr : r < k
    · have hkr' : (r : Int) < (k : Int) := by omega
      go_wp2_with fail
      go_ret
      exact Or.inr (Or.inl ⟨hkr, rfl, HB2.out⟩)
    · have hkr' : ¬ ((r : Int) < (k : Int)) := by omega
      by_cases hk0 : k = 0
      · subst hk0
        have HN : Hid (cs = []) := Lib.hid (List.eq_nil_of_length_eq_zero HK.out)
        go_wp2_with fail
        go_ret
        exact Or.inr (Or.inr (Or.inl ⟨HN.out, rfl, HB2.out⟩))
      · have hk1 : ((k : Int) == 0) = false := by rw [beq_eq_false_iff_ne]; omega
        have HM := Lib.hid (HMY.out HT.out (by omega) (by omega))
        have HCM : Hid (Calls Tryz.prog 59 #[.pointer (some ⟨j, 0, none⟩), .slice A k c] w2 (Done w2 j d l m a z false q R)) := Lib.hid (by
          rw [← HRR.out]
          have hmm := HM.out
          have hnn : n = s.last.length := HNN.out
          rw [hnn] at hmm
          have := commit_any HI2.out.1 HI2.out.2.1 HJD.out ha hz A c HI2.out.2.2 hmm hq0 hq1
          rw [HK.out] at this
          exact this)
        clear hk0
        go_wp2_with fail
        refine HCM.out.mono ?_
        rintro e w3 ⟨rfl, hd3, ⟨q3, hj3, hq3⟩, ho3⟩
        have HJ3 := Lib.hid hj3
        have HO3 : Hid (Only [d, l, m, j] w w3) := Lib.hid ((Only.below HB2.out).trans ho3)
        have HQ3 := Lib.hid hq3
        have HD3 := Lib.hid hd3
        have c4 := hj3.c4
        have f4 := hj3.f 4 (by omega)
        clear hd3 hj3 hq3 ho3 HCM HI2
        go_wp2_with fail
        go_ret
        refine Or.inr (Or.inr (Or.inr ⟨HM.out, rfl, ?_, ⟨q3, HJ3.out.setOver _, HQ3.out⟩, HO3.out.setCell (by simp) _⟩))
        exact HD3.out.only (L := [j]) ((Only.refl [j] w3).setCell (p := ⟨j, 4, none⟩) (by simp) _) (fun e => HJD.out (by simp at e ⊢; omega)) (fun e => HJD.out (by simp at e ⊢; omega)) (fun e => HJD.out (by simp at e ⊢; omega))
end Go.Proofs.YtppbiohjhnoagaaGreat

/-
  Opens, over all that a crash may leave.
-/
namespace Go.Proofs.YtppbiohjhnoagaaGreat
open Go.RowKit
open Dk (zeros zeros_length)
open Hd (Head rightB pageH)
open Jn (Chg quietH liveH Cl Quiet LiveD May Same upd)

set_option maxRecDepth 100000 in
theorem read_clean {s : Dk.St} (h : Cl s) {i : Nat} (hi : i < s.last.length) : Dk.readP s (i : Int) = s.last.getD i [] := by
  unfold Dk.readP
  rw [if_pos (Dk.reach_mk h.up (Dk.has_mk hi)), Int.toNat_natCast]
  unfold Dk.nowAt
  rw [Jn.cacheAt_none h.clean]; rfl
set_option maxRecDepth 100000 in
theorem rdN_clean {s : Dk.St} (h : Cl s) {a n : Nat} (hn : a + n ≤ s.last.length) {ps : List (List UInt8)} (hl : ps.length = n) (hp : ∀ i, i < n → s.last.getD (a + i) [] = ps.getD i []) : rdN s a n = ps := by
  refine Jn.getD_ext [] (by rw [rdN_length, hl]) (fun i hi => ?_)
  rw [rdN_length] at hi
  have e : (rdN s a n).getD i [] = Dk.readP s ((a + i : Nat) : Int) := by
    unfold rdN
    rw [List.getD_eq_getElem?_getD, List.getElem?_map, List.getElem?_range hi]; rfl
  rw [e, read_clean h (by omega), hp i hi]
set_option maxRecDepth 100000 in
/-- an Open over a head that does not count -/
theorem openQ_any {w : World} {d l m a z r : Nat} {s : Dk.St} {B : Int} {X : List (List UInt8)} (h : DiskAt w d l m s) (hc : Cl s) (hq : Quiet a z B s.last X) (h0 : 0 ≤ B) (hB : B < 250) (ha : a ≤ 900) (hz : z ≤ 900) (hz0 : 0 < z) (hroom : RoomIs z r) (hr : 1 ≤ r) (hreg : a + z ≤ s.last.length) :
    Calls Tryz.prog 27 #[.pointer (some ⟨d, 0, none⟩), .int .i64 (a : Int), .int .i64 (z : Int)] w (Opened w d l m a z (Jn.runs s [[⟨(a : Int), pageH (quietH (Hd.nextN [s.last.getD a []]))⟩]]) (fun cnt q => cnt = 0 ∧ q = Hd.nextN [s.last.getD a []])) := by
  have e := read_clean hc (show a < s.last.length by omega)
  obtain ⟨n0, n1, n2⟩ := Jn.next_one _ B hq.low h0
  refine open_with h ha hz hroom hr hc.up hreg _ _ (fun W j hj hd hjd => ?_)
  have := begin_quiet hj hd hjd ha hc.up (by omega) (by rw [e]; exact hq.quiet) (by rw [e]; omega)
  rw [e] at this
  exact this.mono fun e w' ⟨h1, h2, h3, h4⟩ => ⟨0, _, h1, h2, h3, ⟨rfl, rfl⟩, h4⟩
set_option maxRecDepth 100000 in
/-- an Open over a head that counts -/
theorem openL_any {w : World} {d l m a z r : Nat} {s : Dk.St} {B : Int} {cs : List Chg} {X : List (List UInt8)} {q : Int} (h : DiskAt w d l m s) (hc : Cl s) (hl : LiveD a z B cs s.last X) (hm : May a z s.last.length cs) (hq0 : 0 ≤ q) (hq1 : q ≤ B) (hB : B < 250) (hq : s.last.getD a [] = pageH (liveH q cs)) (ha : a ≤ 900) (hz : z ≤ 900) (hroom : RoomIs z r) (hr : 1 ≤ r) (hr9 : r ≤ 900) (hcr : cs.length ≤ r) :
    Calls Tryz.prog 27 #[.pointer (some ⟨d, 0, none⟩), .int .i64 (a : Int), .int .i64 (z : Int)] w (Opened w d l m a z (Jn.runs s [cs, [⟨(a : Int), pageH (quietH (q + 1))⟩]]) (fun _ q' => (Jn.runs s [cs, [⟨(a : Int), pageH (quietH (q + 1))⟩]]).2 = 0 → q' = q + 1)) := by
  have hreg := hm.reg
  have hfit := hm.fit
  have e := read_clean hc (show a < s.last.length by omega)
  refine open_with h ha hz hroom hr hc.up hreg _ _ (fun W j hj hd hjd => ?_)
  have := begin_live hj hd hjd ha hz hroom hr9 hc.up hm hcr hq0 (by omega) (e.trans hq) (rdN_clean hc (by omega) (Jn.layN_length cs) hl.laid)
  exact this.mono fun e w' ⟨cnt, q', h1, h2, h3, h5, h4⟩ => ⟨cnt, q', h1, h2, h3, h5, h4⟩

/-- what a crash may leave: the changes aren't there, or they are, or they count still -/
def Good (ok : Bool) (a z : Nat) (B : Int) (cs : List Chg) (X L : List (List UInt8)) : Prop :=
  (ok = false ∧ Quiet a z B L X) ∨ Quiet a z B L (upd X cs) ∨ (May a z L.length cs ∧ LiveD a z B cs L (upd X cs))
def Fine (ok : Bool) (a z : Nat) (cs : List Chg) (X L : List (List UInt8)) : Prop := (ok = false ∧ Same a z L X) ∨ Same a z L (upd X cs)
set_option maxRecDepth 100000 in
theorem good_open {ok : Bool} {w : World} {d l m a z r : Nat} {s : Dk.St} {B : Int} {cs : List Chg} {X : List (List UInt8)} (h : DiskAt w d l m s) (hc : Cl s) (hg : Good ok a z B cs X s.last) (h0 : 0 ≤ B) (hB : B < 250) (ha : a ≤ 900) (hz : z ≤ 900) (hz0 : 0 < z) (hroom : RoomIs z r) (hr : 1 ≤ r) (hr9 : r ≤ 900) (hcr : cs.length ≤ r) (hreg : a + z ≤ s.last.length) :
    ∃ (R : Dk.St × Int) (P : Int → Int → Prop), Calls Tryz.prog 27 #[.pointer (some ⟨d, 0, none⟩), .int .i64 (a : Int), .int .i64 (z : Int)] w (Opened w d l m a z R P) ∧ R.1.last.length = s.last.length ∧
      ((R.2 = 0 ∧ Cl R.1 ∧ Fine ok a z cs X R.1.last) ∨ (R.2 = 5 ∧ s.lim = true ∧ R.1.Ok ∧ ∀ keep, Good ok a z (B + 1) cs X (Dk.crash R.1 keep).last)) := by
  rcases hg with ⟨hok, hq⟩ | hq | ⟨hm, hl⟩
  · refine ⟨_, _, openQ_any h hc hq h0 hB ha hz hz0 hroom hr hreg, ?_, ?_⟩
    · rcases Jn.openQ hc hq (by omega) hz0 h0 hB with ⟨_, _, _, e, _⟩ | ⟨_, _, _, e⟩
      · rw [e, List.length_set]
      · have := (e []).len
        rw [Dk.crash_len] at this
        rw [this, ← hq.len]
    · rcases Jn.openQ hc hq (by omega) hz0 h0 hB with ⟨e1, e2, e3, _⟩ | ⟨e1, e2, e3, e4⟩
      · exact Or.inl ⟨e1, e2, Or.inl ⟨hok, e3⟩⟩
      · exact Or.inr ⟨e1, e2, e3, fun keep => Or.inl ⟨hok, e4 keep⟩⟩
  · refine ⟨_, _, openQ_any h hc hq h0 hB ha hz hz0 hroom hr hreg, ?_, ?_⟩
    · rcases Jn.openQ hc hq (by omega) hz0 h0 hB with ⟨_, _, _, e, _⟩ | ⟨_, _, _, e⟩
      · rw [e, List.length_set]
      · have := (e []).len
        rw [Dk.crash_len] at this
        rw [this, ← hq.len]
    · rcases Jn.openQ hc hq (by omega) hz0 h0 hB with ⟨e1, e2, e3, _⟩ | ⟨e1, e2, e3, e4⟩
      · exact Or.inl ⟨e1, e2, Or.inr e3⟩
      · exact Or.inr ⟨e1, e2, e3, fun keep => Or.inr (Or.inl (e4 keep))⟩
  · obtain ⟨q, q0, q1, hq⟩ := hl.head
    refine ⟨_, _, openL_any h hc hl hm q0 q1 hB hq ha hz hroom hr hr9 hcr, ?_, ?_⟩
    · rcases Jn.runs_spec [cs, [⟨(a : Int), pageH (quietH (q + 1))⟩]] s hc (fun l hl' => by
          rcases List.mem_cons.1 hl' with rfl | hl'
          · exact hm.val
          · rw [List.mem_singleton] at hl'; subst hl'; exact Jn.val_one (by omega) _) with ⟨_, _, _, e⟩ | ⟨_, _, _, j, _, e⟩
      · rw [e, Jn.updAll_length]
      · have := (e []).len
        rw [Dk.crash_len, Jn.updAll_length] at this
        exact this
    · rcases Jn.openL hc hl hm q0 q1 hq hB with ⟨e1, e2, e3⟩ | ⟨e1, e2, e3, e4⟩
      · exact Or.inl ⟨e1, e2, Or.inr e3⟩
      · refine Or.inr ⟨e1, e2, e3, fun keep => ?_⟩
        rcases e4 keep with g | g
        · exact Or.inr (Or.inl g)
        · refine Or.inr (Or.inr ⟨?_, g⟩)
          have : (Dk.crash (Jn.runs s [cs, [⟨(a : Int), pageH (quietH (q + 1))⟩]]).1 keep).last.length = s.last.length := by rw [g.len, ← hl.len]
          rw [this]; exact hm

/-! ### a new disk -/
set_option maxRecDepth 100000 in
theorem fresh_cl {n : Nat} (h1 : 1 ≤ n) (h2 : n ≤ 512) : Cl (Dk.fresh n) := ⟨Dk.fresh_ok h1 h2, rfl, by unfold Dk.fresh; simp⟩
set_option maxRecDepth 100000 in
theorem fresh_len (n : Nat) : (Dk.fresh n).last.length = n := by unfold Dk.fresh; simp
set_option maxRecDepth 100000 in
theorem fresh_at {n i : Nat} (h : i < n) : (Dk.fresh n).last.getD i [] = zeros := by
  unfold Dk.fresh
  simp only
  rw [List.getD_eq_getElem?_getD, List.getElem?_replicate, if_pos h]; rfl
set_option maxRecDepth 100000 in
theorem zeros_front : Pg.getN zeros 0 4 = 0 := by decide
set_option maxRecDepth 100000 in
theorem zeros_back : Pg.getN zeros 60 4 = 0 := by decide
set_option maxRecDepth 100000 in
theorem zeros_next : Hd.nextN [zeros] = 1 := by decide
set_option maxRecDepth 100000 in
theorem zeros_quiet : Jn.QuietP zeros := by
  rintro ⟨_, h⟩
  have : (Hd.readH zeros).live = false := by decide
  rw [this] at h
  cases h
set_option maxRecDepth 100000 in
theorem fresh_quiet {n a z : Nat} (h : a < n) : Quiet a z 0 (Dk.fresh n).last (Dk.fresh n).last where
  len := rfl
  low := by rw [fresh_at h]; exact ⟨zeros_length, by rw [zeros_front]; exact Int.le_refl _, by rw [zeros_back]; exact Int.le_refl _⟩
  quiet := by rw [fresh_at h]; exact zeros_quiet
  same := fun _ _ => rfl
set_option maxRecDepth 100000 in
/-- the first Open -/
theorem first_open {w : World} {d l m n a z r : Nat} (h : DiskAt w d l m (Dk.fresh n)) (h1 : 1 ≤ n) (h2 : n ≤ 512) (hz0 : 0 < z) (hroom : RoomIs z r) (hr : 1 ≤ r) (hreg : a + z ≤ n) :
    ∃ s, Cl s ∧ s.lim = false ∧ s.last.length = n ∧ s.last.getD a [] = pageH (quietH 1) ∧ Calls Tryz.prog 27 #[.pointer (some ⟨d, 0, none⟩), .int .i64 (a : Int), .int .i64 (z : Int)] w fun e w' =>
      ∃ j, e = .returned (.tuple #[.pointer (some ⟨j, 0, none⟩), .int .i64 0, .int .i64 0]) ∧ DiskAt w' d l m s ∧ JAt w' j d a z 1 false ∧ w.heap.size ≤ j ∧ Only [d, l, m] w w' := by
  have hc := fresh_cl h1 h2
  have hq : Quiet a z 0 (Dk.fresh n).last (Dk.fresh n).last := fresh_quiet (by omega)
  have hl := fresh_len n
  have ho := openQ_any h hc hq (Int.le_refl 0) (by omega) (by omega) (by omega) hz0 hroom hr (by omega)
  have hn : Hd.nextN [(Dk.fresh n).last.getD a []] = 1 := by rw [fresh_at (by omega)]; exact zeros_next
  rcases Jn.openQ hc hq (by omega) hz0 (Int.le_refl 0) (by omega) with ⟨e1, e2, e3, e4, e5⟩ | ⟨_, e, _⟩
  · rw [hn] at ho e1 e2 e4 e5
    refine ⟨_, e2, e5, by rw [e4, List.length_set, hl], ?_, ho.mono ?_⟩
    · rw [e4, List.getD_eq_getElem?_getD, List.getElem?_set_self (by omega)]; rfl
    · rintro e w' ⟨k1, k2, k3⟩
      rcases k3 with ⟨_, j, cnt, q, k4, k5, ⟨rfl, rfl⟩, k6⟩ | ⟨k4, _⟩
      · exact ⟨j, k4, k1, k5, k6, k2⟩
      · exact absurd e1 k4
  · cases e
end Go.Proofs.YtppbiohjhnoagaaGreat
