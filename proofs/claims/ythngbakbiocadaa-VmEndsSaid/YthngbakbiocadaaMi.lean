/-
  The project's own Right.
-/
import Derived.Test.YthngbakbiocadaaMh
import Derived.Test.YthngbakbiocadaaMa
import Derived.Deep.Strs

namespace Go.Proofs.Ythngbakbiocadaa.Yq
set_option maxRecDepth 100000
open Go.RowKit Go.Maps

theorem all_len (xs : List Y.In) (h : Y.all xs = true) : 0 < xs.length ∧ xs.length ≤ 64 := Y.all_len h
theorem all_out (xs : List Y.In) (h : xs.length < 1 ∨ 64 < xs.length) : Y.all xs = false := by
  unfold Y.all
  rw [Bool.and_eq_false_iff]
  exact Or.inr (decide_eq_false (by omega))
set_option maxHeartbeats 1000000 in
theorem right_any (A : Option Addr) (n c : Nat) (xs : List Y.In) (w : World) (h : InsAt w A n xs) (hn : n ≤ maxLen) :
    Calls Try.prog 9 #[.slice A n c] w fun e w' => e = .returned (.bool (Y.all xs)) ∧ Below w.heap.size w w' := by
  have hn' : (n : Int) ≤ 9223372036854775807 := by unfold maxLen at hn; omega
  have S0 : Hid (InsS w A n xs w) := Lib.hid ⟨h, Below.refl _ _⟩
  have HL := Lib.hid h.len
  have HR : Hid (∀ x w, Calls Try.prog 27 #[.agg (inL x).toArray] w fun e w' => e = .returned (.bool (Y.right x)) ∧ Below w.heap.size w w') := Lib.hid (fun x w => isRight_any x w)
  have HO := Lib.hid (all_out xs)
  rw [HL.out] at HO
  clear h hn
  by_cases hr : n < 1 ∨ 64 < n
  · have HA := Lib.hid (HO.out hr)
    clear HO
    go_enter Try.func9, Try.ntmps9
    go_wp2
    all_goals first
      | omega
      | (go_ret; exact ⟨ret_bool HA.out.symm, S0.out.bel⟩)
  · have h1 : 1 ≤ n := by omega
    have h2 : n ≤ 64 := by omega
    clear hr HO
    go_enter Try.func9, Try.ntmps9
    go_wp2
    go_loopw [15] (fun i wr => ∃ k : Nat, k ≤ n ∧ i = .int .i64 (k : Int) ∧ Hid ((xs.take k).all Y.right = true) ∧ Hid (InsS w A n xs wr)) (fun i _ => n - (intOf i).toNat)
    case atStart => exact ⟨0, Nat.zero_le _, rfl, Lib.hid rfl, S0⟩
    case round =>
      clear S0
      obtain ⟨k, hk, rfl, HA, S⟩ := hrel
      rename World => wo
      by_cases hlt : k < n
      · obtain ⟨b, off, x, hA, hb, hx, hc⟩ := S.out.ins.get k hlt
        subst hA
        have HX := Lib.hid hx
        have HC := Lib.hid hc
        have hk0 : (0 : Int) ≤ (k : Int) := by omega
        have hk1 : (k : Int) < (n : Int) := by omega
        clear hx hc hb
        cases hr : Y.right x with
        | true =>
          have HR1 := Lib.hid (fun w => hr ▸ HR.out x w)
          have HM := Lib.hid (all_more xs k x HX.out hr HA.out)
          clear hr
          go_wp2_with (first
            | ((with_reducible refine wpList_load_at inT HC.out (inL_length _) rfl (.tmp 17) rfl ?_ ?_); (exact rfl))
            | ((with_reducible refine wpList_store_newrow inT (vs := inL x) (inL_length _) (inL_one _) rfl (.tmp 4) (.tmp 18) rfl rfl ?_ ?_ ?_); (exact rfl); (exact rfl); intro W4 hP hb hz; have R := Lib.hid hP; replace S := Lib.hid (S.out.call hb); clear hP hb hz; generalize wo.heap.size = G at R ⊢)
            | (with_reducible refine wpList_load_row inT R.out (inL_length _) rfl (.tmp 4) rfl rfl ?_)
            | (go_at_call 27; (with_reducible refine (HR1.out _).mono ?_); rintro e w2 ⟨rfl, hb2⟩; replace S := Lib.hid (S.out.call hb2); clear hb2))
          go_roundw
          case rel => exact ⟨k + 1, by omega, by go_num, HM, S⟩
          case measure => (simp [intOf] <;> omega)
        | false =>
          have HR1 := Lib.hid (fun w => hr ▸ HR.out x w)
          have HM := Lib.hid (all_no xs k x HX.out hr)
          clear hr
          go_wp2_with (first
            | ((with_reducible refine wpList_load_at inT HC.out (inL_length _) rfl (.tmp 17) rfl ?_ ?_); (exact rfl))
            | ((with_reducible refine wpList_store_newrow inT (vs := inL x) (inL_length _) (inL_one _) rfl (.tmp 4) (.tmp 18) rfl rfl ?_ ?_ ?_); (exact rfl); (exact rfl); intro W4 hP hb hz; have R := Lib.hid hP; replace S := Lib.hid (S.out.call hb); clear hP hb hz; generalize wo.heap.size = G at R ⊢)
            | (with_reducible refine wpList_load_row inT R.out (inL_length _) rfl (.tmp 4) rfl rfl ?_)
            | (go_at_call 27; (with_reducible refine (HR1.out _).mono ?_); rintro e w2 ⟨rfl, hb2⟩; replace S := Lib.hid (S.out.call hb2); clear hb2))
          go_ret
          exact ⟨ret_bool HM.out.symm, S.out.bel⟩
      · obtain rfl : k = n := by omega
        have e : xs.take k = xs := List.take_of_length_le (by rw [HL.out]; exact Nat.le_refl _)
        rw [e] at HA
        have HE : Hid (Y.all xs = decide (0 < k ∧ k ≤ 64)) := Lib.hid (by unfold Y.all; rw [HA.out, HL.out]; rfl)
        clear e hlt
        go_wp2
        go_ret
        exact ⟨ret_bool (by rw [HE.out]; exact (decide_eq_true (by omega)).symm), S.out.bel⟩
end Go.Proofs.Ythngbakbiocadaa.Yq

/-
  hook's own tables, and the document's: which fields a hook has, which helpers it may call.
-/
namespace Go.Proofs.Ythngbakbiocadaa
set_option maxRecDepth 100000
open Go.RowKit Go.Maps

namespace Hk
def knownF (h : Int) : Bool := decide (1 ≤ h) && decide (h ≤ 8)
def inF (h : Int) : Int := if h = 1 then 4 else if h = 2 then 10 else if h = 3 then 1 else if h = 4 then 7 else if h = 5 then 3 else if h = 6 then 7 else if h = 7 then 6 else if h = 8 then 5 else 0
def outF (h : Int) : Int := if h = 1 then 6 else if h = 3 then 5 else if h = 5 then 3 else 0
def toldF (h : Int) : Bool := decide (h = 2) || decide (h = 4) || decide (h = 6) || decide (h = 7)
def argsF (h k : Int) : Int := if knownF h = false then 0 else if k = 1 then 2 else if k = 2 then 1 else if k = 3 then (if toldF h then 4 else 0) else if k = 4 then (if toldF h then 2 else 0) else 0
def chgF (k : Int) : Bool := decide (k = 3) || decide (k = 4)
end Hk
open Hk
set_option maxHeartbeats 1000000 in
theorem known_any (h : Int) (w : World) : Calls Try.prog 8 #[.int .i64 h] w fun e w' => e = .returned (.bool (knownF h)) ∧ w = w' := by
  go_enter Try.func8, Try.ntmps8
  by_cases c1 : 1 ≤ h
  · by_cases c2 : h ≤ 8
    · go_wp2
      go_ret
      exact ⟨ret_bool (by unfold knownF; first | (simp [*]; done) | (simp [*]; omega)), rfl⟩
    · go_wp2
      go_ret
      exact ⟨ret_bool (by unfold knownF; first | (simp [*]; done) | (simp [*]; omega)), rfl⟩
  · go_wp2
    go_ret
    exact ⟨ret_bool (by unfold knownF; first | (simp [*]; done) | (simp [*]; omega)), rfl⟩
set_option maxHeartbeats 1000000 in
theorem in_any (h : Int) (w : World) : Calls Try.prog 28 #[.int .i64 h] w fun e w' => e = .returned (.int .i64 (inF h)) ∧ w = w' := by
  go_enter Try.func28, Try.ntmps28
  go_wp2
  all_goals
    go_ret
    refine ⟨ret_int ?_, rfl⟩
    simp only [beq_iff_eq, beq_eq_false_iff_ne, ne_eq] at *
    unfold inF
    simp [*]
set_option maxHeartbeats 1000000 in
theorem out_any (h : Int) (w : World) : Calls Try.prog 12 #[.int .i64 h] w fun e w' => e = .returned (.int .i64 (outF h)) ∧ w = w' := by
  go_enter Try.func12, Try.ntmps12
  go_wp2
  all_goals
    go_ret
    refine ⟨ret_int ?_, rfl⟩
    simp only [beq_iff_eq, beq_eq_false_iff_ne, ne_eq] at *
    unfold outF
    simp [*]
set_option maxHeartbeats 1000000 in
theorem told_any (h : Int) (w : World) : Calls Try.prog 19 #[.int .i64 h] w fun e w' => e = .returned (.bool (toldF h)) ∧ w = w' := by
  go_enter Try.func19, Try.ntmps19
  go_wp2
  all_goals
    go_ret
    refine ⟨ret_bool ?_, rfl⟩
    simp only [beq_iff_eq, beq_eq_false_iff_ne, ne_eq] at *
    unfold toldF
    simp [*]
set_option maxHeartbeats 1000000 in
theorem chg_any (k : Int) (w : World) : Calls Try.prog 73 #[.int .i64 k] w fun e w' => e = .returned (.bool (chgF k)) ∧ w = w' := by
  go_enter Try.func73, Try.ntmps73
  by_cases c2 : k = 3
  · go_wp2
    go_ret
    exact ⟨ret_bool (by unfold chgF; simp [*]), rfl⟩
  · by_cases c4 : k = 4
    · go_wp2
      go_ret
      exact ⟨ret_bool (by unfold chgF; simp [*]), rfl⟩
    · go_wp2
      go_ret
      exact ⟨ret_bool (by unfold chgF; simp [*]), rfl⟩
set_option maxHeartbeats 2000000 in
theorem rin_any (h : Int) (w : World) : Calls Try.prog 30 #[.int .i64 h] w fun e w' => e = .returned (.int .i64 (inF h)) ∧ Below w.heap.size w w' := by
  have hb : Below w.heap.size w (w.alloc (.cells #[.int .i64 0, .int .i64 4, .int .i64 10, .int .i64 1, .int .i64 7, .int .i64 3, .int .i64 7, .int .i64 6, .int .i64 5] 3)) := (Below.refl _ _).alloc (Nat.le_refl _) _
  have HB := Lib.hid hb
  clear hb
  by_cases c : 1 ≤ h ∧ h ≤ 8
  · obtain ⟨k, rfl⟩ : ∃ k : Nat, h = (k : Int) := ⟨h.toNat, by omega⟩
    obtain ⟨c1, c2⟩ := c
    have HC : ∀ v, (#[.int .i64 0, .int .i64 4, .int .i64 10, .int .i64 1, .int .i64 7, .int .i64 3, .int .i64 7, .int .i64 6, .int .i64 5] : Array Value)[k]? = some v → (w.alloc (.cells #[.int .i64 0, .int .i64 4, .int .i64 10, .int .i64 1, .int .i64 7, .int .i64 3, .int .i64 7, .int .i64 6, .int .i64 5] 3)).cell? ⟨w.heap.size, k, none⟩ = some v := fun v hv => by
      have := cell_new w [.int .i64 0, .int .i64 4, .int .i64 10, .int .i64 1, .int .i64 7, .int .i64 3, .int .i64 7, .int .i64 6, .int .i64 5] 3 k v (by simpa using hv)
      rw [Addr.add_mid, Nat.zero_add] at this
      exact this
    have hk : k = 1 ∨ k = 2 ∨ k = 3 ∨ k = 4 ∨ k = 5 ∨ k = 6 ∨ k = 7 ∨ k = 8 := by omega
    rcases hk with rfl | rfl | rfl | rfl | rfl | rfl | rfl | rfl <;>
    · have hc := HC _ rfl
      go_enter Try.func30, Try.ntmps30
      go_wp2
      go_ret
      exact ⟨rfl, HB.out⟩
  · have hz : inF h = 0 := by unfold inF; repeat (rw [if_neg (by omega)])
    rw [hz]
    clear hz
    go_enter Try.func30, Try.ntmps30
    by_cases c1 : h < 1
    · go_wp2
      go_ret
      exact ⟨rfl, HB.out⟩
    · have c2 : 8 < h := by omega
      go_wp2
      go_ret
      exact ⟨rfl, HB.out⟩
set_option maxHeartbeats 4000000 in
theorem args_any (h k : Int) (w : World) : Calls Try.prog 67 #[.int .i64 h, .int .i64 k] w fun e w' => e = .returned (.tuple #[.int .i64 (argsF h k), .bool (decide (argsF h k > 0))]) ∧ w = w' := by
  go_enter Try.func67, Try.ntmps67
  cases hk : knownF h
  · go_wp2_with (go_at_call 8; refine (known_any h _).mono ?_; rintro e w' ⟨rfl, rfl⟩; rw [hk])
    go_ret2
    exact ⟨by simp [argsF, hk], rfl⟩
  · cases hc : chgF k
    · go_wp2_with (first | (go_at_call 8; refine (known_any h _).mono ?_; rintro e w' ⟨rfl, rfl⟩; rw [hk]) | (go_at_call 73; refine (chg_any k _).mono ?_; rintro e w' ⟨rfl, rfl⟩; rw [hc]))
      all_goals
        go_ret2
        refine ⟨?_, rfl⟩
        simp only [beq_iff_eq, beq_eq_false_iff_ne, ne_eq, chgF, Bool.or_eq_false_iff, decide_eq_false_iff_not] at *
        first
          | (exfalso; omega)
          | (simp [argsF, *]; done)
    · cases ht : toldF h
      · go_wp2_with (first | (go_at_call 8; refine (known_any h _).mono ?_; rintro e w' ⟨rfl, rfl⟩; rw [hk]) | (go_at_call 73; refine (chg_any k _).mono ?_; rintro e w' ⟨rfl, rfl⟩; rw [hc]) | (go_at_call 19; refine (told_any h _).mono ?_; rintro e w' ⟨rfl, rfl⟩; rw [ht]))
        go_ret2
        refine ⟨?_, rfl⟩
        have : k = 3 ∨ k = 4 := by simpa [chgF] using hc
        rcases this with rfl | rfl <;> simp [argsF, hk, ht]
      · have : k = 3 ∨ k = 4 := by simpa [chgF] using hc
        rcases this with rfl | rfl <;>
        · go_wp2_with (first | (go_at_call 8; refine (known_any h _).mono ?_; rintro e w' ⟨rfl, rfl⟩; rw [hk]) | (go_at_call 73; refine (chg_any _ _).mono ?_; rintro e w' ⟨rfl, rfl⟩; rw [hc]) | (go_at_call 19; refine (told_any h _).mono ?_; rintro e w' ⟨rfl, rfl⟩; rw [ht]))
          go_ret2
          refine ⟨?_, rfl⟩
          simp [argsF, hk, ht]
end Go.Proofs.Ythngbakbiocadaa

/-
  Both stages' texts side by side.
-/
namespace Go.Proofs.Ythngbakbiocadaa
end Go.Proofs.Ythngbakbiocadaa

/-
  The arguments of layer 19's statements, opened: entries, fills, numbers, setups.
-/
namespace Go.Proofs.Ythngbakbiocadaa
set_option maxRecDepth 100000
open Go.ChangeShapes Go.WideShapes Go.ChangeAt Go.RowKit Go.Maps

/-- a slice of rows, read as data at any depth -/
theorem open_rows {H : Type} {enc : TypeId × Value → H} {W : World} {st et : TypeId} {z k fuel : Nat} {cs : List Value} {x : DataW H × List MemPlace} (hz : 0 < z) (hst : Try.prog.underlying st = some (.slice et)) (hcz : Try.prog.cellsOf et = z) (G : List Value → Prop)
    (hG : ∀ (m : Nat) (cs : List Value) (x : DataW H × List MemPlace), DataW.trod enc Try.prog W k (fun _ => true) true m et cs = some x → G cs)
    (hGz : ∀ cs, G cs → cs.length = z) (h : DataW.trod enc Try.prog W k (fun _ => true) true fuel st cs = some x) : ∃ A n c rs, cs = [.slice A n c] ∧ rs.length = n ∧ (n ≤ c ∧ c ≤ maxLen) ∧ (∀ r ∈ rs, G r) ∧ ManyAt W A z rs := by
  rcases Go.Deep.open_slice hst h with ⟨hcs, _⟩ | ⟨a, len, cap, m, q, D, Pl, hcs, _, hl, hm, hmm, _, hi⟩
  · exact ⟨none, 0, 0, [], hcs, rfl, by unfold maxLen; omega, fun r hr => absurd hr (by simp), ⟨fun hn => by simp at hn⟩⟩
  · simp only [if_true] at hmm
    have each : ∀ i, i < len → ∃ q : List Value, G q ∧ ∀ j u, q[j]? = some u → W.cell? ((a.add (i * z)).add j) = some u := by
      intro i hin
      obtain ⟨cs, hc, ht⟩ := hi i (by omega)
      rw [hcz] at hc
      obtain ⟨_, hcl, hat⟩ := World.cells?_some hc
      have hg := hG _ _ _ ht
      refine ⟨cs, hg, fun j u hu => ?_⟩
      have hj : j < z := by have := (List.getElem?_eq_some_iff.1 hu).1; have := hGz _ hg; omega
      rw [hat j hj, hu]
    obtain ⟨rs, hrl, hrs⟩ := list_of _ len each
    have hget : ∀ i r, rs[i]? = some r → G r ∧ ∀ j u, r[j]? = some u → W.cell? ((a.add (i * z)).add j) = some u := by
      intro i r hr
      have hin : i < len := by have := (List.getElem?_eq_some_iff.1 hr).1; omega
      obtain ⟨q, hq, h1⟩ := hrs i hin
      rw [hr] at hq
      injection hq with hq
      rw [hq]; exact h1
    refine ⟨_, _, _, rs, hcs, hrl, by omega, fun r hr => ?_, ⟨fun hn => ?_⟩⟩
    · obtain ⟨i, hi', he⟩ := List.getElem_of_mem hr
      exact (hget i r (by rw [List.getElem?_eq_getElem hi', he])).1
    · obtain ⟨r0, hr0⟩ : ∃ r, rs[0]? = some r := ⟨_, List.getElem?_eq_getElem (by omega)⟩
      obtain ⟨b, off, spot⟩ := a
      obtain ⟨hz0, hc0⟩ := hget 0 r0 hr0
      have hl0 := hGz _ hz0
      have hcell0 := hc0 0 _ (List.getElem?_eq_getElem (by omega))
      have hspot : spot = none := by simpa [Addr.add] using World.cell?_spot hcell0
      subst hspot
      refine ⟨b, off, rfl, ?_, fun i r hr j u hu => ?_⟩
      · rw [Addr.add_mid, Addr.add_mid] at hcell0
        exact World.block_lt_of_cell? W _ hcell0
      · have := (hget i r hr).2 j u hu
        rw [Addr.add_mid, Addr.add_mid] at this
        exact this
theorem list_map {α : Type} (f : α → List Value) : ∀ rs : List (List Value), (∀ r ∈ rs, ∃ x : α, r = f x) → ∃ xs : List α, rs = xs.map f
  | [], _ => ⟨[], rfl⟩
  | r :: t, hr => by
    obtain ⟨q, e⟩ := hr r (List.mem_cons_self ..)
    obtain ⟨ps, e2⟩ := list_map f t (fun x hx => hr x (List.mem_cons_of_mem _ hx))
    exact ⟨q :: ps, by rw [e, e2]; rfl⟩
/-! ### numbers -/
structure NumsAt (w : World) (A : Option Addr) (n : Nat) (ks : List Int) : Prop where
  len : ks.length = n
  rows : ManyAt w A 1 (ks.map fun (k : Int) => [Value.int .i64 k])
theorem NumsAt.step {w w' : World} {A : Option Addr} {n : Nat} {ks : List Int} (h : NumsAt w A n ks) (hb : Below w.heap.size w w') : NumsAt w' A n ks := ⟨h.len, h.rows.step hb⟩
theorem NumsAt.get {w : World} {A : Option Addr} {n : Nat} {ks : List Int} (h : NumsAt w A n ks) (i : Nat) (hi : i < n) : ∃ b off k, A = some ⟨b, off, none⟩ ∧ b < w.heap.size ∧ ks[i]? = some k ∧ w.cell? ⟨b, off + i, none⟩ = some (.int .i64 k) := by
  obtain ⟨b, off, e, hb, hc⟩ := h.rows.cells (by rw [List.length_map, h.len]; omega)
  have hx : ks[i]? = some (ks[i]'(by rw [h.len]; exact hi)) := List.getElem?_eq_getElem _
  have := hc i _ (by rw [List.getElem?_map, hx]; rfl) 0 _ rfl
  rw [Nat.mul_one, Nat.add_zero] at this
  exact ⟨b, off, _, e, hb, hx, this⟩
theorem open_nums {H : Type} {enc : TypeId × Value → H} {W : World} {k fuel : Nat} {cs : List Value} {x : DataW H × List MemPlace} (h : DataW.trod enc Try.prog W k (fun _ => true) true fuel 22 cs = some x) :
    ∃ A n c ks, cs = [.slice A n c] ∧ (n ≤ c ∧ c ≤ maxLen) ∧ NumsAt W A n ks := by
  obtain ⟨A, n, c, rs, e, hl, hm, hg, hr⟩ := open_rows (z := 1) (by decide) Try.underlying22 cellsI (fun cs => ∃ k : Int, cs = [.int .i64 k]) (fun m cs x ht => by
    obtain ⟨v, hv, _, hw⟩ := DataW.trod_int Try.underlying3 ht
    exact ⟨v, hv⟩) (fun cs ⟨q, he⟩ => by rw [he]; rfl) h
  obtain ⟨ks, e2⟩ := list_map (fun (k : Int) => [Value.int .i64 k]) rs hg
  exact ⟨A, n, c, ks, e, hm, by rw [← hl, e2, List.length_map], e2 ▸ hr⟩
/-! ### entries -/
theorem cellsEn : Try.prog.cellsOf 74 = 5 := by kernel_rfl
theorem val_cells {H : Type} {enc : TypeId × Value → H} {W : World} {fuel k : Nat} {cs : List Value} {z : DataW H × List MemPlace} (ht : DataW.trod enc Try.prog W k (fun _ => true) true fuel 60 cs = some z) :
    ∃ a b c d : Int, cs = [.int .i64 a, .int .i64 b, .int .i64 c, .int .i64 d] := by
  obtain ⟨xs, m, _, _, hcl, hxl, hx⟩ := DataW.trod_array Try.underlying60 ht
  rw [cellsV] at hcl
  match cs, hcl with
  | [x0, x1, x2, x3], _ =>
    have each : ∀ j, j < 4 → ∃ a : Int, [x0, x1, x2, x3][j]? = some (.int .i64 a) := by
      intro j hj
      have hx' := hx j (by omega)
      rw [cellsI, Nat.mul_one] at hx'
      have hs : xs[j]? = some (xs[j]'(by omega)) := List.getElem?_eq_getElem (by omega)
      obtain ⟨v, hv, _, hw⟩ := DataW.trod_int Try.underlying3 (hx'.trans hs)
      refine ⟨v, ?_⟩
      rw [List.drop_eq_getElem_cons (show j < [x0, x1, x2, x3].length from hj)] at hv
      injection hv with hv
      rw [List.getElem?_eq_getElem (show j < [x0, x1, x2, x3].length from hj), hv]
    obtain ⟨a, ha⟩ := each 0 (by omega)
    obtain ⟨b, hb⟩ := each 1 (by omega)
    obtain ⟨c, hc⟩ := each 2 (by omega)
    obtain ⟨d, hd⟩ := each 3 (by omega)
    simp at ha hb hc hd
    subst ha hb hc hd
    exact ⟨a, b, c, d, rfl⟩
theorem en_cells {H : Type} {enc : TypeId × Value → H} {W : World} {fuel k : Nat} {cs : List Value} {z : DataW H × List MemPlace} (ht : DataW.trod enc Try.prog W k (fun _ => true) true fuel 74 cs = some z) : ∃ x : Z.En, cs = enL x := by
  obtain ⟨xs, n, _, rfl, hcl, hlen, hf⟩ := DataW.trod_struct Try.underlying74 ht
  rw [cellsEn] at hcl
  match xs, hlen with
  | [y0, y1], _ =>
    obtain ⟨a0, e0, _, _⟩ := DataW.trod_int Try.underlying3 (hf 0 _ rfl)
    obtain ⟨a, b, c, d, e1⟩ := val_cells (hf 1 _ rfl)
    have c0 : (cs.drop 0).take (Try.prog.cellsOf 3) = [.int .i64 a0] := e0
    have c1 : (cs.drop 1).take (Try.prog.cellsOf 60) = [.int .i64 a, .int .i64 b, .int .i64 c, .int .i64 d] := e1
    rw [cellsI] at c0
    rw [cellsV] at c1
    refine ⟨⟨a0, a, b, c, d⟩, ?_⟩
    match cs, hcl with
    | [v0, v1, v2, v3, v4], _ =>
      simp at c0 c1
      obtain ⟨rfl, rfl, rfl, rfl⟩ := c1
      subst c0
      rfl
theorem open_ens {H : Type} {enc : TypeId × Value → H} {W : World} {k fuel : Nat} {cs : List Value} {x : DataW H × List MemPlace} (h : DataW.trod enc Try.prog W k (fun _ => true) true fuel 35 cs = some x) :
    ∃ A n c es, cs = [.slice A n c] ∧ (n ≤ c ∧ c ≤ maxLen) ∧ EnsAt W A n es := by
  obtain ⟨A, n, c, rs, e, hl, hm, hg, hr⟩ := open_rows (z := 5) (by decide) Try.underlying35 cellsEn (fun cs => ∃ x : Z.En, cs = enL x) (fun m cs x ht => en_cells ht) (fun cs ⟨q, he⟩ => by rw [he]; rfl) h
  obtain ⟨es, e2⟩ := list_map enL rs hg
  exact ⟨A, n, c, es, e, hm, by rw [← hl, e2, List.length_map], e2 ▸ hr⟩
/-! ### fills -/
structure Fl where
  kind : Int
  room : Int
  es : List Z.En
def flL (f : Fl) (E : Option Addr) (m c : Nat) : List Value := [.int .i64 f.kind, .int .i64 f.room, .slice E m c]
theorem flL_one (f : Fl) (E : Option Addr) (m c : Nat) : ∀ v ∈ flL f E m c, v.oneCell' = true := by
  intro v hv
  simp only [flL, List.mem_cons, List.not_mem_nil, or_false] at hv
  rcases hv with rfl | rfl | rfl <;> rfl
theorem flT : RowT 37 3 := ⟨⟨_, Try.underlying37, rfl⟩, by kernel_rfl⟩
theorem cellsFl : Try.prog.cellsOf 37 = 3 := by kernel_rfl
theorem cellsES : Try.prog.cellsOf 35 = 1 := by kernel_rfl
structure FlsAt (w : World) (A : Option Addr) (n : Nat) (fs : List Fl) : Prop where
  len : fs.length = n
  rows : ∃ rs : List (List Value), rs.length = n ∧ ManyAt w A 3 rs ∧ ∀ (i : Nat) (f : Fl) (r : List Value), fs[i]? = some f → rs[i]? = some r → ∃ E m c, r = flL f E m c ∧ m ≤ c ∧ c ≤ maxLen ∧ EnsAt w E m f.es
theorem FlsAt.step {w w' : World} {A : Option Addr} {n : Nat} {fs : List Fl} (h : FlsAt w A n fs) (hb : Below w.heap.size w w') : FlsAt w' A n fs := by
  obtain ⟨rs, h1, h2, h3⟩ := h.rows
  exact ⟨h.len, rs, h1, h2.step hb, fun i f r hf hr => by
    obtain ⟨E, m, c, e, g1, g2, g3⟩ := h3 i f r hf hr
    exact ⟨E, m, c, e, g1, g2, g3.step hb⟩⟩
theorem FlsAt.get {w : World} {A : Option Addr} {n : Nat} {fs : List Fl} (h : FlsAt w A n fs) (i : Nat) (hi : i < n) : ∃ b off f E m c, A = some ⟨b, off, none⟩ ∧ b < w.heap.size ∧ fs[i]? = some f ∧ w.rangeAt b (off + i * 3) (flL f E m c) ∧ m ≤ c ∧ c ≤ maxLen ∧ EnsAt w E m f.es := by
  obtain ⟨rs, h1, h2, h3⟩ := h.rows
  obtain ⟨b, off, e, hb, hc⟩ := h2.cells (by omega)
  have hf : fs[i]? = some (fs[i]'(by rw [h.len]; exact hi)) := List.getElem?_eq_getElem _
  have hr : rs[i]? = some (rs[i]'(by omega)) := List.getElem?_eq_getElem _
  obtain ⟨E, m, c, g0, g1, g2, g3⟩ := h3 i _ _ hf hr
  refine ⟨b, off, _, E, m, c, e, hb, hf, ?_, g1, g2, g3⟩
  rw [← g0]
  exact hc i _ hr
theorem list_fls {W : World} : ∀ rs : List (List Value), (∀ r ∈ rs, ∃ (f : Fl) (E : Option Addr) (m c : Nat), r = flL f E m c ∧ m ≤ c ∧ c ≤ maxLen ∧ EnsAt W E m f.es) →
    ∃ fs : List Fl, fs.length = rs.length ∧ ∀ (i : Nat) (f : Fl) (r : List Value), fs[i]? = some f → rs[i]? = some r → ∃ E m c, r = flL f E m c ∧ m ≤ c ∧ c ≤ maxLen ∧ EnsAt W E m f.es
  | [], _ => ⟨[], rfl, fun i f r h => by simp at h⟩
  | r :: t, hr => by
    obtain ⟨f, E, m, c, h1⟩ := hr r (List.mem_cons_self ..)
    obtain ⟨fs, g1, g2⟩ := list_fls t (fun x hx => hr x (List.mem_cons_of_mem _ hx))
    refine ⟨f :: fs, by simp [g1], fun i q s hq hs => ?_⟩
    cases i with
    | zero =>
      simp at hq hs
      subst hq hs
      exact ⟨E, m, c, h1⟩
    | succ i => exact g2 i q s (by simpa using hq) (by simpa using hs)
theorem fl_cells {H : Type} {enc : TypeId × Value → H} {W : World} {fuel k : Nat} {cs : List Value} {z : DataW H × List MemPlace} (ht : DataW.trod enc Try.prog W k (fun _ => true) true fuel 37 cs = some z) :
    ∃ (f : Fl) (E : Option Addr) (m c : Nat), cs = flL f E m c ∧ m ≤ c ∧ c ≤ maxLen ∧ EnsAt W E m f.es := by
  obtain ⟨xs, n, _, rfl, hcl, hlen, hf⟩ := DataW.trod_struct Try.underlying37 ht
  rw [cellsFl] at hcl
  match xs, hlen with
  | [y0, y1, y2], _ =>
    obtain ⟨a0, e0, _, _⟩ := DataW.trod_int Try.underlying3 (hf 0 _ rfl)
    obtain ⟨a1, e1, _, _⟩ := DataW.trod_int Try.underlying3 (hf 1 _ rfl)
    obtain ⟨E, m, c, es, e2, hm, he⟩ := open_ens (hf 2 _ rfl)
    have c0 : (cs.drop 0).take (Try.prog.cellsOf 3) = [.int .i64 a0] := e0
    have c1 : (cs.drop 1).take (Try.prog.cellsOf 3) = [.int .i64 a1] := e1
    have c2 : (cs.drop 2).take (Try.prog.cellsOf 35) = [.slice E m c] := e2
    rw [cellsI] at c0 c1
    rw [cellsES] at c2
    refine ⟨⟨a0, a1, es⟩, E, m, c, ?_, hm.1, hm.2, he⟩
    match cs, hcl with
    | [v0, v1, v2], _ =>
      simp at c0 c1 c2
      subst c0 c1 c2
      rfl
theorem open_fls {H : Type} {enc : TypeId × Value → H} {W : World} {k fuel : Nat} {cs : List Value} {x : DataW H × List MemPlace} (h : DataW.trod enc Try.prog W k (fun _ => true) true fuel 23 cs = some x) :
    ∃ A n c fs, cs = [.slice A n c] ∧ (n ≤ c ∧ c ≤ maxLen) ∧ FlsAt W A n fs := by
  obtain ⟨A, n, c, rs, e, hl, hm, hg, hr⟩ := open_rows (z := 3) (by decide) Try.underlying23 cellsFl (fun cs => ∃ (f : Fl) (E : Option Addr) (m c : Nat), cs = flL f E m c ∧ m ≤ c ∧ c ≤ maxLen ∧ EnsAt W E m f.es) (fun m cs x ht => fl_cells ht) (fun cs ⟨f, E, m, c, he, _⟩ => by rw [he]; rfl) h
  obtain ⟨fs, g1, g2⟩ := list_fls rs hg
  exact ⟨A, n, c, fs, e, hm, ⟨by omega, rs, hl, hr, g2⟩⟩
theorem open_fls_arg {H : Type} {enc : TypeId × Value → H} {W : World} {base : Nat} {v : Value} {d : DataW H} {p : List MemPlace} (hv : Value.okWide Try.prog W .any base 23 v)
    (h : DataW.Trod enc Try.prog W 0 (fun _ => true) true 23 v d p) : ∃ A n c fs, v = .slice A n c ∧ (n ≤ c ∧ c ≤ maxLen) ∧ FlsAt W A n fs := by
  obtain ⟨A, n, c, rfl⟩ := okWide_slice Try.underlying23 hv
  obtain ⟨fuel, hf⟩ := h
  obtain ⟨A', n', c', fs, e, hm, hr⟩ := open_fls hf
  simp [Value.cells] at e
  obtain ⟨rfl, rfl, rfl⟩ := e
  exact ⟨_, _, _, fs, rfl, hm, hr⟩
/-! ### setups -/
structure Su where
  hook : Int
  fit : Bool
  ctx : List Int
  fs : List Fl
structure SuAt (w : World) (v : Value) (s : Su) : Prop where
  is : ∃ A n c B m e, v = .agg #[.int .i64 s.hook, .bool s.fit, .slice A n c, .slice B m e] ∧ (n ≤ c ∧ c ≤ maxLen) ∧ NumsAt w A n s.ctx ∧ (m ≤ e ∧ e ≤ maxLen) ∧ FlsAt w B m s.fs
theorem open_setup {H : Type} {enc : TypeId × Value → H} {W : World} {base : Nat} {v : Value} {d : DataW H} {p : List MemPlace} (hv : Value.okWide Try.prog W .any base 25 v)
    (h : DataW.Trod enc Try.prog W 0 (fun _ => true) true 25 v d p) : ∃ s, SuAt W v s := by
  obtain ⟨v0, v1, v2, v3, y0, y1, y2, y3, n, rfl, _, _, h0, h1, h2, h3⟩ := Go.Joins.open_agg4 Try.underlying25 (by kernel_rfl) (by kernel_rfl) hv h
  obtain ⟨a0, e0, _, _⟩ := DataW.trod_int Try.underlying3 h0
  obtain ⟨a1, e1, _⟩ := DataW.trod_bool Try.underlying4 h1
  obtain ⟨A, m, c, ks, e2, hm, hk⟩ := open_nums h2
  obtain ⟨B, q, e, fs, e3, hq, hf⟩ := open_fls h3
  simp at e0 e1 e2 e3
  subst e0 e1 e2 e3
  exact ⟨⟨a0, a1, ks, fs⟩, A, m, c, B, q, e, rfl, hm, hk, hq, hf⟩
end Go.Proofs.Ythngbakbiocadaa

/-
  While a setup's maps are made: the specs, the document's maps; then both sides' maps while entries are put.
-/
namespace Go.Proofs.Ythngbakbiocadaa
set_option maxRecDepth 100000
open Go.ChangeShapes Go.WideShapes Go.ChangeAt Go.RowKit Go.Maps

def spOf (f : Fl) : Int × Int := (f.kind, f.room)
def goodFl (f : Fl) : Bool := goodSp (spOf f) && decide (f.es.length ≤ 40)
def dt0 (f : Fl) : Dt := ⟨decide (f.kind = 2), f.room.toNat, []⟩
def dtP (f : Fl) (j : Nat) : Dt := (f.es.take j).foldl Dt.put (dt0 f)
def dtF (f : Fl) : Dt := f.es.foldl Dt.put (dt0 f)
def dsF (fs : List Fl) : List Dt := fs.map dtF
def spCells (fs : List Fl) : List Value := fs.flatMap (fun f => spL (spOf f))
theorem spCells_snoc (fs : List Fl) (f : Fl) : spCells (fs ++ [f]) = spCells fs ++ spL (spOf f) := by unfold spCells; simp
structure FmS (w : World) (base : Nat) (fs : List Fl) (q k : Nat) (sv u : Value) (cs : List Nat) (rs ex : List Mp) (W : World) : Prop where
  sp : W.ownsRow base 69 2 sv q (spCells (fs.take q))
  rt : W.ownsRow base 56 1 u k (ptrs cs)
  all : Ms base (fun j => sv.ownBlock = some j ∨ u.ownBlock = some j) (rs ++ ex) W
  len : rs.length = k
  is : ∀ i f, i < k → fs[i]? = some f → goodFl f = true ∧ rs[i]? = some (freshR (spOf f) (cs.getD i 0))
  bel : Below w.heap.size w W
  low : w.heap.size ≤ base
  hi : base ≤ W.heap.size
section
variable {w : World} {base : Nat} {fs : List Fl} {q k : Nat} {sv u : Value} {cs : List Nat} {rs ex : List Mp}
theorem FmS.start (w : World) (fs : List Fl) : FmS w w.heap.size fs 0 0 (.slice none 0 0) (.slice none 0 0) [] [] [] w where
  sp := ⟨rfl, Or.inl ⟨rfl, rfl⟩⟩
  rt := ⟨rfl, Or.inl ⟨rfl, rfl⟩⟩
  all := (Ms.nil _ w).sub (fun k hk => by rcases hk with h | h <;> cases h)
  len := rfl
  is := fun i f hi => absurd hi (Nat.not_lt_zero _)
  bel := Below.refl _ _
  low := Nat.le_refl _
  hi := Nat.le_refl _
theorem FmS.call {W W' : World} (h : FmS w base fs q k sv u cs rs ex W) (hb : Below W.heap.size W W') : FmS w base fs q k sv u cs rs ex W' :=
  ⟨owns_below h.sp hb, owns_below h.rt hb, h.all.call hb, h.len, h.is, h.bel.trans (hb.mono h.bel.size), h.low, Nat.le_trans h.hi hb.size⟩
theorem FmS.spec {sv' : Value} {f : Fl} {W W' : World} (h : FmS w base fs q k sv u cs rs ex W) (hx : fs[q]? = some f) (hg : W.grownBy W' sv.ownBlock) (hl : sv'.ownBlock = sv.ownBlock ∨ sv'.ownBlock = some W.heap.size) (hown : W'.ownsRow base 69 2 sv' (q + 1) (spCells (fs.take q) ++ spL (spOf f))) :
    FmS w base fs (q + 1) k sv' u cs rs ex W' := by
  obtain ⟨hq, e⟩ := List.getElem?_eq_some_iff.1 hx
  refine ⟨?_, ?_, ?_, h.len, h.is, h.bel.grown hg h.bel.size (fun j hj => Nat.le_trans h.low (h.sp.lt j hj).1), h.low, Nat.le_trans h.hi hg.size⟩
  · rw [List.take_succ_eq_append_getElem hq, e, spCells_snoc]; exact hown
  · refine h.rt.kept hg ?_
    cases hv : u.ownBlock with
    | none => exact Or.inl rfl
    | some j => exact Or.inr (fun e => own_types h.rt h.sp (by decide) hv e.symm)
  · have h2 : Ms base (fun j => u.ownBlock = some j ∨ sv.ownBlock = some j) (rs ++ ex) W := h.all.sub (fun k hk => hk.symm)
    exact (h2.grow hg hl (fun k hk => (hown.lt k hk).2)).sub (fun k hk => hk.symm)
theorem FmS.made {f : Fl} {W W' : World} {e : Ending} (h : FmS w base fs q k sv u cs rs [] W) (hm : RMade (decide ((spOf f).1 = 2)) (spOf f).2.toNat W e W') : FmS w base fs q k sv u cs rs [freshR (spOf f) W.heap.size] W' := by
  obtain ⟨_, h1, h2⟩ := hm
  refine ⟨owns_below h.sp h2, owns_below h.rt h2, ?_, h.len, h.is, h.bel.trans (h2.mono h.bel.size), h.low, Nat.le_trans h.hi h2.size⟩
  have ha := h.all
  rw [List.append_nil] at ha
  refine ha.add h2 (freshR (spOf f) W.heap.size) (h1 base h.hi) (fun k hk => ?_)
  rcases hk with e | e
  · rw [e]; exact Nat.le_refl _
  · cases e
theorem FmS.done {f : Fl} {b : Nat} {u' : Value} {W W' : World} (h : FmS w base fs q k sv u cs rs [freshR (spOf f) b] W) (hx : fs[k]? = some f) (hgd : goodFl f = true) (hg : W.grownBy W' u.ownBlock) (hl : u'.ownBlock = u.ownBlock ∨ u'.ownBlock = some W.heap.size) (hown : W'.ownsRow base 56 1 u' (k + 1) (ptrs cs ++ [.pointer (some ⟨b, 0, none⟩)])) :
    FmS w base fs q (k + 1) sv u' (cs ++ [b]) (rs ++ [freshR (spOf f) b]) [] W' := by
  have hbl : cs.length = k := by have := h.rt.1; rw [ptrs_length] at this; omega
  refine ⟨?_, by rw [ptrs_snoc]; exact hown, ?_, by rw [List.length_append, h.len]; rfl, fun i y hi hy => ?_, h.bel.grown hg h.bel.size (fun j hj => Nat.le_trans h.low (h.rt.lt j hj).1), h.low, Nat.le_trans h.hi hg.size⟩
  · refine h.sp.kept hg ?_
    cases hv : sv.ownBlock with
    | none => exact Or.inl rfl
    | some j => exact Or.inr (fun e => own_types h.sp h.rt (by decide) hv e.symm)
  · rw [List.append_nil]
    exact h.all.grow hg hl (fun k hk => (hown.lt k hk).2)
  · by_cases e : i = k
    · subst e
      have hml := h.len
      rw [hx] at hy
      injection hy with hy
      subst hy
      refine ⟨hgd, ?_⟩
      rw [List.getElem?_append_right (by omega), h.len, Nat.sub_self, List.getD_eq_getElem?_getD, List.getElem?_append_right (by omega), hbl, Nat.sub_self]
      rfl
    · obtain ⟨g1, g2⟩ := h.is i y (by omega) hy
      refine ⟨g1, ?_⟩
      rw [List.getElem?_append_left (by rw [h.len]; omega), g2]
      congr 2
      rw [List.getD_eq_getElem?_getD, List.getD_eq_getElem?_getD, List.getElem?_append_left (by omega)]
theorem FmS.good {W : World} (h : FmS w base fs q k sv u cs rs ex W) (hk : fs.length = k) : fs.all goodFl = true := by
  rw [List.all_eq_true]
  intro x hx
  obtain ⟨i, hi, rfl⟩ := List.getElem_of_mem hx
  exact (h.is i _ (by omega) (List.getElem?_eq_getElem hi)).1
theorem FmS.set {W : World} (h : FmS w base fs q k sv u cs rs [] W) (hk : fs.length = k) : StAt sR base u cs (stFoot u rs) (fs.map dt0) W := by
  have hM : StM sR base u cs rs (fs.map dt0) W := by
    have ha := h.all
    rw [List.append_nil] at ha
    refine ⟨ha.sub (fun k hk => Or.inr hk), by rw [List.length_map, hk]; exact h.rt, by rw [List.length_map, hk]; exact h.len, fun i d hd => ?_⟩
    rw [List.getElem?_map] at hd
    cases hf : fs[i]? with
    | none => rw [hf] at hd; cases hd
    | some f =>
      rw [hf] at hd
      injection hd with hd
      subst hd
      have hi : i < k := by rw [← hk]; exact (List.getElem?_eq_some_iff.1 hf).1
      obtain ⟨_, g2⟩ := h.is i f hi hf
      exact ⟨.slice none 0 0, g2⟩
  exact ⟨rs, hM, fun k hk => hk, fun k hk => hM.lt hk⟩
end
theorem spCells_at : ∀ (fs : List Fl) (i : Nat) (f : Fl) (j : Nat) (v : Value), fs[i]? = some f → (spL (spOf f))[j]? = some v → (spCells fs)[i * 2 + j]? = some v
  | [], i, f, j, v, hx, _ => by simp at hx
  | y :: r, 0, f, j, v, hx, hv => by
    simp at hx
    subst hx
    have hj : j < 2 := (List.getElem?_eq_some_iff.1 hv).1
    unfold spCells
    rw [List.flatMap_cons, Nat.zero_mul, Nat.zero_add, List.getElem?_append_left (by exact hj)]
    exact hv
  | y :: r, i + 1, f, j, v, hx, hv => by
    have := spCells_at r i f j v (by simpa using hx) hv
    unfold spCells at this ⊢
    have hl : (spL (spOf y)).length = 2 := rfl
    rw [List.flatMap_cons, List.getElem?_append_right (by rw [hl]; omega), hl, show (i + 1) * 2 + j - 2 = i * 2 + j by omega]
    exact this
/-- the specs as Make reads them -/
theorem own_specs {w : World} {base : Nat} {A : Option Addr} {n c : Nat} {fs : List Fl} (h : w.ownsRow base 69 2 (.slice A n c) n (spCells fs)) (hn : n = fs.length) : SpecsAt w A n (fs.map spOf) := by
  refine ⟨by rw [List.length_map]; exact hn.symm, ⟨fun h0 => ?_⟩⟩
  rcases h.2 with ⟨e1, e2⟩ | ⟨g, cap, cur, e1, hb, hg, hnc, hcm, hsz, htk⟩
  · rw [List.length_map, List.length_map] at h0; omega
  · injection e1 with e1 _ e3
    have hlt := (Array.getElem?_eq_some_iff.1 hg).1
    refine ⟨g, 0, e1, hlt, fun i r hr j v hv => ?_⟩
    rw [List.map_map, List.getElem?_map] at hr
    cases hf : fs[i]? with
    | none => rw [hf] at hr; cases hr
    | some f =>
      rw [hf] at hr
      injection hr with hr
      subst hr
      rw [Nat.zero_add]
      have hc := spCells_at fs i f j v hf hv
      have hlen : i * 2 + j < n * 2 := by
        have := (List.getElem?_eq_some_iff.1 hc).1
        have h1 := h.1
        omega
      rw [← htk, List.getElem?_take_of_lt hlen] at hc
      have hh : w.heap[g]? = some (.cells cur 69) := hg
      simp only [World.cell?, hh]
      simpa using hc
end Go.Proofs.Ythngbakbiocadaa

/-
  The program's maps and the document's side by side, neither in the other's memory.
-/
namespace Go.Proofs.Ythngbakbiocadaa
set_option maxRecDepth 100000
open Go.ChangeShapes Go.WideShapes Go.ChangeAt Go.RowKit Go.Maps

def PrAt (base ba bb : Nat) (v u : Value) (bs cs : List Nat) (U : Nat → Prop) (dp dr : List Dt) (W : World) : Prop :=
  ∃ S T, StAt sP ba v bs S dp W ∧ StAt sR bb u cs T dr W ∧ (∀ k, S k → ¬ T k) ∧ (∀ k, S k → U k) ∧ (∀ k, T k → U k) ∧ (∀ k, U k → base ≤ k ∧ k < W.heap.size) ∧ ba ≤ W.heap.size ∧ bb ≤ W.heap.size
def PrTo (base ba bb : Nat) (v u : Value) (bs cs : List Nat) (U : Nat → Prop) (W : World) (dp dr : List Dt) (W' : World) : Prop :=
  ∃ U', PrAt base ba bb v u bs cs U' dp dr W' ∧ But U W W' ∧ ∀ k, U' k → U k ∨ W.heap.size ≤ k
section
variable {base ba bb : Nat} {v u : Value} {bs cs : List Nat} {U : Nat → Prop} {dp dr : List Dt} {W W' W'' : World}
theorem PrAt.keep {V : Nat → Prop} (h : PrAt base ba bb v u bs cs U dp dr W) (hb : But V W W') (hV : ∀ k, V k → ¬ U k) : PrAt base ba bb v u bs cs U dp dr W' := by
  obtain ⟨S, T, h1, h2, h3, h4, h5, h6, h7, h8⟩ := h
  exact ⟨S, T, h1.keep hb (fun k hk hs => hV k hk (h4 k hs)), h2.keep hb (fun k hk hs => hV k hk (h5 k hs)), h3, h4, h5, fun k hk => ⟨(h6 k hk).1, Nat.lt_of_lt_of_le (h6 k hk).2 hb.size⟩, Nat.le_trans h7 hb.size, Nat.le_trans h8 hb.size⟩
theorem PrAt.step (h : PrAt base ba bb v u bs cs U dp dr W) (hb : Below W.heap.size W W') : PrAt base ba bb v u bs cs U dp dr W' := h.keep (V := fun _ => False) (But.of_below hb) (fun _ hf => hf.elim)
theorem PrAt.lt (h : PrAt base ba bb v u bs cs U dp dr W) {k : Nat} (hk : U k) : base ≤ k ∧ k < W.heap.size := by
  obtain ⟨S, T, _, _, _, _, _, h6, _⟩ := h
  exact h6 k hk
theorem PrTo.self (h : PrAt base ba bb v u bs cs U dp dr W) (hb : Below W.heap.size W W') : PrTo base ba bb v u bs cs U W dp dr W' := ⟨U, h.step hb, But.of_below hb, fun _ hk => Or.inl hk⟩
theorem PrTo.trans {U' : Nat → Prop} (h2 : But U W W') (h3 : ∀ k, U' k → U k ∨ W.heap.size ≤ k) (k : PrTo base ba bb v u bs cs U' W' dp dr W'') : PrTo base ba bb v u bs cs U W dp dr W'' := by
  obtain ⟨U2, g1, g2, g3⟩ := k
  refine ⟨U2, g1, h2.trans g2 h3, fun k hk => ?_⟩
  rcases g3 k hk with e | e
  · exact h3 k e
  · exact Or.inr (Nat.le_trans h2.size e)
theorem PrTo.below {w : World} (hu : ∀ k, U k → w.heap.size ≤ k) (hb : Below w.heap.size w W) (h : PrTo base ba bb v u bs cs U W dp dr W') : Below w.heap.size w W' := by
  obtain ⟨U', _, g2, _⟩ := h
  exact hb.trans (g2.below hb.size hu)
/-- a call that turns the program's maps alone -/
theorem PrAt.opP {f : FuncId} {args : Array Value} {E : Ending → World → Prop} {dp' : List Dt} (hbase : base ≤ W.heap.size) (h : PrAt base ba bb v u bs cs U dp dr W)
    (hc : ∀ S, StAt sP ba v bs S dp W → ba ≤ W.heap.size → Calls Try.prog f args W fun e w' => E e w' ∧ StTo sP ba v bs S W dp' w') :
    Calls Try.prog f args W fun e w' => E e w' ∧ PrTo base ba bb v u bs cs U W dp' dr w' := by
  obtain ⟨S, T, h1, h2, h3, h4, h5, h6, h7, h8⟩ := h
  refine (hc S h1 h7).mono fun e w' ⟨g1, S', g2, g3, g4⟩ => ⟨g1, fun k => S' k ∨ T k, ⟨S', T, g2, h2.keep g3 h3, fun k hk ht => ?_, fun k hk => Or.inl hk, fun k hk => Or.inr hk, fun k hk => ?_, Nat.le_trans h7 g3.size, Nat.le_trans h8 g3.size⟩, g3.mono (fun k hk => Or.inl (h4 k hk)), fun k hk => ?_⟩
  · rcases g4 k hk with e | e
    · exact h3 k e ht
    · have := h2.lt ht; omega
  · rcases hk with hk | hk
    · refine ⟨?_, g2.lt hk⟩
      rcases g4 k hk with e | e
      · exact (h6 k (h4 k e)).1
      · omega
    · exact ⟨(h6 k (h5 k hk)).1, Nat.lt_of_lt_of_le (h2.lt hk) g3.size⟩
  · rcases hk with hk | hk
    · exact (g4 k hk).imp (h4 k) id
    · exact Or.inl (h5 k hk)
/-- a call that turns the document's maps alone -/
theorem PrAt.opR {f : FuncId} {args : Array Value} {E : Ending → World → Prop} {dr' : List Dt} (hbase : base ≤ W.heap.size) (h : PrAt base ba bb v u bs cs U dp dr W)
    (hc : ∀ T, StAt sR bb u cs T dr W → bb ≤ W.heap.size → Calls Try.prog f args W fun e w' => E e w' ∧ StTo sR bb u cs T W dr' w') :
    Calls Try.prog f args W fun e w' => E e w' ∧ PrTo base ba bb v u bs cs U W dp dr' w' := by
  obtain ⟨S, T, h1, h2, h3, h4, h5, h6, h7, h8⟩ := h
  refine (hc T h2 h8).mono fun e w' ⟨g1, T', g2, g3, g4⟩ => ⟨g1, fun k => S k ∨ T' k, ⟨S, T', h1.keep g3 (fun k ht hs => h3 k hs ht), g2, fun k hk ht => ?_, fun k hk => Or.inl hk, fun k hk => Or.inr hk, fun k hk => ?_, Nat.le_trans h7 g3.size, Nat.le_trans h8 g3.size⟩, g3.mono (fun k hk => Or.inl (h5 k hk)), fun k hk => ?_⟩
  · rcases g4 k ht with e | e
    · exact h3 k hk e
    · have := h1.lt hk; omega
  · rcases hk with hk | hk
    · exact ⟨(h6 k (h4 k hk)).1, Nat.lt_of_lt_of_le (h1.lt hk) g3.size⟩
    · refine ⟨?_, g2.lt hk⟩
      rcases g4 k hk with e | e
      · exact (h6 k (h5 k e)).1
      · omega
  · rcases hk with hk | hk
    · exact Or.inl (h4 k hk)
    · exact (g4 k hk).imp (h5 k) id
/-- a call of the program's maps that only reads -/
theorem PrAt.readP {X : Prop} (h : PrAt base ba bb v u bs cs U dp dr W) (hc : ∀ S, StAt sP ba v bs S dp W → X) : X := by
  obtain ⟨S, T, h1, _⟩ := h
  exact hc S h1
theorem PrAt.readR {X : Prop} (h : PrAt base ba bb v u bs cs U dp dr W) (hc : ∀ T, StAt sR bb u cs T dr W → X) : X := by
  obtain ⟨S, T, _, h2, _⟩ := h
  exact hc T h2
end
/-! ### how far the puts are -/
def dK (fs : List Fl) (i j : Nat) : List Dt := fs.mapIdx (fun t f => if t < i then dtF f else if t = i then dtP f j else dt0 f)
theorem dtP_zero (f : Fl) : dtP f 0 = dt0 f := by simp [dtP]
theorem dtP_all (f : Fl) : dtP f f.es.length = dtF f := by simp [dtP, dtF]
theorem dtP_succ (f : Fl) (j : Nat) (x : Z.En) (hx : f.es[j]? = some x) : dtP f (j + 1) = (dtP f j).put x := by
  obtain ⟨h1, h2⟩ := List.getElem?_eq_some_iff.1 hx
  unfold dtP
  rw [List.take_succ_eq_append_getElem h1, List.foldl_append, h2]
  rfl
theorem dK_len (fs : List Fl) (i j : Nat) : (dK fs i j).length = fs.length := by unfold dK; simp
theorem dK_start (fs : List Fl) : dK fs 0 0 = fs.map dt0 := by
  apply List.ext_getElem?
  intro t
  unfold dK
  rw [List.getElem?_mapIdx, List.getElem?_map]
  cases fs[t]? with
  | none => rfl
  | some f =>
    simp only [Option.map_some, Nat.not_lt_zero, if_false]
    by_cases h : t = 0
    · rw [if_pos h, dtP_zero]
    · rw [if_neg h]
theorem dK_end (fs : List Fl) (n : Nat) (h : fs.length = n) : dK fs n 0 = dsF fs := by
  apply List.ext_getElem?
  intro t
  unfold dK dsF
  rw [List.getElem?_mapIdx, List.getElem?_map]
  cases hf : fs[t]? with
  | none => rfl
  | some f =>
    have : t < n := by rw [← h]; exact (List.getElem?_eq_some_iff.1 hf).1
    simp only [Option.map_some, if_pos this]
theorem dK_at (fs : List Fl) (i j : Nat) (f : Fl) (h : fs[i]? = some f) : (dK fs i j)[i]? = some (dtP f j) := by
  unfold dK
  rw [List.getElem?_mapIdx, h]
  simp
theorem dK_put (fs : List Fl) (i j : Nat) (f : Fl) (x : Z.En) (h : fs[i]? = some f) (hx : f.es[j]? = some x) : (dK fs i j).set i ((dtP f j).put x) = dK fs i (j + 1) := by
  apply List.ext_getElem?
  intro t
  by_cases e : i = t
  · subst e
    rw [List.getElem?_set_self (by rw [dK_len]; exact (List.getElem?_eq_some_iff.1 h).1), dK_at fs i (j + 1) f h, dtP_succ f j x hx]
  · rw [List.getElem?_set_ne e]
    unfold dK
    rw [List.getElem?_mapIdx, List.getElem?_mapIdx]
    cases fs[t]? with
    | none => rfl
    | some f =>
      have : ¬ t = i := fun q => e q.symm
      simp only [Option.map_some, if_neg this]
theorem dK_next (fs : List Fl) (i : Nat) (f : Fl) (h : fs[i]? = some f) : dK fs i f.es.length = dK fs (i + 1) 0 := by
  apply List.ext_getElem?
  intro t
  unfold dK
  rw [List.getElem?_mapIdx, List.getElem?_mapIdx]
  cases hf : fs[t]? with
  | none => rfl
  | some g =>
    simp only [Option.map_some]
    by_cases h1 : t < i
    · rw [if_pos h1, if_pos (by omega)]
    · by_cases h2 : t = i
      · subst h2
        rw [h] at hf
        injection hf with hf
        subst hf
        rw [if_neg h1, if_pos rfl, if_pos (by omega), dtP_all]
      · rw [if_neg h1, if_neg h2, if_neg (by omega)]
        by_cases h3 : t = i + 1
        · rw [if_pos h3, dtP_zero]
        · rw [if_neg h3]
theorem dt0_ok {f : Fl} (h : goodFl f = true) : (dt0 f).ok := by
  unfold goodFl goodSp spOf at h
  simp at h
  refine ⟨Nat.zero_le _, ?_, ?_⟩ <;> simp [dt0] <;> omega
theorem puts_ok {d : Dt} (h : d.ok) : ∀ es : List Z.En, (es.foldl Dt.put d).ok
  | [] => h
  | x :: r => by rw [List.foldl_cons]; exact puts_ok (Dt.ok_put h x) r
theorem dtP_ok {f : Fl} (h : goodFl f = true) (j : Nat) : (dtP f j).ok := puts_ok (dt0_ok h) _
theorem dsF_ok {fs : List Fl} (h : fs.all goodFl = true) : ∀ d ∈ dsF fs, d.ok := by
  intro d hd
  obtain ⟨f, hf, rfl⟩ := List.mem_map.1 hd
  exact puts_ok (dt0_ok (List.all_eq_true.1 h f hf)) _
end Go.Proofs.Ythngbakbiocadaa

/-
  A run, as plain functions: what each step does, and when it ends. Arithmetic and conditions are parameters.
-/
namespace Go.Proofs.Ythngbakbiocadaa.V
set_option maxRecDepth 100000

inductive Cell
  | no
  | num (n : Int)
  | ref (k : Int) (m : Nat)
structure Calc where
  ari : Int → Int → Int → Int
  holds : Int → Int → Int → Bool
structure St where
  reg : List Cell
  stk : List Cell
  ctx : List Int
  ds : List Dt
  at_ : Int
  steps : Nat
inductive Res
  | on (s : St)
  | done (v : Int) (s : St)
  | flt (why : Nat) (s : St)
def St.r (s : St) (i : Int) : Cell := s.reg.getD i.toNat .no
def St.setR (s : St) (i : Int) (c : Cell) : St := { s with reg := s.reg.set i.toNat c }
def St.setS (s : St) (i : Int) (c : Cell) : St := { s with stk := s.stk.set i.toNat c }
def St.jump (s : St) (off : Int) : St := { s with at_ := s.at_ + off }
def St.setC (s : St) (i n : Int) : St := { s with ctx := s.ctx.set i.toNat n }
def St.setD (s : St) (m : Nat) (l : List Z.En) : St := match s.ds[m]? with
  | some d => { s with ds := s.ds.set m ⟨d.lru, d.room, l⟩ }
  | none => s
/-- the number in a cell, or why not -/
def Cell.nm : Cell → Except Nat Int
  | .no => .error 3
  | .num n => .ok n
  | .ref _ _ => .error 4
def Cell.un : Cell → Bool
  | .no => true
  | _ => false
def rd2 (c d : Cell) : Except Nat (Int × Int) :=
  if c.un || d.un then .error 3 else match c.nm with
    | .error w => .error w
    | .ok a => match d.nm with
      | .error w => .error w
      | .ok b => .ok (a, b)
/-- numbers in the registers from i on, so many -/
def unsets (s : St) : Nat → Nat → Bool
  | _, 0 => false
  | i, n + 1 => (s.r i).un || unsets s (i + 1) n
def nonums (s : St) : Nat → Nat → Bool
  | _, 0 => false
  | i, n + 1 => (match s.r i with
    | .num _ => false
    | _ => true) || nonums s (i + 1) n
def Cell.n0 : Cell → Int
  | .num n => n
  | _ => 0
def num0 (s : St) (i : Int) : Int := (s.r i).n0
def clear5 (s : St) : St := { s with reg := ((((s.reg.set 1 .no).set 2 .no).set 3 .no).set 4 .no).set 5 .no }
def ret (s : St) (c : Cell) : Res := .on ((clear5 s).setR 0 c)
def help (k : Int) (m : Nat) (d : Dt) (s : St) : Res :=
  if k = 1 then (match Z.getI (num0 s 2) d.l with
    | some _ => ret (s.setD m (Z.useI d.lru d.l (num0 s 2))) (.ref (num0 s 2) m)
    | none => ret (s.setD m (Z.useI d.lru d.l (num0 s 2))) (.num 0))
  else if k = 2 then ret s (.num d.l.length)
  else if k = 3 then ret (s.setD m (d.put ⟨num0 s 2, num0 s 3, num0 s 4, 0, 0⟩).l) (.num (-(d.code ⟨num0 s 2, num0 s 3, num0 s 4, 0, 0⟩)))
  else ret (s.setD m (Z.dropI d.l (num0 s 2))) (.num (-(if (Z.pos (num0 s 2) d.l).isSome then 0 else 2)))
def call (h k : Int) (s : St) : Res :=
  if Hk.argsF h k ≤ 0 then .flt 12 s
  else if unsets s 1 (Hk.argsF h k).toNat then .flt 3 s
  else if nonums s 1 (Hk.argsF h k).toNat then .flt 4 s
  else if num0 s 1 < 0 then .flt 13 s
  else match s.ds[(num0 s 1).toNat]? with
    | none => .flt 13 s
    | some d => help k (num0 s 1).toNat d s
def ldctx (dst i : Int) (s : St) : Res := if i < 0 ∨ (s.ctx.length : Int) ≤ i then .flt 5 s else .on (s.setR dst (.num (s.ctx.getD i.toNat 0)))
def stctx (h i n : Int) (s : St) : Res := if i < 0 ∨ (s.ctx.length : Int) ≤ i then .flt 5 s else if i < Hk.inF h then .flt 6 s else .on (s.setC i n)
def ldstk (dst i : Int) (s : St) : Res := if i < 0 ∨ 8 ≤ i then .flt 7 s else if (s.stk.getD i.toNat .no).un then .flt 8 s else .on (s.setR dst (s.stk.getD i.toNat .no))
def ststk (i n : Int) (s : St) : Res := if i < 0 ∨ 8 ≤ i then .flt 7 s else .on (s.setS i (.num n))
def En.at (x : Z.En) (i : Int) : Int := if i = 0 then x.a else if i = 1 then x.b else if i = 2 then x.c else x.d
def ldval (c : Cell) (dst off : Int) (s : St) : Res := match c with
  | .no => .flt 3 s
  | .num _ => .flt 9 s
  | .ref k m => match (s.ds[m]?).bind (fun d => Z.getI k d.l) with
    | none => .flt 10 s
    | some x => if off < 0 ∨ 4 ≤ off then .flt 11 s else .on (s.setR dst (.num (En.at x off)))
def stval (c e : Cell) (off : Int) (s : St) : Res :=
  if c.un || e.un then .flt 3 s else match e.nm with
    | .error w => .flt w s
    | .ok n => match c with
      | .ref k m => (match s.ds[m]? with
        | none => .flt 10 s
        | some d => match Z.getI k d.l with
          | none => .flt 10 s
          | some _ => if off < 0 ∨ 4 ≤ off then .flt 11 s else .on (s.setD m (Z.wordI d.l k off.toNat n)))
      | _ => .flt 9 s
def isRef : Cell → Bool
  | .ref _ _ => true
  | _ => false
def alu (K : Calc) (x : Y.In) (a b : Int) (s : St) : Res :=
  if x.op < 32 then .on (s.setR x.dst (.num (K.ari x.op a b))) else if K.holds x.op a b then .on (s.jump x.off) else .on s
def other (K : Calc) (imm : Bool) (x : Y.In) (s : St) : Res :=
  if (x.op = 37 ∨ x.op = 38) ∧ x.imm = 0 ∧ isRef (s.r x.dst) = true then (if x.op = 38 then .on (s.jump x.off) else .on s)
  else if imm then (match (s.r x.dst).nm with
    | .error w => .flt w s
    | .ok a => alu K x a x.imm s)
  else match rd2 (s.r x.dst) (s.r x.src) with
    | .error w => .flt w s
    | .ok (a, b) => alu K x a b s
def exec (K : Calc) (hasImm : Int → Bool) (h : Int) (x : Y.In) (s : St) : Res :=
  if x.op = 80 then (match (s.r 0).nm with
    | .error w => .flt w s
    | .ok n => .done n s)
  else if x.op = 1 then (if (s.r x.src).un then .flt 3 s else .on (s.setR x.dst (s.r x.src)))
  else if x.op = 2 then .on (s.setR x.dst (.num x.imm))
  else if x.op = 64 then call h x.imm s
  else if x.op = 32 then .on (s.jump x.off)
  else if x.op = 48 then ldctx x.dst x.off s
  else if x.op = 49 then (match (s.r x.src).nm with
    | .error w => .flt w s
    | .ok n => stctx h x.off n s)
  else if x.op = 50 then (match (s.r x.src).nm with
    | .error w => .flt w s
    | .ok n => ldctx x.dst n s)
  else if x.op = 51 then ldstk x.dst x.off s
  else if x.op = 52 then (match (s.r x.src).nm with
    | .error w => .flt w s
    | .ok n => ststk x.off n s)
  else if x.op = 53 then (match (s.r x.src).nm with
    | .error w => .flt w s
    | .ok n => ldstk x.dst n s)
  else if x.op = 54 then (match rd2 (s.r x.dst) (s.r x.src) with
    | .error w => .flt w s
    | .ok (a, b) => ststk a b s)
  else if x.op = 55 then ldval (s.r x.src) x.dst x.off s
  else if x.op = 56 then stval (s.r x.dst) (s.r x.src) x.off s
  else other K (hasImm x.op) x s
def bump : Res → Res
  | .on s => .on { s with steps := s.steps + 1 }
  | .done v s => .done v { s with steps := s.steps + 1 }
  | .flt w s => .flt w s
def step (K : Calc) (hasImm : Int → Bool) (h : Int) (l : List Y.In) (s : St) : Res :=
  if 64 ≤ s.steps then .flt 1 s
  else if s.at_ < 0 then .flt 2 s
  else match l[s.at_.toNat]? with
    | none => .flt 2 s
    | some x => bump (exec K hasImm h x { s with at_ := s.at_ + 1 })
structure Fin where
  how : Nat
  why : Nat
  verdict : Int
  s : St
def run (K : Calc) (hasImm : Int → Bool) (h : Int) (l : List Y.In) : Nat → St → Fin
  | 0, s => ⟨2, 1, 0, s⟩
  | n + 1, s => match step K hasImm h l s with
    | .on s' => run K hasImm h l n s'
    | .done v s' => ⟨1, 0, v, s'⟩
    | .flt w s' => ⟨2, w, 0, s'⟩
def start (h : Int) (ctx : List Int) (ds : List Dt) : St := ⟨List.replicate 8 .no, List.replicate 8 .no, ctx ++ List.replicate (Hk.outF h).toNat 0, ds, 0, 0⟩

/-! ### what each step leaves -/
def Res.st : Res → St
  | .on s => s
  | .done _ s => s
  | .flt _ s => s
/-- what holds of an instruction's end: no step counted, a fault's number from 3 to 13, and a property of the state -/
def Res.P (p : St → Prop) : Res → Prop
  | .on s => p s
  | .done _ s => p s
  | .flt w s => (3 ≤ w ∧ w ≤ 13) ∧ p s
/-- a property that an instruction keeps: of contexts, of maps, of what is left -/
structure Keeps (p : St → Prop) : Prop where
  setR : ∀ s i c, p s → p (s.setR i c)
  setS : ∀ s i c, p s → p (s.setS i c)
  jump : ∀ s o, p s → p (s.jump o)
  setC : ∀ s i n, p s → p (s.setC i n)
  clear : ∀ s, p s → p (clear5 s)
/-- what the maps may become in one step -/
structure KeepsD (h : Int) (p : St → Prop) : Prop where
  use : ∀ s m d k, s.ds[m]? = some d → p s → p (s.setD m (Z.useI d.lru d.l k))
  word : ∀ s m d k j n, s.ds[m]? = some d → p s → p (s.setD m (Z.wordI d.l k j n))
  put : ∀ s m d x, Hk.argsF h 3 > 0 → s.ds[m]? = some d → p s → p (s.setD m (d.put x).l)
  drop : ∀ s m d k, Hk.argsF h 4 > 0 → s.ds[m]? = some d → p s → p (s.setD m (Z.dropI d.l k))
theorem nm_why {c : Cell} {w : Nat} (h : c.nm = .error w) : w = 3 ∨ w = 4 := by
  cases c with
  | no => injection h with h; exact Or.inl h.symm
  | num n => cases h
  | ref k m => injection h with h; exact Or.inr h.symm
theorem rd2_why {c d : Cell} {w : Nat} (h : rd2 c d = .error w) : w = 3 ∨ w = 4 := by
  unfold rd2 at h
  split at h
  · injection h with h; exact Or.inl h.symm
  · cases hc : c.nm with
    | error v => rw [hc] at h; injection h with h; subst h; exact nm_why hc
    | ok a =>
      rw [hc] at h
      cases hd : d.nm with
      | error v => rw [hd] at h; injection h with h; subst h; exact nm_why hd
      | ok b => rw [hd] at h; cases h
section
variable {h : Int} {p : St → Prop} (K : Calc) (hi : Int → Bool)
theorem ret_P (hk : Keeps p) {s : St} (hs : p s) (c : Cell) : (ret s c).P p := hk.setR _ _ _ (hk.clear _ hs)
theorem help_P (hk : Keeps p) (hd : KeepsD h p) {k : Int} {m : Nat} {d : Dt} {s : St} (hm : s.ds[m]? = some d) (hs : p s) (ha : Hk.argsF h k > 0) : (help k m d s).P p := by
  unfold help
  split
  · split
    · exact ret_P hk (hd.use s m d _ hm hs) _
    · exact ret_P hk (hd.use s m d _ hm hs) _
  · split
    · exact ret_P hk hs _
    · split
      · rename_i e; subst e
        exact ret_P hk (hd.put s m d _ ha hm hs) _
      · refine ret_P hk (hd.drop s m d _ ?_ hm hs) _
        rename_i e1 e2 e3
        have : k = 4 := by
          by_cases h4 : k = 4
          · exact h4
          · exfalso
            unfold Hk.argsF at ha
            simp only [if_neg e1, if_neg e2, if_neg e3, if_neg h4, ite_self] at ha
            omega
        rw [← this]; exact ha
theorem call_P (hk : Keeps p) (hd : KeepsD h p) {k : Int} {s : St} (hs : p s) : (call h k s).P p := by
  unfold call
  split
  · exact ⟨by omega, hs⟩
  · split
    · exact ⟨by omega, hs⟩
    · split
      · exact ⟨by omega, hs⟩
      · split
        · exact ⟨by omega, hs⟩
        · split
          · exact ⟨by omega, hs⟩
          · rename_i hm
            exact help_P hk hd hm hs (by omega)
theorem ldctx_P (hk : Keeps p) {dst i : Int} {s : St} (hs : p s) : (ldctx dst i s).P p := by
  unfold ldctx; split
  · exact ⟨by omega, hs⟩
  · exact hk.setR _ _ _ hs
theorem stctx_P (hk : Keeps p) {i n : Int} {s : St} (hs : p s) : (stctx h i n s).P p := by
  unfold stctx; split
  · exact ⟨by omega, hs⟩
  · split
    · exact ⟨by omega, hs⟩
    · exact hk.setC _ _ _ hs
theorem ldstk_P (hk : Keeps p) {dst i : Int} {s : St} (hs : p s) : (ldstk dst i s).P p := by
  unfold ldstk; split
  · exact ⟨by omega, hs⟩
  · split
    · exact ⟨by omega, hs⟩
    · exact hk.setR _ _ _ hs
theorem ststk_P (hk : Keeps p) {i n : Int} {s : St} (hs : p s) : (ststk i n s).P p := by
  unfold ststk; split
  · exact ⟨by omega, hs⟩
  · exact hk.setS _ _ _ hs
theorem ldval_P (hk : Keeps p) {c : Cell} {dst off : Int} {s : St} (hs : p s) : (ldval c dst off s).P p := by
  unfold ldval; split
  · exact ⟨by omega, hs⟩
  · exact ⟨by omega, hs⟩
  · split
    · exact ⟨by omega, hs⟩
    · split
      · exact ⟨by omega, hs⟩
      · exact hk.setR _ _ _ hs
theorem stval_P (hd : KeepsD h p) {c e : Cell} {off : Int} {s : St} (hs : p s) : (stval c e off s).P p := by
  unfold stval; split
  · exact ⟨by omega, hs⟩
  · split
    · rename_i hw
      have := nm_why hw
      exact ⟨by omega, hs⟩
    · split
      · split
        · exact ⟨by omega, hs⟩
        · split
          · exact ⟨by omega, hs⟩
          · split
            · exact ⟨by omega, hs⟩
            · rename_i hm _ _ _ _
              exact hd.word _ _ _ _ _ _ (by assumption) hs
      · exact ⟨by omega, hs⟩
theorem alu_P (hk : Keeps p) {x : Y.In} {a b : Int} {s : St} (hs : p s) : (alu K x a b s).P p := by
  unfold alu; split
  · exact hk.setR _ _ _ hs
  · split
    · exact hk.jump _ _ hs
    · exact hs
theorem other_P (hk : Keeps p) {imm : Bool} {x : Y.In} {s : St} (hs : p s) : (other K imm x s).P p := by
  unfold other; split
  · split
    · exact hk.jump _ _ hs
    · exact hs
  · split
    · split
      · rename_i hw; have := nm_why hw; exact ⟨by omega, hs⟩
      · exact alu_P K hk hs
    · split
      · rename_i hw; have := rd2_why hw; exact ⟨by omega, hs⟩
      · exact alu_P K hk hs
theorem ite_P {c : Prop} [Decidable c] {A B : Res} (ha : c → A.P p) (hb : ¬ c → B.P p) : (if c then A else B).P p := by
  split
  · exact ha (by assumption)
  · exact hb (by assumption)
theorem nm_P {c : Cell} {s : St} {f : Int → Res} (hs : p s) (hf : ∀ n, c.nm = .ok n → (f n).P p) : (match c.nm with
    | .error w => .flt w s
    | .ok n => f n : Res).P p := by
  cases hc : c.nm with
  | error w => have := nm_why hc; exact ⟨by omega, hs⟩
  | ok n => exact hf n hc
theorem rd_P {c d : Cell} {s : St} {f : Int → Int → Res} (hs : p s) (hf : ∀ a b, rd2 c d = .ok (a, b) → (f a b).P p) : (match rd2 c d with
    | .error w => .flt w s
    | .ok (a, b) => f a b : Res).P p := by
  cases hc : rd2 c d with
  | error w => have := rd2_why hc; exact ⟨by omega, hs⟩
  | ok n => obtain ⟨a, b⟩ := n; exact hf a b hc
theorem exec_P (hk : Keeps p) (hd : KeepsD h p) {x : Y.In} {s : St} (hs : p s) : (exec K hi h x s).P p := by
  unfold exec
  refine ite_P (fun _ => nm_P hs fun _ _ => hs) fun _ => ?_
  refine ite_P (fun _ => ite_P (fun _ => ⟨by omega, hs⟩) fun _ => hk.setR _ _ _ hs) fun _ => ?_
  refine ite_P (fun _ => hk.setR _ _ _ hs) fun _ => ?_
  refine ite_P (fun _ => call_P hk hd hs) fun _ => ?_
  refine ite_P (fun _ => hk.jump _ _ hs) fun _ => ?_
  refine ite_P (fun _ => ldctx_P hk hs) fun _ => ?_
  refine ite_P (fun _ => nm_P hs fun _ _ => stctx_P hk hs) fun _ => ?_
  refine ite_P (fun _ => nm_P hs fun _ _ => ldctx_P hk hs) fun _ => ?_
  refine ite_P (fun _ => ldstk_P hk hs) fun _ => ?_
  refine ite_P (fun _ => nm_P hs fun _ _ => ststk_P hk hs) fun _ => ?_
  refine ite_P (fun _ => nm_P hs fun _ _ => ldstk_P hk hs) fun _ => ?_
  refine ite_P (fun _ => rd_P hs fun _ _ _ => ststk_P hk hs) fun _ => ?_
  refine ite_P (fun _ => ldval_P hk hs) fun _ => ?_
  refine ite_P (fun _ => stval_P hd hs) fun _ => ?_
  exact other_P K hk hs
end
end Go.Proofs.Ythngbakbiocadaa.V
