/-
  Proved: PageBack returns true for every page, place, size and number: what is set is read, modulo what fits; what lies elsewhere in the page stays.
  Conditions: none beside the statement's own.
-/
import Derived.Test.YtgaggnjpnnahjaaPawake
import Derived.Test.YtgaggnjpnnahjaaPopen
import Derived.Deep.QuietTactic
import Derived.BigQuiet
namespace Go.Proofs.Ytgaggnjpnnahjaa.pageBack
open Go.ChangeShapes Go.WideShapes Go.ChangeAt Go.RowKit

/-- what stands in memory: the page, the place, the page that was set -/
structure Back (w0 : World) (B C : Nat) (p q : List UInt8) (a n : Int) (W : World) : Prop where
  old : PageAt W B p
  new : PageAt W C q
  c0 : W.cell? ⟨B + 1, 0, none⟩ = some (.int .i64 a)
  c1 : W.cell? ⟨B + 1, 1, none⟩ = some (.int .i64 n)
  below : Below w0.heap.size w0 W
theorem Back.drewN {w0 : World} {B C : Nat} {p q : List UInt8} {a n : Int} {W : World} (h : Back w0 B C p q a n W) (k : Nat) : Back w0 B C p q a n (W.drewN k) :=
  ⟨⟨h.old.len, h.old.range, h.old.free⟩, ⟨h.new.len, h.new.range, h.new.free⟩, h.c0, h.c1, ⟨h.below.os, h.below.tape, h.below.output, h.below.size, h.below.block⟩⟩

theorem boxed_page (w : World) (p : List UInt8) (x y : Value) (hp : p.length = 64) {w1 : World} (hb : Below (w.heap.size + 2) ((w.alloc (.cells (byteVals p).toArray 23)).alloc (.cells #[x, y] 25)) w1) : PageAt w1 w.heap.size p :=
  ((pageAt_new w p _ hp).alloc _).below hb (by omega)

set_option maxHeartbeats 4000000 in
theorem walk_no (p : List UInt8) (a n v : Int) (w : World) (hp : p.length = 64) (h1 : -9223372036854775808 ≤ n) (h2 : n ≤ 9223372036854775807) (h : Pg.numB a n = false) :
    Calls Try.prog 5 #[pageV p, .agg #[.int .i64 a, .int .i64 n], .int .i64 v] w fun e w' => e = .returned (.bool true) ∧ Below w.heap.size w w' := by
  have HP := Lib.hid hp
  have HE1 := fun (x y : Operand) (w : World) => run_eqGuard_page w x y p p
  have HE2 := fun (w : World) => run_eql_same w p hp
  have HG := Lib.hid (fun (w : World) => get_no p a n w h1 h2 h)
  have HS := Lib.hid (fun (w : World) => set_no p a n v w hp h1 h2 h)
  have hcase : n < 1 ∨ (¬ n < 1 ∧ 4 < n) ∨ (¬ n < 1 ∧ ¬ 4 < n ∧ a < 0) ∨ (¬ n < 1 ∧ ¬ 4 < n ∧ ¬ a < 0 ∧ 64 - n < a) := by have := Pg.num_no h; omega
  clear hp h
  unfold pageV at HG HS ⊢
  rcases hcase with t1 | ⟨t1, t2⟩ | ⟨t1, t2, t3⟩ | ⟨t1, t2, t3, t4⟩
  all_goals
    go_enter Try.func5, Try.ntmps5
    go_wp2_with fail
    refine (awake_any _).mono ?_
    rintro e w1 ⟨rfl, hb⟩
    have HQ := Lib.hid (boxed_page w p (.int .i64 a) (.int .i64 n) HP.out (by simpa using hb))
    have hbx := boxed_start w p (.int .i64 a) (.int .i64 n) HP.out (by simpa using hb)
    obtain ⟨_, e0, e1, hz, hbel⟩ := hbx
    clear hb
    go_wp2_with (first
      | (with_reducible refine wpList_load_page HQ.out rfl (.tmp 3) rfl rfl ?_)
      | (go_at_call 10; refine (HS.out _).mono ?_; rintro e w2 ⟨rfl, hb2⟩)
      | ((with_reducible refine wpList_store_new rfl (.tmp 7) (.tmp 18) rfl rfl ?_ ?_ HP.out ?_); (exact rfl); (exact rfl); intro W2 hP hB2 hz2
         have hb3 := hb2.trans (hB2.mono hb2.size)
         have f0 := (hb3.cell (p := ⟨w.heap.size + 1, 0, none⟩) hz).trans e0
         have f1 := (hb3.cell (p := ⟨w.heap.size + 1, 1, none⟩) hz).trans e1
         have HQ3 := Lib.hid (HQ.out.below hb3 HQ.out.lt))
      | (with_reducible refine wpList_load_page hP rfl (.tmp 7) rfl rfl ?_)
      | (with_reducible refine wpList_load_page HQ3.out rfl (.tmp 3) rfl rfl ?_)
      | (with_reducible refine wpList_load_guarded HQ3.out (.tmp 3) rfl rfl (by kernel_rfl) ?_)
      | (go_at_call 8; refine (HG.out _).mono ?_; rintro e w3 ⟨rfl, hb4⟩))
    go_ret
    exact ⟨rfl, (hbel.trans (hb3.mono hbel.size)).trans (hb4.mono (Nat.le_trans hbel.size hb3.size))⟩

theorem mask_and (n : Int) (j : Nat) (hj : j ≤ 62) : bits .and .i64 n (2 ^ j - 1) = n % 2 ^ j := by
  have hp : 0 < 2 ^ j := Nat.two_pow_pos j
  have hlt : 2 ^ j ≤ 2 ^ 62 := Nat.pow_le_pow_right (by decide) hj
  have hc : ((2 : Int) ^ j - 1) = ((2 ^ j - 1 : Nat) : Int) := by rw [Int.natCast_sub hp]; simp
  have h1 : (BitVec.ofInt 64 ((2 : Int) ^ j - 1)).toNat = 2 ^ j - 1 := by
    rw [hc, BitVec.ofInt_natCast, BitVec.toNat_ofNat]
    exact Nat.mod_eq_of_lt (by omega)
  have key : (BitVec.ofInt 64 n &&& BitVec.ofInt 64 ((2 : Int) ^ j - 1)).toNat = (n % ((2 ^ 64 : Nat) : Int)).toNat % 2 ^ j := by
    rw [BitVec.toNat_and, BitVec.toNat_ofInt, h1, Nat.and_two_pow_sub_one_eq_mod]
  show IntKind.i64.wrap ((BitVec.ofInt 64 n &&& BitVec.ofInt 64 ((2 : Int) ^ j - 1)).toNat : Nat) = n % 2 ^ j
  have hm := Nat.mod_lt (n % ((2 ^ 64 : Nat) : Int)).toNat hp
  rw [key, wraps_i64 _ (by omega) (by omega)]
  have hd : (2 ^ j : Int) ∣ ((2 ^ 64 : Nat) : Int) := by
    have : (2 ^ j : Nat) ∣ 2 ^ 64 := Nat.pow_dvd_pow 2 (by omega)
    exact_mod_cast Int.natCast_dvd_natCast.2 this
  have h0 : 0 ≤ n % ((2 ^ 64 : Nat) : Int) := Int.emod_nonneg _ (by decide)
  rw [Int.natCast_emod, Int.toNat_of_nonneg h0]
  have e : ((2 ^ j : Nat) : Int) = (2 : Int) ^ j := by simp
  rw [e, Int.emod_emod_of_dvd _ hd]
theorem over_out (p : List UInt8) (a k : Nat) (s : List UInt8) (h : a + s.length ≤ p.length) (hk : k < a ∨ a + s.length ≤ k) : (Pg.over p a s).getD k 0 = p.getD k 0 := by
  rw [List.getD_eq_getElem?_getD, List.getD_eq_getElem?_getD, Pg.over_at _ _ _ _ h]
  rcases hk with hk | hk
  · rw [if_pos hk]
  · rw [if_neg (by omega), if_neg (by omega)]

theorem mask_pow (n : Nat) : (2 : Int) ^ (8 * n) = 256 ^ n := by rw [Int.pow_mul]; rfl
theorem mask_is (n : Nat) (h2 : n ≤ 4) (v : Int) : bits .and .i64 v (wrap64 (wrap64 (2 ^ (8 * n)) - 1)) = v % 256 ^ n := by
  have e : n = 0 ∨ n = 1 ∨ n = 2 ∨ n = 3 ∨ n = 4 := by omega
  rw [← mask_pow, ← mask_and v (8 * n) (by omega)]
  congr 1
  rcases e with rfl | rfl | rfl | rfl | rfl <;> (unfold wrap64; decide)
set_option maxHeartbeats 4000000 in
theorem walk_yes (p : List UInt8) (a n : Nat) (v : Int) (w : World) (hp : p.length = 64) (h1 : 1 ≤ n) (h2 : n ≤ 4) (h3 : a + n ≤ 64) :
    Calls Try.prog 5 #[pageV p, .agg #[.int .i64 (a : Int), .int .i64 (n : Int)], .int .i64 v] w fun e w' => e = .returned (.bool true) ∧ Below w.heap.size w w' := by
  have HP := Lib.hid hp
  have hl : a + (Pg.bytesN n v).length ≤ p.length := by rw [Pg.bytesN_length]; omega
  have HL : Hid ((Pg.over p a (Pg.bytesN n v)).length = 64) := Lib.hid (by rw [Pg.over_length _ _ _ hl, hp])
  have HO : Hid (∀ k, k < a ∨ a + n ≤ k → (Pg.over p a (Pg.bytesN n v)).getD k 0 = p.getD k 0) := Lib.hid (fun k hk => over_out p a k _ hl (by rw [Pg.bytesN_length]; exact hk))
  have HV : Hid (Pg.numOf (((Pg.over p a (Pg.bytesN n v)).drop a).take n) = v % 256 ^ n) := Lib.hid (by
    have := Pg.over_back p a (Pg.bytesN n v) hl
    rw [Pg.bytesN_length] at this
    rw [this, Pg.numOf_bytesN])
  have HS := Lib.hid (fun (w : World) => set_yes p a n v w hp h1 h2 h3)
  have t1 : ¬ (n : Int) < 1 := by omega
  have t2 : ¬ (4 : Int) < (n : Int) := by omega
  have t3 : ¬ (a : Int) < 0 := by omega
  have t4 : ¬ (64 : Int) - (n : Int) < (a : Int) := by omega
  clear hp hl
  unfold pageV at HS ⊢
  generalize Pg.over p a (Pg.bytesN n v) = q at HL HO HV HS
  go_enter Try.func5, Try.ntmps5
  go_wp2_with fail
  refine (awake_any _).mono ?_
  rintro e w1 ⟨rfl, hb⟩
  have HQ := Lib.hid (boxed_page w p (.int .i64 a) (.int .i64 n) HP.out (by simpa using hb))
  have hbx := boxed_start w p (.int .i64 a) (.int .i64 n) HP.out (by simpa using hb)
  obtain ⟨_, e0, e1, hz, hbel⟩ := hbx
  clear hb
  go_wp2_with (first
    | (with_reducible refine wpList_load_page HQ.out rfl (.tmp 3) rfl rfl ?_)
    | (go_at_call 10; refine (HS.out _).mono ?_; rintro e w2 ⟨rfl, hb2⟩)
    | ((with_reducible refine wpList_store_new rfl (.tmp 7) (.tmp 18) rfl rfl ?_ ?_ HL.out ?_); (exact rfl); (exact rfl); intro W2 hP hB2 hz2
       have hb3 := hb2.trans (hB2.mono hb2.size)
       have f0 := (hb3.cell (p := ⟨w.heap.size + 1, 0, none⟩) hz).trans e0
       have f1 := (hb3.cell (p := ⟨w.heap.size + 1, 1, none⟩) hz).trans e1
       have HQ3 := Lib.hid (HQ.out.below hb3 HQ.out.lt)))
  have HB0 : Hid (Back w w.heap.size w2.heap.size p q a n W2) := Lib.hid ⟨HQ3.out, hP, f0, f1, hbel.trans (hb3.mono hbel.size)⟩
  clear t1 t2 t3 t4
  have HM := Lib.hid (mask_is n h2 v)
  generalize wrap64 (wrap64 (2 ^ (8 * n)) - 1) = M at HM ⊢
  clear hP hB2 hb2 hb3 f0 f1 HQ3 HQ e0 e1 hz hz2 hbel
  generalize hC : w2.heap.size = C at HB0 ⊢
  clear hC
  have HG := Lib.hid (fun (w : World) => get_yes q a n w HL.out h1 h2 h3)
  unfold pageV at HG
  go_loopw [57] (fun i wr => ∃ k : Nat, k ≤ 64 ∧ i = .int .i64 k ∧ Back w w.heap.size C p q a n wr) (fun i _ => 64 - (intOf i).toNat)
  case atStart => exact ⟨0, Nat.zero_le _, rfl, HB0.out⟩
  case round =>
    obtain ⟨k, hk, rfl, hbk⟩ := hrel
    have HBK := Lib.hid hbk
    by_cases hlt : k < 64
    · have g0 := hbk.c0
      have g1 := hbk.c1
      have hq := hbk.new.cell k hlt
      have hpk := hbk.old.cell k hlt
      clear hbk
      have hcase : k < a ∨ (a ≤ k ∧ k < a + n) ∨ (a ≤ k ∧ a + n ≤ k) := by omega
      rcases hcase with u1 | ⟨u1, u2⟩ | ⟨u1, u2⟩
      · rw [HO.out k (Or.inl u1)] at hq
        have u1' : (k : Int) < (a : Int) := by omega
        go_wp2_with fail
        go_quiet (fail)
        go_wp2_with fail
        go_roundw
        case rel => exact ⟨k + 1, by omega, by go_num, HBK.out.drewN _⟩
        case measure => simp [intOf]; omega
      · have v1 : decide (k < a) = false := by rw [decide_eq_false_iff_not]; omega
        have v3 : decide (a + n ≤ k) = false := by rw [decide_eq_false_iff_not]; omega
        have v2 : decide ((a : Int) + (n : Int) ≤ (k : Int)) = false := by rw [decide_eq_false_iff_not]; omega
        go_wp2_with fail
        go_quiet (fail)
        go_wp2_with fail
        go_roundw
        case rel => exact ⟨k + 1, by omega, by go_num, HBK.out.drewN _⟩
        case measure => simp [intOf]; omega
      · rw [HO.out k (Or.inr u2)] at hq
        have v1 : decide (k < a) = false := by rw [decide_eq_false_iff_not]; omega
        have u2' : (a : Int) + (n : Int) ≤ (k : Int) := by omega
        go_wp2_with fail
        go_quiet (fail)
        go_wp2_with fail
        go_roundw
        case rel => exact ⟨k + 1, by omega, by go_num, HBK.out.drewN _⟩
        case measure => simp [intOf]; omega
    · obtain rfl : k = 64 := by omega
      have g0 := hbk.c0
      have g1 := hbk.c1
      clear hbk
      go_wp2_with (first
        | (with_reducible refine wpList_load_page HBK.out.new rfl (.tmp 7) rfl rfl ?_)
        | (go_at_call 8; refine (HG.out _).mono ?_; rintro e w3 ⟨rfl, hb4⟩))
      go_ret
      exact ⟨ret_bool (by rw [HV.out, HM.out]; simp), HBK.out.below.trans (hb4.mono HBK.out.below.size)⟩

theorem walk (p : List UInt8) (a n v : Int) (w : World) (hp : p.length = 64) (h1 : -9223372036854775808 ≤ n) (h2 : n ≤ 9223372036854775807) :
    Calls Try.prog 5 #[pageV p, .agg #[.int .i64 a, .int .i64 n], .int .i64 v] w fun e w' => e = .returned (.bool true) ∧ Below w.heap.size w w' := by
  by_cases h : Pg.numB a n = true
  · obtain ⟨c1, c2, c3, c4⟩ := Pg.num_yes h
    obtain ⟨A, rfl⟩ := Int.eq_ofNat_of_zero_le c3
    obtain ⟨N, rfl⟩ := Int.eq_ofNat_of_zero_le (show 0 ≤ n by omega)
    exact walk_yes p A N v w hp (by omega) (by omega) (by omega)
  · exact walk_no p a n v w hp h1 h2 (by simpa using h)

set_option maxRecDepth 100000 in
theorem lifted (os : Os) (started : os.Started) (H : Type) (enc : TypeId × Value → H) :
    ReturnsInHanded {} Try.checked os 5 .any (Rows.pageBackSpec.pre6 enc Try.prog Try.f5 Rows.pageBackRow.domain false) (Rows.pageBackSpec.post enc Try.prog Try.f5 false true false false) := by
  refine returnsInHanded_of_change (C := Try.checked) own started (by kernel_rfl) Try.func5
    (ChangeSpec.witness6 (enc := enc) (C := Try.checked) false ⟨#[], #[.agg zeroCells, .agg #[.int .i64 0, .int .i64 0], .int .i64 0], []⟩ 8 (by kernel_rfl) (by kernel_rfl) (by kernel_rfl) (by kernel_rfl)) ?_
  intro W base args ds gs before hval0 hW hcnd _
  have hval : ∀ (j : Nat) t v, Try.f5.params[j]? = some t → args[j]? = some v → Value.okWide Try.prog W .any base t v := hval0
  have hW' := hW
  obtain ⟨p, q, hA0, hV, rfl, hfz, hnd⟩ := hW
  have hA : DataW.TrodAll enc Try.prog W 0 (fun _ => true) true Try.f5.params.toList args.toList ds p := hA0
  rw [Try.params5] at hA hval
  obtain ⟨v0, vs0, d0, ds0, p0, q0, hargs, rfl, rfl, h0, r0⟩ := trodAll_cons hA
  obtain ⟨v1, vs1, d1, ds1, p1, q1, rfl, rfl, rfl, h1, r1⟩ := trodAll_cons r0
  obtain ⟨v2, vs2, d2, ds2, p2, q2, rfl, rfl, rfl, h2, r2⟩ := trodAll_cons r1
  obtain ⟨rfl, rfl, rfl⟩ := trodAll_nil r2
  obtain rfl : args = #[v0, v1, v2] := by cases args; simp_all
  obtain ⟨rfl, rfl⟩ := trodVars_none hV
  have k0 := h0
  have lt0 : ∀ x ∈ p0, x.block < W.heap.size := by obtain ⟨m, hm⟩ := k0; exact DataW.trod_lt m _ _ _ hm
  have k1 := h1
  have lt1 : ∀ x ∈ p1, x.block < W.heap.size := by obtain ⟨m, hm⟩ := k1; exact DataW.trod_lt m _ _ _ hm
  have k2 := h2
  have lt2 : ∀ x ∈ p2, x.block < W.heap.size := by obtain ⟨m, hm⟩ := k2; exact DataW.trod_lt m _ _ _ hm
  obtain ⟨x0, hx0, rfl⟩ := open_page (hval 0 23 v0 rfl rfl) h0
  obtain ⟨a1, n1, rfl, hl1, hh1⟩ := open_place (hval 1 25 v1 rfl rfl) h1
  obtain ⟨x2, rfl, ed2, ep2, w2⟩ := open_int Try.underlying3 (hval 2 3 v2 rfl rfl) h2
  clear hA0 hval0
  refine (walk x0 a1 n1 x2 W hx0 hl1 hh1).mono fun e W' ⟨he, bel⟩ => ?_
  subst he
  exact ⟨_, rfl, _, _, _, [], _, [], hW', trodAll_mk1 (shut_bool Try.underlying4 _), (trodAll_cons_mk (Below.trod laidOut (by kernel_rfl) (of_decide_eq_true (by kernel_rfl)) k0 bel lt0) (trodAll_cons_mk (Below.trod laidOut (by kernel_rfl) (of_decide_eq_true (by kernel_rfl)) k1 bel lt1) (trodAll_cons_mk (Below.trod laidOut (by kernel_rfl) (of_decide_eq_true (by kernel_rfl)) k2 bel lt2) trodAll_mk0))), rfl, bel.frame _, fun h => by cases h⟩

theorem over : Rows.pageBackRow.holds Try.pinned (OpenSpec.ofChange Rows.pageBackSpec) :=
  OpenClaim.holds_of_wide 5 Try.f5 rfl rfl rfl rfl rfl rfl rfl ⟨rfl, rfl, rfl, rfl, rfl⟩ rfl rfl rfl rfl rfl (by kernel_rfl) Try.func5 (by kernel_rfl)
    (of_decide_eq_true (by kernel_rfl)) (by unfold Func.isWrapper; first | (rw [if_pos (by decide +kernel)]; kernel_rfl) | (rw [if_neg (by decide +kernel)]; exact ⟨rfl, rfl⟩))
    (fun os started H enc _ => lifted os started H enc)

/-- THE STATEMENT -/
theorem proved : Rows.PageBackSaid := over
#print axioms proved
end Go.Proofs.Ytgaggnjpnnahjaa.pageBack
