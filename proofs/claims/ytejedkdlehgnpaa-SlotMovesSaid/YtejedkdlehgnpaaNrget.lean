/-
  The contract of the document's own Get.
-/
import Derived.Test.YtejedkdlehgnpaaNrput
namespace Go.Proofs.Ytejedkdlehgnpaa
open Go.RowKit

structure BrS (w0 : World) (p l : List UInt8) (W : World) : Prop where
  len : l.length = 16
  page : PageAt W w0.heap.size p
  out : RowAt W (w0.heap.size + 1) (entL 0 ⟨#[]⟩)
  arr : RowAt W (w0.heap.size + 2) (byteVals l)
  below : Below w0.heap.size w0 W
theorem BrS.call {w0 : World} {p l : List UInt8} {W W' : World} (k : BrS w0 p l W) (hb : Below W.heap.size W W') : BrS w0 p l W' where
  len := k.len
  page := k.page.step hb
  out := RowAt.step k.out hb
  arr := k.arr.below hb (by
    have h : 0 < l.length := by rw [k.len]; decide
    exact World.block_lt_of_cell? W _ (k.arr.cell 0 _ (byteVals_at l 0 h)))
  below := k.below.trans (hb.mono k.below.size)
theorem BrS.drew {w0 : World} {p l : List UInt8} {W : World} (k : BrS w0 p l W) : BrS w0 p l W.drew := ⟨k.len, k.page.drew, k.out.drew, k.arr.drew, k.below.drew⟩
theorem BrS.lt {w0 : World} {p l : List UInt8} {W : World} (k : BrS w0 p l W) : w0.heap.size + 2 < W.heap.size := by
  have h : 0 < l.length := by rw [k.len]; decide
  exact World.block_lt_of_cell? W _ (k.arr.cell 0 _ (byteVals_at l 0 h))
theorem BrS.arr_len {w0 : World} {p l : List UInt8} {W : World} (k : BrS w0 p l W) : (byteVals l).length = 16 := by rw [byteVals_length, k.len]
theorem BrS.cellAt {w0 : World} {p l : List UInt8} {W : World} (k : BrS w0 p l W) (j : Nat) (hj : j < 16) : W.cell? ⟨w0.heap.size + 2, j, none⟩ = some (.int .u8 ((l.getD j 0).toNat : Int)) := by
  have h : j < l.length := by rw [k.len]; exact hj
  have := k.arr.cell j _ (byteVals_at l j h)
  rw [this, List.getD_eq_getElem?_getD, List.getElem?_eq_getElem h]
  rfl
theorem BrS.free {w0 : World} {p l : List UInt8} {W : World} (k : BrS w0 p l W) (j : Nat) (hj : j < 16) : W.frozen? ⟨w0.heap.size + 2, j, none⟩ = false :=
  k.arr.frozen j (by rw [k.arr_len]; exact hj)
theorem BrS.set {w0 : World} {p l : List UInt8} {W : World} (k : BrS w0 p l W) (j : Nat) (c : UInt8) (hj : j < 16) : BrS w0 p (l.set j c) (W.setCell ⟨w0.heap.size + 2, j, none⟩ (.int .u8 (c.toNat : Int))) where
  len := by rw [List.length_set, k.len]
  page := k.page.set_other _ _ _ (by omega)
  out := k.out.setOther _ _ _ (by omega)
  arr := by rw [← byteVals_set]; exact k.arr.setOne j _ (by rw [k.arr_len]; exact hj)
  below := k.below.setCell (by show w0.heap.size ≤ w0.heap.size + 2; omega) _
theorem BrS.back {w0 : World} {p l : List UInt8} {W : World} (k : BrS w0 p l W) (n : Int) (s : ByteArray) : RowAt (W.setCells (w0.heap.size + 1) 0 (entL n s)) (w0.heap.size + 1) (entL n s) ∧ Below w0.heap.size w0 (W.setCells (w0.heap.size + 1) 0 (entL n s)) :=
  ⟨k.out.put (entL n s) rfl, below_setCells _ (by omega) _ _ _ k.below⟩
theorem brS_box (w : World) (p : List UInt8) (hp : p.length = 64) : BrS w p (Nm.zs 16) (((w.alloc (.cells (byteVals p).toArray 32)).alloc (.cells #[.int .i64 0, .string ⟨#[]⟩] 30)).alloc (.cells zero16 37)) where
  len := rfl
  page := ((pageAt_new w p _ hp).alloc _).alloc _
  out := by
    have h := (rowAt_new (w.alloc (.cells (byteVals p).toArray 32)) (entL 0 ⟨#[]⟩) 30).alloc (.cells zero16 37)
    rw [World.size_alloc] at h
    exact h
  arr := by
    have h := rowAt_new ((w.alloc (.cells (byteVals p).toArray 32)).alloc (.cells #[.int .i64 0, .string ⟨#[]⟩] 30)) (byteVals (Nm.zs 16)) 37
    simp only [World.size_alloc] at h
    exact h
  below := (((Below.refl _ _).alloc (Nat.le_refl _) _).alloc (by simp) _).alloc (by simp; omega) _
/-- the same, and the entry that is made -/
structure CrS (w0 : World) (p l : List UInt8) (g : Nat) (n : Int) (s : ByteArray) (W : World) : Prop where
  br : BrS w0 p l W
  row : RowAt W g (entL n s)
theorem CrS.call {w0 : World} {p l : List UInt8} {g : Nat} {n : Int} {s : ByteArray} {W W' : World} (k : CrS w0 p l g n s W) (hb : Below W.heap.size W W') : CrS w0 p l g n s W' := ⟨k.br.call hb, RowAt.step k.row hb⟩
theorem CrS.drew {w0 : World} {p l : List UInt8} {g : Nat} {n : Int} {s : ByteArray} {W : World} (k : CrS w0 p l g n s W) : CrS w0 p l g n s W.drew := ⟨k.br.drew, k.row.drew⟩
theorem CrS.box {w0 : World} {p l : List UInt8} {W : World} (k : BrS w0 p l W) (n : Int) (s : ByteArray) : CrS w0 p l W.heap.size n s (W.alloc (.cells #[.int .i64 n, .string s] 30)) :=
  ⟨k.call ((Below.refl _ _).alloc (Nat.le_refl _) _), rowAt_new W (entL n s) _⟩
theorem copyK_step (b : List UInt8) (k : Nat) (h : k < b.length) (hb : b.length = 16) : (b.take k ++ Nm.zs (16 - k)).set k b[k] = b.take (k + 1) ++ Nm.zs (16 - (k + 1)) := by
  rw [List.set_append_right _ _ (by simp; omega)]
  have e1 : k - (b.take k).length = 0 := by simp; omega
  obtain ⟨d, hd⟩ : ∃ d, 16 - k = d + 1 := ⟨15 - k, by omega⟩
  rw [e1, hd, show 16 - (k + 1) = d by omega, show Nm.zs (d + 1) = 0 :: Nm.zs d from rfl, List.set_cons_zero, List.take_succ_eq_append_getElem h, List.append_assoc]
  rfl
theorem at_getD (p : List UInt8) (i k : Nat) (hk : k < 16) (h : 16 * i + k < p.length) : (Nm.at_ p i).getD k 0 = p[16 * i + k] := by
  rw [List.getD_eq_getElem?_getD, Nm.at_get, if_pos hk, List.getElem?_eq_getElem h]
  rfl
/-- the zero entry's sixteen bytes, written out -/
def zeroV : Value := .agg #[.int .u8 0, .int .u8 0, .int .u8 0, .int .u8 0, .int .u8 0, .int .u8 0, .int .u8 0, .int .u8 0, .int .u8 0, .int .u8 0, .int .u8 0, .int .u8 0, .int .u8 0, .int .u8 0, .int .u8 0, .int .u8 0]
theorem zeroV_def : zeroV = pageV (Nm.zs 16) := rfl
theorem eq_zero (b : List UInt8) (hb : b.length = 16) (w : World) : (binOp .eql 37 (.agg (byteVals b).toArray) zeroV).run Try.prog w = .ok (.bool (decide (b = Nm.zs 16))) w := run_eql_sixteen w b (Nm.zs 16) hb rfl
theorem guard_zero (b : List UInt8) (x y : Operand) (w : World) : (eqGuard .eql 37 x y (.agg (byteVals b).toArray) zeroV).run Try.prog w = .ok () w := run_guard_sixteenE w x y b (Nm.zs 16)
/-- the entry that sixteen bytes are, way by way -/
theorem ent_zero {b : List UInt8} (h : b = Nm.zs 16) : Nm.ent b = some (0, []) := by unfold Nm.ent; rw [if_pos h]
theorem ent_far {b : List UInt8} (h : b ≠ Nm.zs 16) (h2 : 13 < (b.getD 2 0).toNat) : Nm.ent b = none := by unfold Nm.ent; rw [if_neg h, if_pos h2]
def nm (b : List UInt8) : List UInt8 := (b.drop 3).take (b.getD 2 0).toNat
def no (b : List UInt8) : Int := ((b.getD 0 0).toNat : Int) * 256 + ((b.getD 1 0).toNat : Int)
theorem no_eq {b : List UInt8} (hb : b.length = 16) : Pg.numOf (b.take 2) = no b := by
  match b, hb with
  | x :: y :: t, _ =>
    show Pg.numOf [x, y] = _
    unfold Pg.numOf no
    simp
theorem no_bd (b : List UInt8) : 0 ≤ no b ∧ no b ≤ 65535 := by
  unfold no
  have h0 := (b.getD 0 0).toNat_lt
  have h1 := (b.getD 1 0).toNat_lt
  omega
theorem ent_near {b : List UInt8} (hb : b.length = 16) (h : b ≠ Nm.zs 16) (h2 : ¬ 13 < (b.getD 2 0).toNat) : Nm.ent b = if Nm.rightB (no b) (nm b) = true ∧ Nm.slot (no b) (nm b) = b then some (no b, nm b) else none := by
  unfold Nm.ent
  rw [if_neg h, if_neg h2, no_eq hb]
  rfl
theorem strOf_snoc (l : List UInt8) (c : UInt8) : strOf l ++ ⟨#[c]⟩ = strOf (l ++ [c]) := by
  apply ByteArray.ext
  simp [strOf, ByteArray.data_append]
theorem conv_one (w : World) (x : UInt8) (T : TypeId) : (convert 48 9 (.slice (some ⟨w.heap.size, 0, none⟩) 1 1)).run Try.prog (w.alloc (.cells #[.int .u8 (x.toNat : Int)] T)) = .ok (.string ⟨#[x]⟩) (w.alloc (.cells #[.int .u8 (x.toNat : Int)] T)) := by
  have := run_convert_bytes_back (P := Try.prog) (w.alloc (.cells #[.int .u8 (x.toNat : Int)] T)) 48 9 5 ⟨w.heap.size, 0, none⟩ 1 [x] Try.underlying48 Try.underlying5 Try.underlying9 (fun j hj => by
    have : j = 0 := by simpa using hj
    subst this
    simp [go_sem, Addr.add_mid])
  exact this
theorem nm_step (b : List UInt8) (k j : Nat) (hb : b.length = 16) (hj : 3 + k = j) (h : j < 16) : (b.drop 3).take (k + 1) = (b.drop 3).take k ++ [b.getD j 0] := by
  subst hj
  rw [List.take_succ_eq_append_getElem (by simp; omega), List.getElem_drop, List.getD_eq_getElem?_getD, List.getElem?_eq_getElem (by omega)]
  rfl

set_option maxRecDepth 100000 in
set_option maxHeartbeats 4000000 in
theorem refGet_any (p : List UInt8) (i : Nat) (w : World) (hp : p.length = 64) (hi : i < 4) :
    Calls Try.prog 17 #[pageV p, .int .i64 (i : Int)] w fun e w' => e = .returned (.tuple #[entV (Nm.entN (Nm.ent (Nm.at_ p i))) (strOf (Nm.entS (Nm.ent (Nm.at_ p i)))), .bool (Nm.ent (Nm.at_ p i)).isSome]) ∧ Below w.heap.size w w' := by
  have hS := brS_box w p hp
  rw [zero16_def] at hS
  have S := Lib.hid hS
  clear hS
  obtain ⟨A, hA⟩ : ∃ A : Nat, A = 16 * i := ⟨_, rfl⟩
  have hAi : (16 : Int) * (i : Int) = (A : Int) := by omega
  have hA64 : A + 16 ≤ 64 := by omega
  have HP := Lib.hid hp
  have HB := Lib.hid (Nm.at_length hp hi)
  have HG := Lib.hid (fun k hk h => at_getD p i k hk h)
  rw [← hA] at HG
  generalize Nm.at_ p i = b at HB HG ⊢
  have HPL := Lib.hid hp
  obtain ⟨o, HO⟩ : ∃ o, Hid (Nm.ent b = o) := ⟨_, Lib.hid rfl⟩
  rw [HO.out]
  clear hp hA
  unfold pageV
  go_enter Try.func17, Try.ntmps17
  go_wp2_with fail
  generalize ((w.alloc (.cells (byteVals p).toArray 32)).alloc _).alloc _ = w1 at S ⊢
  go_loopw [7] (fun x wr => ∃ k : Nat, k ≤ 16 ∧ x = .int .i64 (k : Int) ∧ Hid (BrS w p (b.take k ++ Nm.zs (16 - k)) wr)) (fun x _ => 16 - (intOf x).toNat)
  case atStart => exact ⟨0, by omega, rfl, S⟩
  case round =>
    clear S
    obtain ⟨k, hk, rfl, S⟩ := hrel
    by_cases hlt : k < 16
    · obtain ⟨j, hj⟩ : ∃ j, A + k = j := ⟨_, rfl⟩
      have hidx : (A : Int) + (k : Int) = (j : Int) := by omega
      have hj64 : j < 64 := by omega
      obtain ⟨x, hx⟩ : ∃ x : UInt8, b[k]'(by rw [HB.out]; exact hlt) = x := ⟨_, rfl⟩
      have HX := Lib.hid hx
      have hc0 := S.out.page.cell j hj64
      have hpx : p.getD j 0 = x := by
        have := HG.out k hlt (by rw [HPL.out]; omega)
        rw [List.getD_eq_getElem?_getD, List.getElem?_eq_getElem (by rw [HB.out]; exact hlt)] at this
        rw [← hx, List.getD_eq_getElem?_getD, List.getElem?_eq_getElem (by rw [HPL.out]; exact hj64)]
        simp only [Option.getD_some] at this ⊢
        rw [this]
        congr 1
        exact hj.symm
      rw [hpx] at hc0
      have hc := S.out.cellAt k hlt
      have hf := S.out.free k hlt
      clear hj hx hpx
      go_wp2
      have S3 := Lib.hid (S.out.set k x hlt)
      clear hc hf hc0
      go_roundw
      case rel => exact ⟨k + 1, by omega, by go_num, Lib.hid (by
        have := S3.out
        rw [← HX.out, copyK_step b k (by rw [HB.out]; exact hlt) HB.out] at this
        rw [← HX.out]
        exact this)⟩
      case measure => simp [intOf]; omega
    · obtain rfl : k = 16 := by omega
      have e : b.take 16 ++ Nm.zs (16 - 16) = b := by
        rw [List.take_of_length_le (by rw [HB.out]; exact Nat.le_refl _)]
        exact List.append_nil b
      rw [e] at S
      clear e hlt hk
      have hq := fun w => eq_zero b HB.out w
      have hgd := fun x y w => guard_zero b x y w
      by_cases hz : b = Nm.zs 16
      · have ho := Lib.hid (HO.out.symm.trans (ent_zero hz))
        rw [decide_eq_true hz] at hq
        unfold zeroV at hq hgd
        clear hz
        go_wp2_with (first
          | ((with_reducible refine wpList_load_row arrT S.out.arr S.out.arr_len rfl (.tmp 6) rfl rfl ?_))
          | ((with_reducible refine wpList_store_row rentT (vs := entL 0 ⟨#[]⟩) S.out.out (entL_len _ _) (entL_len _ _) (entL_one _ _) rfl (.tmp 4) (.tmp 27) rfl rfl ?_ ?_); (exact rfl)))
        exact bodyPost_ret (results_row2 rentT _ 4 5 rfl _ (S.out.back 0 ⟨#[]⟩).1 rfl rfl rfl) rfl ⟨by rw [ho.out]; rfl, (S.out.back 0 ⟨#[]⟩).2⟩
      · have HZ := Lib.hid hz
        rw [decide_eq_false hz] at hq
        unfold zeroV at hq hgd
        clear hz
        by_cases h13 : 13 < (b.getD 2 0).toNat
        · have ho := Lib.hid (HO.out.symm.trans (ent_far HZ.out h13))
          have hc := S.out.cellAt 2 (by decide)
          generalize b.getD 2 0 = c at h13 hc
          go_wp2_with (first
            | ((with_reducible refine wpList_load_row arrT S.out.arr S.out.arr_len rfl (.tmp 6) rfl rfl ?_))
            | ((with_reducible refine wpList_store_row rentT (vs := entL 0 ⟨#[]⟩) S.out.out (entL_len _ _) (entL_len _ _) (entL_one _ _) rfl (.tmp 4) (.tmp 31) rfl rfl ?_ ?_); (exact rfl)))
          exact bodyPost_ret (results_row2 rentT _ 4 5 rfl _ (S.out.back 0 ⟨#[]⟩).1 rfl rfl rfl) rfl ⟨by rw [ho.out]; rfl, (S.out.back 0 ⟨#[]⟩).2⟩
        · have ho := Lib.hid (HO.out.symm.trans (ent_near HB.out HZ.out h13))
          have hc := S.out.cellAt 2 (by decide)
          obtain ⟨c, hcE⟩ : ∃ c, b.getD 2 0 = c := ⟨_, rfl⟩
          have HC := Lib.hid hcE
          rw [hcE] at hc h13
          clear hcE
          have HNM : Hid (nm b = (b.drop 3).take c.toNat) := Lib.hid (by unfold nm; rw [HC.out])
          obtain ⟨nb, HNB⟩ : ∃ y, Hid (nm b = y) := ⟨_, Lib.hid rfl⟩
          obtain ⟨mb, HMB⟩ : ∃ y, Hid (no b = y) := ⟨_, Lib.hid rfl⟩
          rw [HNB.out, HMB.out] at ho
          go_wp2_with ((with_reducible refine wpList_load_row arrT S.out.arr S.out.arr_len rfl (.tmp 6) rfl rfl ?_))
          clear hq hgd hc
          go_loopw [8, 9] (fun v x wr => ∃ k : Nat, k ≤ c.toNat ∧ x = .int .i64 (k : Int) ∧ v = .string (strOf ((b.drop 3).take k)) ∧ Hid (BrS w p b wr)) (fun _ x _ => c.toNat - (intOf x).toNat)
          case atStart => exact ⟨0, Nat.zero_le _, rfl, rfl, S⟩
          case round =>
            clear S
            obtain ⟨k, hk, rfl, rfl, S⟩ := hrel
            have hc := S.out.cellAt 2 (by decide)
            rw [HC.out] at hc
            by_cases hlt : k < c.toNat
            · obtain ⟨j, hj⟩ : ∃ j, 3 + k = j := ⟨_, rfl⟩
              have hidx : (3 : Int) + (k : Int) = (j : Int) := by omega
              have hj16 : j < 16 := by omega
              have HN := Lib.hid (nm_step b k j HB.out hj hj16)
              have hcj := S.out.cellAt j hj16
              generalize b.getD j 0 = x at hcj HN
              have hsz : ¬ 9223372036854775807 < (strOf ((b.drop 3).take k)).size + 1 := by
                rw [strOf_size]
                have := HB.out
                simp
                omega
              generalize (b.drop 3).take k = l at HN hsz ⊢
              clear hj
              have hcv := fun T => conv_one wr x T
              go_wp2
              have S3 := Lib.hid (S.out.call ((Below.refl _ _).alloc (Nat.le_refl _) (.cells #[.int .u8 (x.toNat : Int)] 5)))
              clear hcj hc hcv hsz
              go_roundw
              case rel => exact ⟨k + 1, by omega, by go_num, by rw [HN.out, ← strOf_snoc], S3⟩
              case measure => simp [intOf]; omega
            · obtain rfl : k = c.toNat := by omega
              rw [← HNM.out, HNB.out]
              have hc0 := S.out.cellAt 0 (by decide)
              have hc1 := S.out.cellAt 1 (by decide)
              have HM : Hid (mb = ((b.getD 0 0).toNat : Int) * 256 + ((b.getD 1 0).toNat : Int)) := Lib.hid (by rw [← HMB.out]; rfl)
              have HMbd : Hid (0 ≤ mb ∧ mb ≤ 65535) := Lib.hid (by rw [← HMB.out]; exact no_bd b)
              have hb0 := (b.getD 0 0).toNat_lt
              have hb1 := (b.getD 1 0).toNat_lt
              generalize b.getD 0 0 = x0 at hc0 hb0 HM
              generalize b.getD 1 0 = x1 at hc1 hb1 HM
              go_wp2
              rw [← HM.out]
              have S4 : Hid (CrS w p b wr.heap.size mb (strOf nb) (wr.alloc (.cells #[.int .i64 mb, .string (strOf nb)] 30))) := Lib.hid (CrS.box S.out mb (strOf nb))
              generalize wr.alloc (.cells #[.int .i64 mb, .string (strOf nb)] 30) = w4 at S4 ⊢
              generalize wr.heap.size = g at S4 ⊢
              have hmx : (strOf nb).size ≤ maxLen := by
                rw [strOf_size, ← HNB.out]
                have := HB.out
                unfold nm maxLen
                simp
                omega
              have HR := Lib.hid (fun w => refRight_any mb (strOf nb) w hmx)
              rw [strOf_list] at HR
              clear S hmx hc hc0 hc1 HM
              cases hr : Nm.rightB mb nb with
              | false =>
                rw [hr] at HR
                replace ho := Lib.hid (ho.out.trans (if_neg (fun h => by rw [hr] at h; cases h.1)))
                clear hr
                refine wp_region_class (C := CrS w p b g mb (strOf nb)) (by kernel_rfl) (CrS.drew S4.out) ?_
                refine wpQuiet_row rentT (entL_len _ _) (.tmp 10) rfl rfl (by kernel_rfl) (fun _ hC => CrS.row hC) ?_
                (try simp only [Act.put, List.setIfInBounds_toArray, List.set_cons_zero, List.set_cons_succ])
                refine wpQuiet_call 12 #[entV mb (strOf nb)] (.bool false) (by kernel_rfl) (fun _ => by go_simp; rfl) (fun W hC => (HR.out W).mono fun _ _ h => ⟨h.1, CrS.call hC h.2⟩) ?_
                (try simp only [Act.put, List.setIfInBounds_toArray, List.set_cons_zero, List.set_cons_succ])
                refine wpQuiet_take (.bool true) (by kernel_rfl) ?_ ?_
                · (intro _ _; go_simp)
                (try simp only [Act.put, List.setIfInBounds_toArray, List.set_cons_zero, List.set_cons_succ])
                refine wpQuiet_take (.bool true) (by kernel_rfl) ?_ ?_
                · (intro _ _; go_simp)
                (try simp only [Act.put, List.setIfInBounds_toArray, List.set_cons_zero, List.set_cons_succ])
                refine BigFrame.wpQuiet_skip (by kernel_rfl) ?_
                (try simp only [Act.put, List.setIfInBounds_toArray, List.set_cons_zero, List.set_cons_succ])
                refine BigFrame.wpQuiet_skip (by kernel_rfl) ?_
                (try simp only [Act.put, List.setIfInBounds_toArray, List.set_cons_zero, List.set_cons_succ])
                refine BigFrame.wpQuiet_skip (by kernel_rfl) ?_
                (try simp only [Act.put, List.setIfInBounds_toArray, List.set_cons_zero, List.set_cons_succ])
                refine BigFrame.wpQuiet_skip (by kernel_rfl) ?_
                (try simp only [Act.put, List.setIfInBounds_toArray, List.set_cons_zero, List.set_cons_succ])
                refine wpQuiet_take (.bool true) (by kernel_rfl) ?_ ?_
                · (intro _ _; go_simp)
                (try simp only [Act.put, List.setIfInBounds_toArray, List.set_cons_zero, List.set_cons_succ])
                refine wpQuiet_nil ?_
                intro W3 hC
                have B3 : Hid (BrS w p b W3) := Lib.hid hC.br
                have R3 : Hid (RowAt W3 g (entL mb (strOf nb))) := Lib.hid hC.row
                clear hC S4
                go_wp2_with (first
                  | ((with_reducible refine wpList_store_row rentT (vs := entL 0 ⟨#[]⟩) B3.out.out (entL_len _ _) (entL_len _ _) (entL_one _ _) rfl (.tmp 4) (.tmp 66) rfl rfl ?_ ?_); (exact rfl))
                  | (with_reducible refine wpList_load_row rentT R3.out (entL_len _ _) rfl (.tmp 10) rfl rfl ?_))
                exact bodyPost_ret (results_row2 rentT _ 4 5 rfl _ (B3.out.back 0 ⟨#[]⟩).1 rfl rfl rfl) rfl ⟨by rw [ho.out]; rfl, (B3.out.back 0 ⟨#[]⟩).2⟩
              | true =>
                rw [hr] at HR
                have hbd := Nm.right_yes hr
                have hl := (Nm.chk_len hbd.2.2).2
                have C2 := Lib.hid (fun w => refSlot_any mb (strOf nb) w (by omega) (by omega) (by rw [strOf_size]; exact hl))
                rw [strOf_list] at C2
                have hq16 := Nm.slot_length mb hl
                by_cases he : Nm.slot mb nb = b
                · replace ho := Lib.hid (ho.out.trans (if_pos ⟨hr, he⟩))
                  have hne := fun w => run_neq_sixteen w (Nm.slot mb nb) b hq16 HB.out
                  rw [decide_eq_true he] at hne
                  change ∀ w, (binOp .neq 37 (pageV (Nm.slot mb nb)) (.agg (byteVals b).toArray)).run Try.prog w = .ok (.bool false) w at hne
                  obtain ⟨f, hf⟩ : ∃ f, f = false := ⟨_, rfl⟩
                  rw [← hf] at hne
                  have HNE := Lib.hid hne
                  have HGD := Lib.hid (fun x y w => run_guard_sixteen w x y (Nm.slot mb nb) b)
                  change Hid (∀ x y w, (eqGuard .neq 37 x y (pageV (Nm.slot mb nb)) (.agg (byteVals b).toArray)).run Try.prog w = .ok () w) at HGD
                  clear he hne hr hbd hl hq16
                  generalize Nm.slot mb nb = q at C2 HNE HGD
                  refine wp_region_class (C := CrS w p b g mb (strOf nb)) (by kernel_rfl) (CrS.drew S4.out) ?_
                  refine wpQuiet_row rentT (entL_len _ _) (.tmp 10) rfl rfl (by kernel_rfl) (fun _ hC => CrS.row hC) ?_
                  (try simp only [Act.put, List.setIfInBounds_toArray, List.set_cons_zero, List.set_cons_succ])
                  refine wpQuiet_call 12 #[entV mb (strOf nb)] (.bool true) (by kernel_rfl) (fun _ => by go_simp; rfl) (fun W hC => (HR.out W).mono fun _ _ h => ⟨h.1, CrS.call hC h.2⟩) ?_
                  (try simp only [Act.put, List.setIfInBounds_toArray, List.set_cons_zero, List.set_cons_succ])
                  refine wpQuiet_take (.bool false) (by kernel_rfl) ?_ ?_
                  · (intro _ _; go_simp)
                  (try simp only [Act.put, List.setIfInBounds_toArray, List.set_cons_zero, List.set_cons_succ])
                  refine wpQuiet_take (.bool false) (by kernel_rfl) ?_ ?_
                  · (intro _ _; go_simp)
                  (try simp only [Act.put, List.setIfInBounds_toArray, List.set_cons_zero, List.set_cons_succ])
                  refine wpQuiet_row rentT (entL_len _ _) (.tmp 10) rfl rfl (by kernel_rfl) (fun _ hC => CrS.row hC) ?_
                  (try simp only [Act.put, List.setIfInBounds_toArray, List.set_cons_zero, List.set_cons_succ])
                  refine wpQuiet_call 16 #[entV mb (strOf nb)] (pageV q) (by kernel_rfl) (fun _ => by go_simp; rfl) (fun W hC => (C2.out W).mono fun _ _ h => ⟨h.1, CrS.call hC h.2⟩) ?_
                  (try simp only [Act.put, List.setIfInBounds_toArray, List.set_cons_zero, List.set_cons_succ])
                  refine wpQuiet_row arrT (BrS.arr_len S4.out.br) (.tmp 6) rfl rfl (by kernel_rfl) (fun _ hC => hC.br.arr) ?_
                  (try simp only [Act.put, List.setIfInBounds_toArray, List.set_cons_zero, List.set_cons_succ])
                  refine wpQuiet_take (.bool f) (by kernel_rfl) ?_ ?_
                  · (intro w' _; have hn := HNE.out w'; have hgd := fun x y => HGD.out x y w'; go_simp)
                  (try simp only [Act.put, List.setIfInBounds_toArray, List.set_cons_zero, List.set_cons_succ])
                  refine wpQuiet_take (.bool f) (by kernel_rfl) ?_ ?_
                  · (intro _ _; cases f <;> go_simp)
                  (try simp only [Act.put, List.setIfInBounds_toArray, List.set_cons_zero, List.set_cons_succ])
                  refine wpQuiet_nil ?_
                  intro W3 hC
                  have B3 : Hid (BrS w p b W3) := Lib.hid hC.br
                  have R3 : Hid (RowAt W3 g (entL mb (strOf nb))) := Lib.hid hC.row
                  clear hC S4
                  subst hf
                  go_wp2_with (first
                    | ((with_reducible refine wpList_store_row rentT (vs := entL mb (strOf nb)) B3.out.out (entL_len _ _) (entL_len _ _) (entL_one _ _) rfl (.tmp 4) (.tmp 67) rfl rfl ?_ ?_); (exact rfl))
                    | (with_reducible refine wpList_load_row rentT R3.out (entL_len _ _) rfl (.tmp 10) rfl rfl ?_))
                  exact bodyPost_ret (results_row2 rentT _ 4 5 rfl _ (B3.out.back mb (strOf nb)).1 rfl rfl rfl) rfl ⟨by rw [ho.out]; rfl, (B3.out.back mb (strOf nb)).2⟩
                · replace ho := Lib.hid (ho.out.trans (if_neg (fun h => he h.2)))
                  have hne := fun w => run_neq_sixteen w (Nm.slot mb nb) b hq16 HB.out
                  rw [decide_eq_false he] at hne
                  change ∀ w, (binOp .neq 37 (pageV (Nm.slot mb nb)) (.agg (byteVals b).toArray)).run Try.prog w = .ok (.bool true) w at hne
                  obtain ⟨f, hf⟩ : ∃ f, f = true := ⟨_, rfl⟩
                  rw [← hf] at hne
                  have HNE := Lib.hid hne
                  have HGD := Lib.hid (fun x y w => run_guard_sixteen w x y (Nm.slot mb nb) b)
                  change Hid (∀ x y w, (eqGuard .neq 37 x y (pageV (Nm.slot mb nb)) (.agg (byteVals b).toArray)).run Try.prog w = .ok () w) at HGD
                  clear he hne hr hbd hl hq16
                  generalize Nm.slot mb nb = q at C2 HNE HGD
                  refine wp_region_class (C := CrS w p b g mb (strOf nb)) (by kernel_rfl) (CrS.drew S4.out) ?_
                  refine wpQuiet_row rentT (entL_len _ _) (.tmp 10) rfl rfl (by kernel_rfl) (fun _ hC => CrS.row hC) ?_
                  (try simp only [Act.put, List.setIfInBounds_toArray, List.set_cons_zero, List.set_cons_succ])
                  refine wpQuiet_call 12 #[entV mb (strOf nb)] (.bool true) (by kernel_rfl) (fun _ => by go_simp; rfl) (fun W hC => (HR.out W).mono fun _ _ h => ⟨h.1, CrS.call hC h.2⟩) ?_
                  (try simp only [Act.put, List.setIfInBounds_toArray, List.set_cons_zero, List.set_cons_succ])
                  refine wpQuiet_take (.bool false) (by kernel_rfl) ?_ ?_
                  · (intro _ _; go_simp)
                  (try simp only [Act.put, List.setIfInBounds_toArray, List.set_cons_zero, List.set_cons_succ])
                  refine wpQuiet_take (.bool false) (by kernel_rfl) ?_ ?_
                  · (intro _ _; go_simp)
                  (try simp only [Act.put, List.setIfInBounds_toArray, List.set_cons_zero, List.set_cons_succ])
                  refine wpQuiet_row rentT (entL_len _ _) (.tmp 10) rfl rfl (by kernel_rfl) (fun _ hC => CrS.row hC) ?_
                  (try simp only [Act.put, List.setIfInBounds_toArray, List.set_cons_zero, List.set_cons_succ])
                  refine wpQuiet_call 16 #[entV mb (strOf nb)] (pageV q) (by kernel_rfl) (fun _ => by go_simp; rfl) (fun W hC => (C2.out W).mono fun _ _ h => ⟨h.1, CrS.call hC h.2⟩) ?_
                  (try simp only [Act.put, List.setIfInBounds_toArray, List.set_cons_zero, List.set_cons_succ])
                  refine wpQuiet_row arrT (BrS.arr_len S4.out.br) (.tmp 6) rfl rfl (by kernel_rfl) (fun _ hC => hC.br.arr) ?_
                  (try simp only [Act.put, List.setIfInBounds_toArray, List.set_cons_zero, List.set_cons_succ])
                  refine wpQuiet_take (.bool f) (by kernel_rfl) ?_ ?_
                  · (intro w' _; have hn := HNE.out w'; have hgd := fun x y => HGD.out x y w'; go_simp)
                  (try simp only [Act.put, List.setIfInBounds_toArray, List.set_cons_zero, List.set_cons_succ])
                  refine wpQuiet_take (.bool f) (by kernel_rfl) ?_ ?_
                  · (intro _ _; cases f <;> go_simp)
                  (try simp only [Act.put, List.setIfInBounds_toArray, List.set_cons_zero, List.set_cons_succ])
                  refine wpQuiet_nil ?_
                  intro W3 hC
                  have B3 : Hid (BrS w p b W3) := Lib.hid hC.br
                  have R3 : Hid (RowAt W3 g (entL mb (strOf nb))) := Lib.hid hC.row
                  clear hC S4
                  subst hf
                  go_wp2_with (first
                    | ((with_reducible refine wpList_store_row rentT (vs := entL 0 ⟨#[]⟩) B3.out.out (entL_len _ _) (entL_len _ _) (entL_one _ _) rfl (.tmp 4) (.tmp 66) rfl rfl ?_ ?_); (exact rfl))
                    | (with_reducible refine wpList_load_row rentT R3.out (entL_len _ _) rfl (.tmp 10) rfl rfl ?_))
                  exact bodyPost_ret (results_row2 rentT _ 4 5 rfl _ (B3.out.back 0 ⟨#[]⟩).1 rfl rfl rfl) rfl ⟨by rw [ho.out]; rfl, (B3.out.back 0 ⟨#[]⟩).2⟩
end Go.Proofs.Ytejedkdlehgnpaa
