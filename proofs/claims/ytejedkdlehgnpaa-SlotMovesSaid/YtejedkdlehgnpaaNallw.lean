/-
  The contract of slot.All: the walk.
-/
import Derived.Test.YtejedkdlehgnpaaNall
namespace Go.Proofs.Ytejedkdlehgnpaa
open Go.RowKit Go.Maps

/-- what All gives -/
def AllGive (ps : List (List UInt8)) (w : World) (e : Ending) (w' : World) : Prop :=
  if allOk (blocks ps) = true then ∃ A c, e = .returned (.tuple #[.slice A (blocks ps).length c, .int .i64 0]) ∧ w'.ownsRow w.heap.size 23 2 (.slice A (blocks ps).length c) (blocks ps).length ((blocks ps).flatMap eL) ∧ Below w.heap.size w w'
  else e = .returned (.tuple #[.slice none 0 0, .int .i64 5]) ∧ Below w.heap.size w w'
theorem alS_start (w : World) (A : Option Addr) (n : Nat) (ps : List (List UInt8)) (h : PagesIn w A n ps) (hf : 0 < n → ∀ b off, A = some ⟨b, off, none⟩ → b < w.heap.size) : AlS w A n ps (.slice none 0 0) [] w :=
  ⟨h, hf, ⟨rfl, Or.inl ⟨rfl, rfl⟩⟩, Below.refl _ _⟩

theorem give_none {ps : List (List UInt8)} {w : World} (h : allOk (blocks ps) = false) (w' : World) (hb : Below w.heap.size w w') : AllGive ps w (.returned (.tuple #[.slice none 0 0, .int .i64 5])) w' := by
  unfold AllGive
  rw [if_neg (by rw [h]; decide)]
  exact ⟨rfl, hb⟩
theorem give_all {A0 : Option Addr} {n : Nat} {ps : List (List UInt8)} {w w' : World} {A : Option Addr} {m c : Nat} (h : allOk (blocks ps) = true) (hm : m = (blocks ps).length) (hS : AlS w A0 n ps (.slice A m c) (blocks ps) w') : AllGive ps w (.returned (.tuple #[.slice A m c, .int .i64 0])) w' := by
  unfold AllGive
  rw [if_pos h]
  subst hm
  exact ⟨A, c, rfl, hS.own, hS.bel⟩
set_option maxRecDepth 100000 in
set_option maxHeartbeats 4000000 in
theorem all_any (A : Option Addr) (n c : Nat) (ps : List (List UInt8)) (w : World) (hin : PagesIn w A n ps) (hf : 0 < n → ∀ b off, A = some ⟨b, off, none⟩ → b < w.heap.size) (hn : n ≤ 30) :
    Calls Try.prog 18 #[.slice A n c] w (AllGive ps w) := by
  have S0 := Lib.hid (alS_start w A n ps hin hf)
  have HL := Lib.hid hin.len
  have HZ := Lib.hid hin.size
  obtain ⟨i0, hi0, hz0, hs0, hb0⟩ := info_parts info_ent
  have HI0 := Lib.hid hi0
  have HZ0 := Lib.hid hz0
  have HS0 := Lib.hid hs0
  have HB0 := Lib.hid hb0
  clear hin hf hi0 hz0 hs0 hb0
  go_enter Try.func18, Try.ntmps18
  go_wp2_with fail
  go_loopw [4, 12] (fun l x wr => ∃ (k : Nat) (A' : Option Addr) (m c' : Nat), k ≤ n ∧ x = .int .i64 (k : Int) ∧ l = .slice A' m c' ∧ Hid (m = (blocks (ps.take k)).length) ∧ Hid (AlS w A n ps (.slice A' m c') (blocks (ps.take k)) wr) ∧ Hid (allOk (blocks (ps.take k)) = true)) (fun _ x _ => n - (intOf x).toNat)
  case atStart => exact ⟨0, none, 0, 0, Nat.zero_le _, rfl, rfl, Lib.hid rfl, S0, Lib.hid rfl⟩
  case round =>
    clear S0
    obtain ⟨k, A', m, c', hk, rfl, rfl, HM, S, HO⟩ := hrel
    rename World => wo
    by_cases hlt : k < n
    · obtain ⟨b, off, hA, hb, hc⟩ := S.out.pages.rows.cells (by rw [List.length_map, HL.out]; omega)
      obtain ⟨p, hp⟩ : ∃ p, ps[k]? = some p := ⟨_, List.getElem?_eq_getElem (by rw [HL.out]; exact hlt)⟩
      have HP := Lib.hid (hc k (byteVals p) (by rw [List.getElem?_map, hp]; rfl))
      have HPL := Lib.hid (HZ.out p (List.mem_of_getElem? hp))
      have HBL := Lib.hid (show (byteVals p).length = 64 by rw [byteVals_length, HPL.out])
      have HMore := Lib.hid (blocks_more ps k p hp)
      have HNo := Lib.hid (fun j hj => allOk_no ps k p hp j hj)
      subst hA
      have hk0 : (0 : Int) ≤ (k : Int) := by omega
      have hk1 : (k : Int) < (n : Int) := by omega
      clear hc hp hb
      have HLen : Hid ((blocks (ps.take k)).length ≤ 120) := Lib.hid (by rw [blocks_length, List.length_take]; omega)
      generalize blocks (ps.take k) = bs at HM S HO HMore HLen
      go_wp2_with (first
        | ((with_reducible refine wpList_load_at pageT HP.out HBL.out rfl (.tmp 14) rfl ?_ ?_); (exact rfl))
        | ((with_reducible refine wpList_store_new (p := p) rfl (.tmp 6) (.tmp 15) rfl rfl ?_ ?_ HPL.out ?_); (exact rfl); (exact rfl); intro W2 hP hB2 hz2; have P := Lib.hid (AlP.start S.out hB2 hP); clear hP hB2 hz2 S; generalize wo.heap.size = B at P ⊢))
      go_loopw [4, 16] (fun l x wr => ∃ (j : Nat) (A' : Option Addr) (m c' : Nat), j ≤ 4 ∧ x = .int .i64 (j : Int) ∧ l = .slice A' m c' ∧ Hid (m = (bs ++ (slots p).take j).length) ∧ Hid (AlP w (some ⟨b, off, none⟩) n ps (.slice A' m c') (bs ++ (slots p).take j) B p wr) ∧ Hid (allOk (bs ++ (slots p).take j) = true)) (fun _ x _ => 4 - (intOf x).toNat)
      case atStart => exact ⟨0, A', m, c', by omega, rfl, rfl, Lib.hid (by rw [HM.out]; simp), Lib.hid (by simpa using P.out), Lib.hid (by simpa using HO.out)⟩
      case round =>
        clear P HM HO
        obtain ⟨j, A1, m1, c1, hj, rfl, rfl, HM, P, HO⟩ := hrel
        by_cases hj4 : j < 4
        · have HG := Lib.hid (fun w => get_at p j w HPL.out hj4)
          have HAt := Lib.hid (slots_at p j hj4)
          have HNo2 := Lib.hid (HNo.out j hj4)
          generalize Nm.at_ p j = blk at HG HAt HNo2
          change Hid (∀ w, Calls Try.prog 14 #[pageV p, .int .i64 (j : Int)] w fun e w' => e = .returned (.tuple #[.agg (eL blk).toArray, .int .i64 (errI (Nm.ent blk))]) ∧ Below w.heap.size w w') at HG
          have hj0 : (0 : Int) ≤ (j : Int) := by omega
          have hj1 : (j : Int) < 4 := by omega
          have hm1 : m1 ≤ 130 := by
            have h1 := HLen.out
            have h2 : ((slots p).take j).length ≤ 4 := by rw [List.length_take, slots_length]; omega
            rw [HM.out, List.length_append]
            omega
          cases hok : okE blk with
          | true =>
            have he : errI (Nm.ent blk) = 0 := by unfold errI; rw [show (Nm.ent blk).isSome = true from hok]; rfl
            rw [he] at HG
            have HOK := Lib.hid hok
            clear he hok
            go_wp2_with (first
              | (with_reducible refine wpList_load_page P.out.page rfl (.tmp 6) rfl rfl ?_)
              | (go_at_call 14; (with_reducible refine (HG.out _).mono ?_); rintro e w3 ⟨rfl, hb⟩; replace P := Lib.hid (P.out.call hb); clear hb)
              | ((with_reducible refine wpList_store_newrow entT (vs := eL blk) (eL_length _) (eL_one _) rfl (.tmp 8) (.tmp 23) rfl rfl ?_ ?_ ?_); (exact rfl); (exact rfl); intro W4 hP hb hz; have R := Lib.hid hP; replace P := Lib.hid (P.out.call hb); clear hP hb hz; generalize w3.heap.size = G at R ⊢)
              | (with_reducible refine wpList_load_row entT R.out (eL_length _) rfl (.tmp 8) rfl rfl ?_)
              | ((with_reducible refine wpList_one (b := blk) rfl (.tmp 29) rfl ?_ ?_); (exact rfl); have HNW := Lib.hid (cell_new W4 (eL blk) 23); have HBel : Hid (Below W4.heap.size W4 (W4.alloc (.cells (eL blk).toArray 23))) := Lib.hid ((Below.refl _ _).alloc (Nat.le_refl _) _); replace P := Lib.hid (P.out.call HBel.out); have HSZ : Hid (w.heap.size ≤ (W4.alloc (.cells (eL blk).toArray 23)).heap.size) := Lib.hid P.out.al.bel.size; have HOwn := Lib.hid P.out.al.own; rw [← HM.out] at HOwn; clear HBel; generalize W4.heap.size = E at HNW ⊢; generalize W4.alloc (.cells (eL blk).toArray 23) = W5 at HNW P HSZ HOwn ⊢)
              | (at_builtin; go_must (refine wpList_append_own_at _ rfl (.tmp 28) (.tmp 30) 44 rfl w.heap.size 23 i0 _ 2 24 Try.underlying44 HI0.out HZ0.out HS0.out HB0.out rfl (by omega) _ m1 _ rfl HOwn.out ⟨E, 0, none⟩ 1 1 (eL blk) rfl rfl HNW.out (eL_one _) (by unfold maxLen; omega) (by omega) HSZ.out ?_); intro v' w5 hown' hgrow hnil hloc; obtain ⟨A', c', rfl⟩ := owns_slice hown'))
            have P3 := Lib.hid (P.out.grow hgrow (b := blk) (by rw [← HM.out]; exact hown') hloc)
            have HM3 : Hid (m1 + 1 = (bs ++ (slots p).take (j + 1)).length) := Lib.hid (by rw [HAt.out, ← List.append_assoc, List.length_append, ← HM.out]; rfl)
            have HO3 : Hid (allOk (bs ++ (slots p).take (j + 1)) = true) := Lib.hid (by rw [HAt.out, ← List.append_assoc, allOk_app, HO.out]; simp [allOk, HOK.out])
            rw [List.append_assoc, ← HAt.out] at P3
            clear hown' hgrow hnil hloc P HM HO
            go_roundw
            case rel => exact ⟨j + 1, A', m1 + 1, c', by omega, by go_num, rfl, HM3, P3, HO3⟩
            case measure => simp [intOf]; omega
          | false =>
            have he : errI (Nm.ent blk) = 5 := by unfold errI; rw [show (Nm.ent blk).isSome = false from hok]; rfl
            rw [he] at HG
            have HF := Lib.hid (give_none (w := w) (HNo2.out hok))
            clear he hok
            go_wp2_with (first
              | (with_reducible refine wpList_load_page P.out.page rfl (.tmp 6) rfl rfl ?_)
              | (go_at_call 14; (with_reducible refine (HG.out _).mono ?_); rintro e w3 ⟨rfl, hb⟩; replace P := Lib.hid (P.out.call hb); clear hb)
              | ((with_reducible refine wpList_store_newrow entT (vs := eL blk) (eL_length _) (eL_one _) rfl (.tmp 8) (.tmp 23) rfl rfl ?_ ?_ ?_); (exact rfl); (exact rfl); intro W4 hP hb hz; replace P := Lib.hid (P.out.call hb); clear hP hb hz; generalize w3.heap.size = G))
            go_ret2
            exact HF.out _ P.out.al.bel
        · obtain rfl : j = 4 := by omega
          have HB4 : Hid (bs ++ (slots p).take 4 = blocks (ps.take (k + 1))) := Lib.hid (by rw [HMore.out]; rfl)
          rw [HB4.out] at HM P HO
          have S3 := Lib.hid P.out.al
          clear P
          go_wp2
          go_roundw
          case rel => exact ⟨k + 1, A1, m1, c1, by omega, by go_num, rfl, HM, S3, HO⟩
          case measure => simp [intOf]; omega
    · obtain rfl : k = n := by omega
      have e : ps.take k = ps := List.take_of_length_le (by rw [HL.out]; exact Nat.le_refl _)
      rw [e] at HM S HO
      have HF := Lib.hid (give_all HO.out HM.out S.out)
      clear e HM S HO hlt
      go_wp2
      go_ret2
      exact HF.out
end Go.Proofs.Ytejedkdlehgnpaa
