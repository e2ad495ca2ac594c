/-
  The contracts of hook.Pack and hook.Words.
-/
import Derived.Test.YthccgfnoolbiiaaHword
import Derived.Deep.QuietTactic
import Derived.BigQuiet
namespace Go.Proofs.Ythccgfnoolbiiaa
open Go.RowKit Go.Maps Pq

theorem run_copy_all {w : World} {b : Nat} {p : List UInt8} (h : BufAt w b p) (s : ByteArray) (hs : s.size ≤ 16) :
    (Builtin.copy_ #[36, 9] 3 #[.slice (some ⟨b, 0, none⟩) 16 16, .string s]).run Try.prog w = .ok (goInt s.size) (w.setCells b 0 (byteVals s.data.toList)) := by
  obtain ⟨S, hS, hc⟩ := run_copy_text h 0 s (by omega)
  have e := run_slice_buf_from w b 0 (by omega)
  rw [e] at hS
  injection hS with hS
  rw [← hS] at hc
  exact hc
theorem run_slice_buf_to (w : World) (b n : Nat) (h : n ≤ 16) :
    (Instr.sliceAt 37 (.pointer (some ⟨b, 0, none⟩)) none (some (.int .i64 (n : Int))) none).run Try.prog w = .ok (.slice (some ⟨b, 0, none⟩) n 16) w := by
  rw [run_sliceAt_array_h w _ _ underP .i64 (n : Int) (by omega) (by rw [arrP]; omega), elemP, run_size8, arrP, Result.andThen_ok]
  unfold slicedAt
  rw [Int.toNat_natCast, if_neg (by omega), Nat.zero_mul, Addr.add_mid]
  rfl
namespace Hk
theorem over_cut (s : List UInt8) (o : Nat) (ho : o + 8 ≤ 16) (h : s.length ≤ 16) : ((Pg.over zero16 0 s).drop o).take 8 = cut s o 8 := by
  apply List.ext_getElem?
  intro i
  by_cases hi : i < 8
  · rw [List.getElem?_take_of_lt hi, List.getElem?_drop, Pg.over_at _ _ _ _ (by rw [zero16_length]; omega)]
    unfold cut at0
    rw [List.getElem?_map, List.getElem?_range hi, if_neg (by omega)]
    simp only [Option.map_some, Nat.zero_add, Nat.sub_zero]
    by_cases hs : o + i < s.length
    · rw [if_pos hs, List.getD_eq_getElem?_getD, List.getElem?_eq_getElem hs]; rfl
    · have hz : zero16[o + i]? = some 0 := by unfold zero16; rw [List.getElem?_replicate, if_pos (by omega)]
      rw [if_neg hs, hz, List.getD_eq_getElem?_getD, List.getElem?_eq_none (Nat.le_of_not_lt hs)]; rfl
  · rw [List.getElem?_eq_none (by rw [List.length_take]; omega), List.getElem?_eq_none (by rw [cut_length]; omega)]
end Hk
structure PackS (w0 : World) (b : Nat) (p : List UInt8) (W : World) : Prop where
  buf : BufAt W b p
  bel : Below w0.heap.size w0 W
theorem PackS.drew {w0 : World} {b : Nat} {p : List UInt8} {W : World} (h : PackS w0 b p W) : PackS w0 b p W.drew := ⟨h.buf.drew, h.bel.drew⟩
set_option maxRecDepth 100000 in
set_option maxHeartbeats 1000000 in
theorem pack_yes (s : ByteArray) (w : World) (h : s.size ≤ 16) :
    Calls Try.prog 19 #[.string s] w fun e w' => e = .returned (.tuple #[.int .i64 (Hk.w0 s.data.toList), .int .i64 (Hk.w1 s.data.toList)]) ∧ Below w.heap.size w w' := by
  have hl : s.data.toList.length = s.size := by simp
  have hs := bufAt_zeros w 37
  rw [zeroCells_def] at hs
  have hsl := run_slice_buf_all (w.alloc (.cells #[.int .u8 0, .int .u8 0, .int .u8 0, .int .u8 0, .int .u8 0, .int .u8 0, .int .u8 0, .int .u8 0, .int .u8 0, .int .u8 0, .int .u8 0, .int .u8 0, .int .u8 0, .int .u8 0, .int .u8 0, .int .u8 0] 37)) w.heap.size
  have hcp := run_copy_all hs s h
  have e0 : Hk.w0 s.data.toList = Hk.sg (Hk.be (((Pg.over zero16 0 s.data.toList).drop 0).take 8)) := by rw [Hk.over_cut _ 0 (by omega) (by omega)]; rfl
  have e1 : Hk.w1 s.data.toList = Hk.sg (Hk.be (((Pg.over zero16 0 s.data.toList).drop 8).take 8)) := by rw [Hk.over_cut _ 8 (by omega) (by omega)]; rfl
  have S := Lib.hid (PackS.mk (hs.over 0 s.data.toList (by omega)) (below_setCells w.heap.size (Nat.le_refl _) (byteVals s.data.toList) 0 _ ((Below.refl w.heap.size w).alloc (Nat.le_refl _) _)))
  rw [e0, e1]
  clear hs e0 e1 hl
  generalize Pg.over zero16 0 s.data.toList = p at S ⊢
  go_enter Try.func19, Try.ntmps19
  go_wp2
--R
  clear hsl hcp
  generalize (w.alloc (.cells _ 37)).setCells w.heap.size 0 (byteVals s.data.toList) = W1 at S ⊢
  obtain ⟨g, hg⟩ : ∃ g, w.heap.size = g := ⟨_, rfl⟩
  have HGS := Lib.hid hg
  rw [hg] at S ⊢
  clear hg
  refine wq_region (C := PackS w g p) (by kernel_rfl) (S.out.drew) ?_
  refine wq_take (.slice (some ⟨g, 0, none⟩) 8 16) (by kernel_rfl) ?_ ?_
  · (intro w' hS; have HS1 := run_slice_buf_to w' g 8 (by omega); go_simp)
  (try simp only [Act.put, List.setIfInBounds_toArray, List.set_cons_zero, List.set_cons_succ])
  refine wq_call 23 #[.slice (some ⟨g, 0, none⟩) 8 16] (.int .i64 (Hk.sg (Hk.be ((p.drop 0).take 8)))) (by kernel_rfl) (fun _ => by go_simp <;> rfl) (fun w'' hS => (word_any g 0 16 p w'' hS.buf (by omega)).mono (fun e w3 h => ⟨h.1, h.2 ▸ hS⟩)) ?_
  (try simp only [Act.put, List.setIfInBounds_toArray, List.set_cons_zero, List.set_cons_succ])
  refine wq_take (.slice (some ⟨g, 8, none⟩) 8 8) (by kernel_rfl) ?_ ?_
  · (intro w' hS; have HS1 := run_slice_buf_from w' g 8 (by omega); go_simp)
  (try simp only [Act.put, List.setIfInBounds_toArray, List.set_cons_zero, List.set_cons_succ])
  refine wq_call 23 #[.slice (some ⟨g, 8, none⟩) 8 8] (.int .i64 (Hk.sg (Hk.be ((p.drop 8).take 8)))) (by kernel_rfl) (fun _ => by go_simp <;> rfl) (fun w'' hS => (word_any g 8 8 p w'' hS.buf (by omega)).mono (fun e w3 h => ⟨h.1, h.2 ▸ hS⟩)) ?_
  (try simp only [Act.put, List.setIfInBounds_toArray, List.set_cons_zero, List.set_cons_succ])
  refine wq_take (.int .i64 (Hk.sg (Hk.be ((p.drop 0).take 8)))) (by kernel_rfl) ?_ ?_
  · (intro w' hS; go_simp)
  (try simp only [Act.put, List.setIfInBounds_toArray, List.set_cons_zero, List.set_cons_succ])
  refine wq_take (.int .i64 (Hk.sg (Hk.be ((p.drop 8).take 8)))) (by kernel_rfl) ?_ ?_
  · (intro w' hS; go_simp)
  (try simp only [Act.put, List.setIfInBounds_toArray, List.set_cons_zero, List.set_cons_succ])
  refine wq_nil ?_
  intro w2 hC
  go_wp2
  go_ret2
  exact ⟨rfl, hC.bel⟩
set_option maxRecDepth 100000 in
set_option maxHeartbeats 1000000 in
theorem pack_no (s : ByteArray) (w : World) (h : 16 < s.size) :
    Calls Try.prog 19 #[.string s] w fun e w' => e = .returned (.tuple #[.int .i64 0, .int .i64 0]) ∧ Below w.heap.size w w' := by
  go_enter Try.func19, Try.ntmps19
  go_wp2
  go_ret2
  exact ⟨rfl, Below.refl _ _⟩
theorem pack_any (s : ByteArray) (w : World) : Calls Try.prog 19 #[.string s] w fun e w' => e = .returned (.tuple #[.int .i64 (Hk.packs s.data.toList).1, .int .i64 (Hk.packs s.data.toList).2]) ∧ Below w.heap.size w w' := by
  have hl : s.data.toList.length = s.size := by simp
  unfold Hk.packs
  rw [hl]
  by_cases h : s.size ≤ 16
  · rw [if_pos h]; exact pack_yes s w h
  · rw [if_neg h]; exact pack_no s w (by omega)
end Go.Proofs.Ythccgfnoolbiiaa
