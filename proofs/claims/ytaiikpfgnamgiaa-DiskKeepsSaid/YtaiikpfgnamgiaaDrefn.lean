/-
  The contract of the reference's New.
-/
import Derived.Test.YtaiikpfgnamgiaaDrefw
import Derived.RegionTactic
namespace Go.Proofs.Ytaiikpfgnamgiaa
open Go.RowKit
open Dk (zeros zeros_length)

def boolRow (n : Nat) : Array Value := Array.replicate n (.bool false)
theorem info_bool : (Try.prog.info? 4).map (fun i => (i.zero, i.size, i.bytes)) = some (some (.bool false), 1, 1) := by kernel_rfl
theorem made_bools (n : Nat) : madeCells (Value.bool false).cells n = boolRow n := by
  apply Array.ext'
  unfold madeCells boolRow
  have hs : (Value.bool false).cells = #[.bool false] := rfl
  rw [hs, Array.toList_map, Array.toList_range, Array.toList_replicate]
  apply List.ext_getElem
  · simp
  · intro i h1 h2
    simp [Nat.mod_one]
theorem run_make_bools (w : World) (n : Nat) (hn : n ≤ 1000) : (Instr.makeSlice 47 (.int .i64 (n : Int)) (.int .i64 (n : Int))).run Try.prog w = .ok (.slice (some ⟨w.heap.size, 0, none⟩) n n) (w.alloc (.cells (boolRow n) 4)) := by
  obtain ⟨i, hi, hz, hs, hb⟩ := info_parts info_bool
  have := run_make (P := Try.prog) w 47 4 i (.bool false) Try.underlying47 hi hz .i64 .i64 (n : Int) (n : Int) (by omega) (by omega) (by rw [hb]; omega) (by omega)
  rw [hs, Int.toNat_natCast, Nat.mul_one, made_bools] at this
  exact this
theorem boolsAt_new (w : World) (n : Nat) (t : TypeId) : BoolsAt (w.alloc (.cells (boolRow n) t)) w.heap.size (List.replicate n false) where
  cell := fun i v hv => by
    rw [World.cell?_alloc_mark]
    rw [List.getElem?_replicate] at hv
    split at hv
    · rename_i hi
      unfold boolRow
      rw [Array.getElem?_replicate, if_pos hi]
      injection hv with hv
      rw [hv]
    · cases hv
  frozen := fun i _ => by rw [World.frozen?_alloc_mark]; simp
theorem RowsAt.alloc {w : World} {b : Nat} {ps : List (List UInt8)} (h : RowsAt w b ps) (hb : b < w.heap.size) (o : Obj) : RowsAt (w.alloc o) b ps := h.block (Below.heap_alloc _ _ _ hb)
theorem BoolsAt.alloc {w : World} {b : Nat} {bs : List Bool} (h : BoolsAt w b bs) (hb : b < w.heap.size) (o : Obj) : BoolsAt (w.alloc o) b bs := h.block (Below.heap_alloc _ _ _ hb)
def NewRef (w : World) (n : Nat) (e : Ending) (w' : World) : Prop := ∃ r a b c, e = .returned (.pointer (some ⟨r, 0, none⟩)) ∧ RefAt w' r a b c (Dk.fresh n) ∧ Below w.heap.size w w' ∧ w.heap.size ≤ r ∧ w.heap.size ≤ a ∧ w.heap.size ≤ b ∧ w.heap.size ≤ c
theorem ref_new (w W : World) (n a b c : Nat) (t : TypeId) (h1 : 1 ≤ n) (h2 : n ≤ 512) (ha : RowsAt W a (List.replicate n zeros)) (hb : RowsAt W b (List.replicate n zeros)) (hc : BoolsAt W c (List.replicate n false)) (ab : a ≠ b) (ac : a ≠ c) (bc : b ≠ c) (la : a < W.heap.size) (lb : b < W.heap.size) (lc : c < W.heap.size)
    (hbel : Below w.heap.size w W) (oa : w.heap.size ≤ a) (ob : w.heap.size ≤ b) (oc : w.heap.size ≤ c) {r : Nat} (hr : r = W.heap.size) :
    NewRef w n (.returned (.pointer (some ⟨r, 0, none⟩))) (W.alloc (.cells #[.slice (some ⟨a, 0, none⟩) n n, .slice (some ⟨b, 0, none⟩) n n, .slice (some ⟨c, 0, none⟩) n n, .int .i64 (-1), .bool false] t)) := by
  subst hr
  have hl : (Dk.fresh n).last.length = n := by unfold Dk.fresh; simp
  refine ⟨W.heap.size, a, b, c, rfl, ?_, hbel.alloc hbel.size _, hbel.size, oa, ob, oc⟩
  exact { ok := Dk.fresh_ok h1 h2, ra := by omega, rb := by omega, rc := by omega, ab := ab, ac := ac, bc := bc
          c0 := by rw [hl]; simp [go_sem]
          c1 := by rw [hl]; simp [go_sem]
          c2 := by rw [hl]; simp [go_sem]
          c3 := by simp [go_sem]; rfl
          c4 := by simp [go_sem]; rfl
          f3 := by simp [go_sem]
          f4 := by simp [go_sem]
          rows := ha.alloc la _
          new := ⟨List.replicate n zeros, hb.alloc lb _, by rw [hl]; simp, fun i p hp => by
            unfold Dk.cacheAt Dk.fresh at hp
            rw [List.getD_eq_getElem?_getD, List.getElem?_replicate] at hp
            split at hp <;> cases hp⟩
          on := by
            have : onOf (Dk.fresh n) = List.replicate n false := by unfold onOf Dk.fresh; simp
            rw [this]
            exact hc.alloc lc _ }
/-- two rows and a row of bools, made one behind the other, in each order -/
theorem three_new (w : World) (n : Nat) : 
    (RowsAt (((w.alloc (.cells (zeroRow n) 31)).alloc (.cells (zeroRow n) 31)).alloc (.cells (boolRow n) 4)) w.heap.size (List.replicate n zeros) ∧
     RowsAt (((w.alloc (.cells (zeroRow n) 31)).alloc (.cells (zeroRow n) 31)).alloc (.cells (boolRow n) 4)) (w.heap.size + 1) (List.replicate n zeros) ∧
     BoolsAt (((w.alloc (.cells (zeroRow n) 31)).alloc (.cells (zeroRow n) 31)).alloc (.cells (boolRow n) 4)) (w.heap.size + 1 + 1) (List.replicate n false)) ∧
    (RowsAt (((w.alloc (.cells (zeroRow n) 31)).alloc (.cells (boolRow n) 4)).alloc (.cells (zeroRow n) 31)) w.heap.size (List.replicate n zeros) ∧
     RowsAt (((w.alloc (.cells (zeroRow n) 31)).alloc (.cells (boolRow n) 4)).alloc (.cells (zeroRow n) 31)) (w.heap.size + 1 + 1) (List.replicate n zeros) ∧
     BoolsAt (((w.alloc (.cells (zeroRow n) 31)).alloc (.cells (boolRow n) 4)).alloc (.cells (zeroRow n) 31)) (w.heap.size + 1) (List.replicate n false)) ∧
    (RowsAt (((w.alloc (.cells (boolRow n) 4)).alloc (.cells (zeroRow n) 31)).alloc (.cells (zeroRow n) 31)) (w.heap.size + 1) (List.replicate n zeros) ∧
     RowsAt (((w.alloc (.cells (boolRow n) 4)).alloc (.cells (zeroRow n) 31)).alloc (.cells (zeroRow n) 31)) (w.heap.size + 1 + 1) (List.replicate n zeros) ∧
     BoolsAt (((w.alloc (.cells (boolRow n) 4)).alloc (.cells (zeroRow n) 31)).alloc (.cells (zeroRow n) 31)) w.heap.size (List.replicate n false)) := by
  have r := fun (v : World) => rowsAt_new v n 31
  have b := fun (v : World) => boolsAt_new v n 4
  refine ⟨⟨((r w).alloc (by simp) _).alloc (by simp; omega) _, ?_, ?_⟩, ⟨((r w).alloc (by simp) _).alloc (by simp; omega) _, ?_, ?_⟩, ?_, ?_, ((b w).alloc (by simp) _).alloc (by simp; omega) _⟩
  · have := (r (w.alloc (.cells (zeroRow n) 31))).alloc (by simp) (.cells (boolRow n) 4)
    simpa using this
  · have := b ((w.alloc (.cells (zeroRow n) 31)).alloc (.cells (zeroRow n) 31))
    simpa using this
  · have := r ((w.alloc (.cells (zeroRow n) 31)).alloc (.cells (boolRow n) 4))
    simpa using this
  · have := (b (w.alloc (.cells (zeroRow n) 31))).alloc (by simp) (.cells (zeroRow n) 31)
    simpa using this
  · have := (r (w.alloc (.cells (boolRow n) 4))).alloc (by simp) (.cells (zeroRow n) 31)
    simpa using this
  · have := r ((w.alloc (.cells (boolRow n) 4)).alloc (.cells (zeroRow n) 31))
    simpa using this
theorem three_below (w : World) (o1 o2 o3 : Obj) : Below w.heap.size w (((w.drew.alloc o1).alloc o2).alloc o3) := (((Below.refl _ _).drew.alloc (Nat.le_refl _) _).alloc (by simp) _).alloc (by simp; omega) _
theorem rnew_no (n : Int) (w : World) (h : n < 1 ∨ 512 < n) : Calls Try.prog 9 #[.int .i64 n] w fun e w' => e = .returned (.pointer none) ∧ w = w' := by
  by_cases h1 : n < 1
  · clear h
    go_enter Try.func9, Try.ntmps9
    go_wp2
    go_ret
    exact ⟨rfl, rfl⟩
  · have h2 : 512 < n := by omega
    clear h
    go_enter Try.func9, Try.ntmps9
    go_wp2
    go_ret
    exact ⟨rfl, rfl⟩
set_option maxHeartbeats 2000000 in
theorem rnew_any (n : Nat) (w : World) (h1 : 1 ≤ n) (h2 : n ≤ 512) : Calls Try.prog 9 #[.int .i64 (n : Int)] w (NewRef w n) := by
  have hmk := fun (W : World) => run_make_pages W n (by omega)
  have hmb := fun (W : World) => run_make_bools W n (by omega)
  have k1 : ¬ (n : Int) < 1 := by omega
  have k2 : ¬ (512 : Int) < (n : Int) := by omega
  go_enter Try.func9, Try.ntmps9
  go_wp2_with fail
  go_region
  all_goals go_wp2
  all_goals go_ret
  all_goals clear hmk hmb
  · exact ref_new w _ n _ _ _ _ h1 h2 (three_new w.drew n).1.1 (three_new w.drew n).1.2.1 (three_new w.drew n).1.2.2 (by first | (simp; done) | (simp; omega)) (by first | (simp; done) | (simp; omega)) (by first | (simp; done) | (simp; omega)) (by first | (simp; done) | (simp; omega)) (by first | (simp; done) | (simp; omega)) (by first | (simp; done) | (simp; omega)) (three_below w _ _ _) (by first | (simp; done) | (simp; omega)) (by first | (simp; done) | (simp; omega)) (by first | (simp; done) | (simp; omega)) (by first | (simp; done) | (simp; omega))
  · exact ref_new w _ n _ _ _ _ h1 h2 (three_new w.drew n).2.1.1 (three_new w.drew n).2.1.2.1 (three_new w.drew n).2.1.2.2 (by first | (simp; done) | (simp; omega)) (by first | (simp; done) | (simp; omega)) (by first | (simp; done) | (simp; omega)) (by first | (simp; done) | (simp; omega)) (by first | (simp; done) | (simp; omega)) (by first | (simp; done) | (simp; omega)) (three_below w _ _ _) (by first | (simp; done) | (simp; omega)) (by first | (simp; done) | (simp; omega)) (by first | (simp; done) | (simp; omega)) (by first | (simp; done) | (simp; omega))
  · exact ref_new w _ n _ _ _ _ h1 h2 (three_new w.drew n).1.2.1 (three_new w.drew n).1.1 (three_new w.drew n).1.2.2 (by first | (simp; done) | (simp; omega)) (by first | (simp; done) | (simp; omega)) (by first | (simp; done) | (simp; omega)) (by first | (simp; done) | (simp; omega)) (by first | (simp; done) | (simp; omega)) (by first | (simp; done) | (simp; omega)) (three_below w _ _ _) (by first | (simp; done) | (simp; omega)) (by first | (simp; done) | (simp; omega)) (by first | (simp; done) | (simp; omega)) (by first | (simp; done) | (simp; omega))
  · exact ref_new w _ n _ _ _ _ h1 h2 (three_new w.drew n).2.1.2.1 (three_new w.drew n).2.1.1 (three_new w.drew n).2.1.2.2 (by first | (simp; done) | (simp; omega)) (by first | (simp; done) | (simp; omega)) (by first | (simp; done) | (simp; omega)) (by first | (simp; done) | (simp; omega)) (by first | (simp; done) | (simp; omega)) (by first | (simp; done) | (simp; omega)) (three_below w _ _ _) (by first | (simp; done) | (simp; omega)) (by first | (simp; done) | (simp; omega)) (by first | (simp; done) | (simp; omega)) (by first | (simp; done) | (simp; omega))
  · exact ref_new w _ n _ _ _ _ h1 h2 (three_new w.drew n).2.2.1 (three_new w.drew n).2.2.2.1 (three_new w.drew n).2.2.2.2 (by first | (simp; done) | (simp; omega)) (by first | (simp; done) | (simp; omega)) (by first | (simp; done) | (simp; omega)) (by first | (simp; done) | (simp; omega)) (by first | (simp; done) | (simp; omega)) (by first | (simp; done) | (simp; omega)) (three_below w _ _ _) (by first | (simp; done) | (simp; omega)) (by first | (simp; done) | (simp; omega)) (by first | (simp; done) | (simp; omega)) (by first | (simp; done) | (simp; omega))
  · exact ref_new w _ n _ _ _ _ h1 h2 (three_new w.drew n).2.2.2.1 (three_new w.drew n).2.2.1 (three_new w.drew n).2.2.2.2 (by first | (simp; done) | (simp; omega)) (by first | (simp; done) | (simp; omega)) (by first | (simp; done) | (simp; omega)) (by first | (simp; done) | (simp; omega)) (by first | (simp; done) | (simp; omega)) (by first | (simp; done) | (simp; omega)) (three_below w _ _ _) (by first | (simp; done) | (simp; omega)) (by first | (simp; done) | (simp; omega)) (by first | (simp; done) | (simp; omega)) (by first | (simp; done) | (simp; omega))
end Go.Proofs.Ytaiikpfgnamgiaa
