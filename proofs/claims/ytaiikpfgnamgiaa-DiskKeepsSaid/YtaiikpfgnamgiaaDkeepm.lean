/-
  DiskKeeps: what a crash keeps of each page, and of how many; the disk beside two arrays of pages.
-/
import Derived.Test.YtaiikpfgnamgiaaDplaym
namespace Go.Proofs.Ytaiikpfgnamgiaa
open Go.RowKit
open Dk (zeros zeros_length)

/-! ### a page behind a crash -/
def after (s : Dk.St) (keep : List UInt8) (i : Nat) : List UInt8 := Dk.lastAt (Dk.crash s keep) i
theorem crashTo_stays (s : Dk.St) (keep : List UInt8) (i : Nat) : ∀ k, i < k → (Dk.crashTo s keep k).1[i]? = (Dk.crashTo s keep (i + 1)).1[i]?
  | 0, h => by omega
  | k + 1, h => by
    by_cases e : i = k
    · subst e; rfl
    · have ih := crashTo_stays s keep i k (by omega)
      rw [Dk.crashTo]
      rcases Dk.crashOne_cases s k (Dk.crashTo s keep k) with e1 | ⟨p, c, r, _, _, e1⟩
      · rw [e1]; exact ih
      · rw [e1, List.getElem?_set, if_neg (by omega)]; exact ih
theorem after_at {s : Dk.St} (keep : List UInt8) {i : Nat} (hi : i < s.last.length) : (Dk.crashTo s keep (i + 1)).1[i]? = some (after s keep i) := by
  have h1 := crashTo_stays s keep i s.last.length hi
  rw [← h1]
  unfold after Dk.lastAt
  show _ = some ((Dk.crashTo s keep s.last.length).1.getD i [])
  rw [List.getD_eq_getElem?_getD, List.getElem?_eq_getElem (by rw [Dk.crashTo_len]; exact hi)]; rfl
/-- one page: as it was, or torn, and then a choice is spent -/
theorem after_cases {s : Dk.St} (keep : List UInt8) {i : Nat} (hi : i < s.last.length) :
    (after s keep i = Dk.lastAt s i ∧ (Dk.crashTo s keep (i + 1)).2.length ≤ (Dk.crashTo s keep i).2.length) ∨
    ∃ p c, Dk.cacheAt s i = some p ∧ after s keep i = Dk.torn (Dk.lastAt s i) p c ∧ (Dk.crashTo s keep (i + 1)).2.length + 1 = (Dk.crashTo s keep i).2.length := by
  have ha := after_at keep hi
  rw [Dk.crashTo] at ha ⊢
  rcases Dk.crashOne_cases s i (Dk.crashTo s keep i) with e | ⟨p, c, r, hp, hr, e⟩
  · left
    rw [e, crash_row_at hi] at ha
    injection ha with ha
    exact ⟨ha.symm, by rw [e]; exact Nat.le_refl _⟩
  · right
    rw [e, List.getElem?_set, if_pos rfl, if_pos (by rw [Dk.crashTo_len]; exact hi)] at ha
    injection ha with ha
    exact ⟨p, c, hp, ha.symm, by rw [e, hr]; rfl⟩
/-- a beginning of what was written, and the rest as it was -/
theorem after_mixed {s : Dk.St} (_h : s.Ok) (keep : List UInt8) {i : Nat} (hi : i < s.last.length) : ∃ m, m ≤ 64 ∧ after s keep i = (Dk.nowAt s i).take m ++ (Dk.lastAt s i).drop m := by
  rcases after_cases keep hi with ⟨e, _⟩ | ⟨p, c, hp, e, _⟩
  · exact ⟨0, by omega, by rw [e, List.take_zero, List.nil_append, List.drop_zero]⟩
  · refine ⟨c.toNat % 65, Nat.le_of_lt_succ (Nat.mod_lt _ (by omega)), ?_⟩
    rw [e]
    unfold Dk.torn Dk.nowAt
    rw [hp]; rfl
theorem after_len {s : Dk.St} (h : s.Ok) (keep : List UInt8) {i : Nat} (hi : i < s.last.length) : (after s keep i).length = 64 := Dk.lastAt_len (Dk.crash_ok h keep) (by rw [Dk.crash_len]; exact hi)
/-- how many pages are others -/
def tornTo (s : Dk.St) (keep : List UInt8) : Nat → Nat
  | 0 => 0
  | k + 1 => tornTo s keep k + if after s keep k = Dk.lastAt s k then 0 else 1
theorem tornTo_le (s : Dk.St) (keep : List UInt8) : ∀ k, tornTo s keep k ≤ k
  | 0 => Nat.le_refl _
  | k + 1 => by
    have := tornTo_le s keep k
    rw [tornTo]
    split <;> omega
theorem tornTo_cached {s : Dk.St} (h : s.Ok) (keep : List UInt8) : ∀ k, k ≤ s.last.length → tornTo s keep k ≤ (s.cache.take k).countP (·.isSome)
  | 0, _ => Nat.zero_le _
  | k + 1, hk => by
    have ih := tornTo_cached h keep k (by omega)
    have hkc : k < s.cache.length := by rw [h.same]; omega
    rw [tornTo, List.take_succ_eq_append_getElem hkc, List.countP_append]
    split
    · omega
    · rename_i hne
      rcases after_cases keep (show k < s.last.length by omega) with ⟨e, _⟩ | ⟨p, c, hp, _, _⟩
      · exact absurd e hne
      · have : s.cache[k] = some p := by
          unfold Dk.cacheAt at hp
          rw [List.getD_eq_getElem?_getD, List.getElem?_eq_getElem hkc] at hp
          exact hp
        rw [this]
        simp
        omega
theorem tornTo_kept {s : Dk.St} (keep : List UInt8) : ∀ k, k ≤ s.last.length → tornTo s keep k + (Dk.crashTo s keep k).2.length ≤ keep.length
  | 0, _ => by show 0 + keep.length ≤ _; omega
  | k + 1, hk => by
    have ih := tornTo_kept (s := s) keep k (by omega)
    rw [tornTo]
    rcases after_cases keep (show k < s.last.length by omega) with ⟨e, h1⟩ | ⟨p, c, _, _, h1⟩
    · rw [if_pos e]; omega
    · split <;> omega
theorem torn_cached {s : Dk.St} (h : s.Ok) (keep : List UInt8) : tornTo s keep s.last.length ≤ Dk.count s := by
  have := tornTo_cached h keep s.last.length (Nat.le_refl _)
  rw [List.take_of_length_le (by rw [h.same]; exact Nat.le_refl _)] at this
  exact this
theorem torn_kept {s : Dk.St} (keep : List UInt8) : tornTo s keep s.last.length ≤ keep.length := by
  have := tornTo_kept (s := s) keep s.last.length (Nat.le_refl _)
  omega
/-- behind a crash -/
theorem crash_reach (s : Dk.St) (keep : List UInt8) {i : Nat} (hi : i < s.last.length) : Dk.reachE (Dk.crash s keep) (i : Int) = 0 := Dk.reach_mk rfl (by rw [Dk.crash_len]; exact Dk.has_mk hi)
theorem crash_cacheAt (s : Dk.St) (keep : List UInt8) (i : Nat) : Dk.cacheAt (Dk.crash s keep) i = none := by
  unfold Dk.cacheAt Dk.crash
  rw [List.getD_eq_getElem?_getD, List.getElem?_replicate]
  split <;> rfl
theorem crash_read (s : Dk.St) (keep : List UInt8) {i : Nat} (hi : i < s.last.length) : Dk.readP (Dk.crash s keep) (i : Int) = after s keep i := by
  unfold Dk.readP
  rw [if_pos (crash_reach s keep hi), Int.toNat_natCast]
  unfold Dk.nowAt
  rw [crash_cacheAt]; rfl
theorem crash_lasts (s : Dk.St) (keep : List UInt8) {i : Nat} (hi : i < s.last.length) : Dk.lastsP (Dk.crash s keep) (i : Int) = after s keep i := by
  unfold Dk.lastsP
  rw [if_pos (by rw [Dk.crash_len]; exact Dk.has_mk hi), Int.toNat_natCast]; rfl
theorem crash_count (s : Dk.St) (keep : List UInt8) : Dk.count (Dk.crash s keep) = 0 := by
  unfold Dk.count Dk.crash
  simp [List.countP_replicate]

/-! ### the disk beside two arrays of pages -/
structure KS (w0 : World) (d l m x y : Nat) (s : Dk.St) (L M : List (List UInt8)) (W : World) : Prop where
  live : Live w0 d l m s W
  rx : RowsAt W x L
  ry : RowsAt W y M
  xlt : x < W.heap.size
  ylt : y < W.heap.size
  xn : x ∉ [d, l, m]
  yn : y ∉ [d, l, m]
  xy : x ≠ y
  ox : w0.heap.size ≤ x
  oy : w0.heap.size ≤ y
theorem KS.byBelow {w0 : World} {d l m x y : Nat} {s : Dk.St} {L M : List (List UInt8)} {W W' : World} (h : KS w0 d l m x y s L M W) (hb : Below W.heap.size W W') : KS w0 d l m x y s L M W' :=
  ⟨h.live.byBelow hb, h.rx.block (hb.block x h.xlt), h.ry.block (hb.block y h.ylt), Nat.lt_of_lt_of_le h.xlt hb.size, Nat.lt_of_lt_of_le h.ylt hb.size, h.xn, h.yn, h.xy, h.ox, h.oy⟩
theorem KS.drewN {w0 : World} {d l m x y : Nat} {s : Dk.St} {L M : List (List UInt8)} {W : World} (h : KS w0 d l m x y s L M W) (k : Nat) : KS w0 d l m x y s L M (W.drewN k) :=
  h.byBelow ⟨rfl, rfl, rfl, Nat.le_refl _, fun _ _ => rfl⟩
theorem KS.byOnly {w0 : World} {d l m x y : Nat} {s s' : Dk.St} {L M : List (List UInt8)} {W W' : World} {Z : List Nat} (h : KS w0 d l m x y s L M W) (hd : DiskAt W' d l m s') (ho : Only Z W W') (hZ : ∀ k ∈ Z, k ∈ [d, l, m]) : KS w0 d l m x y s' L M W' where
  live := h.live.byOnly hd ho (fun k hk => by have := hZ k hk; simpa using this)
  rx := h.rx.block (ho.block x h.xlt (fun e => h.xn (hZ x e)))
  ry := h.ry.block (ho.block y h.ylt (fun e => h.yn (hZ y e)))
  xlt := Nat.lt_of_lt_of_le h.xlt ho.size
  ylt := Nat.lt_of_lt_of_le h.ylt ho.size
  xn := h.xn
  yn := h.yn
  xy := h.xy
  ox := h.ox
  oy := h.oy
theorem Live.byOther {w0 : World} {d l m x : Nat} {s : Dk.St} {W W' : World} (h : Live w0 d l m s W) (ho : Only [x] W W') (hx : x ∉ [d, l, m]) (hx0 : w0.heap.size ≤ x) : Live w0 d l m s W' := by
  simp at hx
  exact ⟨h.disk.only ho (by simp; omega) (by simp; omega) (by simp; omega), Only.toBelowOld h.below ho h.below.size (fun k hk => by simp at hk; omega), h.old⟩
theorem KS.putX {w0 : World} {d l m x y : Nat} {s : Dk.St} {L M : List (List UInt8)} {W : World} (h : KS w0 d l m x y s L M W) (i : Nat) (hi : i < L.length) (p : List UInt8) (hp : p.length = 64) : KS w0 d l m x y s (L.set i p) M (W.setCells x (i * 64) (byteVals p)) := by
  have ho : Only [x] W (W.setCells x (i * 64) (byteVals p)) := Only.setCells x (by simp) _ _ _ (Only.refl _ _)
  exact ⟨h.live.byOther ho h.xn h.ox, h.rx.put i hi p hp, h.ry.block (heap_setCells_other x _ _ W y (Ne.symm h.xy)), by rw [heap_setCells]; exact h.xlt, by rw [heap_setCells]; exact h.ylt, h.xn, h.yn, h.xy, h.ox, h.oy⟩
theorem KS.putY {w0 : World} {d l m x y : Nat} {s : Dk.St} {L M : List (List UInt8)} {W : World} (h : KS w0 d l m x y s L M W) (i : Nat) (hi : i < M.length) (p : List UInt8) (hp : p.length = 64) : KS w0 d l m x y s L (M.set i p) (W.setCells y (i * 64) (byteVals p)) := by
  have ho : Only [y] W (W.setCells y (i * 64) (byteVals p)) := Only.setCells y (by simp) _ _ _ (Only.refl _ _)
  exact ⟨h.live.byOther ho h.yn h.oy, h.rx.block (heap_setCells_other y _ _ W x h.xy), h.ry.put i hi p hp, by rw [heap_setCells]; exact h.xlt, by rw [heap_setCells]; exact h.ylt, h.xn, h.yn, h.xy, h.ox, h.oy⟩
theorem zero8 (w : World) : (zeroValue 52).run Try.prog w = .ok (.agg (zeroRow 8)) w := by kernel_rfl
theorem KS.start {w0 : World} {d l m : Nat} {s : Dk.St} {W : World} (h : Live w0 d l m s W) (t : TypeId) : KS w0 d l m W.heap.size (W.heap.size + 1) s (List.replicate 8 zeros) (List.replicate 8 zeros) ((W.alloc (.cells (zeroRow 8) t)).alloc (.cells (zeroRow 8) t)) where
  live := (h.byAlloc _).byAlloc _
  rx := (rowsAt_new W 8 t).alloc (by simp) _
  ry := by
    have := rowsAt_new (W.alloc (.cells (zeroRow 8) t)) 8 t
    simpa using this
  xlt := by simp; omega
  ylt := by simp
  xn := fun e => by have := h.lts _ e; omega
  yn := fun e => by have := h.lts _ e; omega
  xy := by omega
  ox := h.below.size
  oy := by have := h.below.size; omega
/-- one byte of a row -/
theorem RowsAt.byte {w : World} {b : Nat} {ps : List (List UInt8)} (h : RowsAt w b ps) {i : Nat} {p : List UInt8} (hi : ps[i]? = some p) {t : Nat} (ht : t < 64) : w.cell? ⟨b, i * 64 + t, none⟩ = some (.int .u8 ((p.getD t 0).toNat : Int)) := by
  have hpl := h.size p (List.mem_of_getElem? hi)
  refine h.range i p hi t _ ?_
  rw [byteVals_at p t (by omega), List.getD_eq_getElem?_getD, List.getElem?_eq_getElem (show t < p.length by omega)]; rfl
/-- of a page that begins as one and goes on as another: where it parts from the one it is the other -/
theorem mixed_parts {p n q : List UInt8} {m : Nat} (hn : n.length = 64) (_hq : q.length = 64) (hm : m ≤ 64) (h : p = n.take m ++ q.drop m) (t : Nat) (_ht : t < 64) : (t < m → p.getD t 0 = n.getD t 0) ∧ (m ≤ t → p.getD t 0 = q.getD t 0) := by
  have hl : (n.take m).length = m := by rw [List.length_take]; omega
  refine ⟨fun h1 => ?_, fun h1 => ?_⟩
  · rw [h, List.getD_eq_getElem?_getD, List.getElem?_append_left (by omega), List.getElem?_take, if_pos h1, List.getD_eq_getElem?_getD]
  · rw [h, List.getD_eq_getElem?_getD, List.getElem?_append_right (by omega), hl, List.getElem?_drop, show m + (t - m) = t by omega, List.getD_eq_getElem?_getD]
end Go.Proofs.Ytaiikpfgnamgiaa
