/- Texts of the proof. -/
import Derived.Test.YtmpfcgjjejlhdaaGreatBab
import Derived.Maps.OwnSet
import Derived.Maps.OwnOps
import Derived.Test.YtmpfcgjjejlhdaaGreatBai
import Derived.Test.YtmpfcgjjejlhdaaGreatBaf
import Derived.Test.YtmpfcgjjejlhdaaGreatBam
import Derived.Test.YtmpfcgjjejlhdaaGreatBah
set_option maxRecDepth 100000
set_option maxHeartbeats 16000000
namespace Go.Proofs.YtmpfcgjjejlhdaaGreat
namespace Nm
open Go.Proofs.YtmpfcgjjejlhdaaGreat.Pg
def bad (c : UInt8) : Bool := c == 0 || c == 47
def badB (s : List UInt8) : Bool := s.any bad
def chk (s : List UInt8) : Int := if s.length = 0 then 2 else if 13 < s.length then 36 else if s = [46] ∨ s = [46, 46] ∨ badB s = true then 22 else 0
def okB (s : List UInt8) : Bool := decide (chk s = 0)
def rightB (n : Int) (s : List UInt8) : Bool := decide (1 ≤ n ∧ n ≤ 65535 ∧ chk s = 0)
def zeroB (n : Int) (s : List UInt8) : Bool := decide (n = 0 ∧ s = [])
def standB (n : Int) (s : List UInt8) : Bool := zeroB n s || rightB n s
theorem chk_len {s : List UInt8} (h : chk s = 0) : 1 ≤ s.length ∧ s.length ≤ 13 := by
  unfold chk at h
  split at h
  · omega
  · split at h
    · omega
    · omega
theorem right_yes {n : Int} {s : List UInt8} (h : rightB n s = true) : 1 ≤ n ∧ n ≤ 65535 ∧ chk s = 0 := of_decide_eq_true h
theorem zero_yes {n : Int} {s : List UInt8} (h : zeroB n s = true) : n = 0 ∧ s = [] := of_decide_eq_true h
theorem stand_yes {n : Int} {s : List UInt8} (h : standB n s = true) : (n = 0 ∧ s = []) ∨ (1 ≤ n ∧ n ≤ 65535 ∧ chk s = 0) := by
  unfold standB at h
  rw [Bool.or_eq_true] at h
  exact h.imp zero_yes right_yes
theorem stand_bd {n : Int} {s : List UInt8} (h : standB n s = true) : 0 ≤ n ∧ n ≤ 65535 ∧ s.length ≤ 13 := by
  rcases stand_yes h with ⟨rfl, rfl⟩ | ⟨h1, h2, h3⟩
  · exact ⟨by omega, by omega, by simp⟩
  · exact ⟨by omega, h2, (chk_len h3).2⟩
def zs (k : Nat) : List UInt8 := List.replicate k 0
theorem zs_length (k : Nat) : (zs k).length = k := List.length_replicate
def slot (n : Int) (s : List UInt8) : List UInt8 := byteAt 1 n :: byteAt 0 n :: byteAt 0 s.length :: (s ++ zs (13 - s.length))
theorem slot_length (n : Int) {s : List UInt8} (h : s.length ≤ 13) : (slot n s).length = 16 := by
  unfold slot
  simp [zs_length]
  omega
theorem slot_zero : slot 0 [] = zs 16 := by decide
def at_ (p : List UInt8) (i : Nat) : List UInt8 := (p.drop (16 * i)).take 16
theorem at_length {p : List UInt8} (hp : p.length = 64) {i : Nat} (hi : i < 4) : (at_ p i).length = 16 := by
  unfold at_
  simp
  omega
def lay (p : List UInt8) (i : Nat) (b : List UInt8) : List UInt8 := over p (16 * i) b
theorem lay_length {p b : List UInt8} (hp : p.length = 64) {i : Nat} (hi : i < 4) (hb : b.length = 16) : (lay p i b).length = 64 := by
  unfold lay
  rw [over_length _ _ _ (by omega), hp]
theorem at_lay {p b : List UInt8} (hp : p.length = 64) {i : Nat} (hi : i < 4) (hb : b.length = 16) : at_ (lay p i b) i = b := by
  unfold at_ lay
  have := over_back p (16 * i) b (by omega)
  rw [hb] at this
  exact this
theorem at_get (p : List UInt8) (i j : Nat) : (at_ p i)[j]? = if j < 16 then p[16 * i + j]? else none := by
  unfold at_
  rw [List.getElem?_take]
  split
  · rw [List.getElem?_drop]
  · rfl
theorem lay_at {p : List UInt8} (hp : p.length = 64) {i : Nat} (hi : i < 4) : lay p i (at_ p i) = p := by
  apply List.ext_getElem?
  intro j
  unfold lay
  rw [over_at _ _ _ _ (by rw [at_length hp hi]; omega), at_length hp hi]
  split
  · rfl
  · split
    · rw [at_get, if_pos (by omega)]
      congr 1
      omega
    · rfl
theorem lay_eq {p b : List UInt8} (hp : p.length = 64) {i : Nat} (hi : i < 4) (hb : b.length = 16) : lay p i b = p ↔ b = at_ p i := by
  constructor
  · intro h
    have := at_lay (b := b) hp hi hb
    rw [h] at this
    exact this.symm
  · intro h
    rw [h]
    exact lay_at hp hi
theorem over_over (p : List UInt8) (a : Nat) (t : List UInt8) (k : Nat) (s : List UInt8) (h1 : k + s.length ≤ t.length) (h2 : a + t.length ≤ p.length) : over (over p a t) (a + k) s = over p a (over t k s) := by
  apply List.ext_getElem?
  intro j
  rw [over_at _ _ _ _ (by rw [over_length _ _ _ h2]; omega), over_at _ _ _ _ h2, over_at p a _ _ (by rw [over_length _ _ _ h1]; exact h2), over_length _ _ _ h1, over_at _ _ _ _ h1]
  by_cases c1 : j < a
  · rw [if_pos (by omega), if_pos c1, if_pos c1]
  · rw [if_neg c1, if_neg c1]
    by_cases c2 : j < a + t.length
    · rw [if_pos c2, if_pos c2]
      by_cases c3 : j < a + k
      · rw [if_pos c3, if_pos (by omega)]
      · rw [if_neg c3, if_neg (show ¬ j - a < k by omega)]
        by_cases c4 : j < a + k + s.length
        · rw [if_pos c4, if_pos (show j - a < k + s.length by omega)]
          congr 1
          omega
        · rw [if_neg c4, if_neg (show ¬ j - a < k + s.length by omega)]
    · rw [if_neg c2, if_neg c2, if_neg (by omega), if_neg (by omega)]
def put1 (p : List UInt8) (i : Nat) : List UInt8 := over p (16 * i) (zs 16)
def put2 (p : List UInt8) (i : Nat) (n : Int) : List UInt8 := setN (put1 p i) (16 * i : Nat) 2 n
def put3 (p : List UInt8) (i : Nat) (n : Int) (k : Nat) : List UInt8 := setN (put2 p i n) ((16 * i : Nat) + 2) 1 k
def put4 (p : List UInt8) (i : Nat) (n : Int) (s : List UInt8) : List UInt8 := setTextN (put3 p i n s.length) ((16 * i : Nat) + 3) s
theorem put1_length {p : List UInt8} (hp : p.length = 64) {i : Nat} (hi : i < 4) : (put1 p i).length = 64 := by
  unfold put1
  rw [over_length _ _ _ (by rw [zs_length]; omega), hp]
theorem put2_length {p : List UInt8} (hp : p.length = 64) {i : Nat} (hi : i < 4) (n : Int) : (put2 p i n).length = 64 := setN_length _ _ _ _ (put1_length hp hi)
theorem put3_length {p : List UInt8} (hp : p.length = 64) {i : Nat} (hi : i < 4) (n : Int) (k : Nat) : (put3 p i n k).length = 64 := setN_length _ _ _ _ (put2_length hp hi n)
theorem put4_length {p : List UInt8} (hp : p.length = 64) {i : Nat} (hi : i < 4) (n : Int) (s : List UInt8) : (put4 p i n s).length = 64 := setTextN_length _ _ _ (put3_length hp hi n _)
theorem over_two (n : Int) : over (zs 16) 0 (bytesN 2 n) = byteAt 1 n :: byteAt 0 n :: zs 14 := rfl
theorem over_three (x y c : UInt8) : over (x :: y :: zs 14) 2 [c] = x :: y :: c :: zs 13 := rfl
theorem over_four (x y c : UInt8) (s : List UInt8) (_h : s.length ≤ 13) : over (x :: y :: c :: zs 13) 3 s = x :: y :: c :: (s ++ zs (13 - s.length)) := by
  unfold over
  rw [Nat.add_comm 3 s.length, List.drop_succ_cons, List.drop_succ_cons, List.drop_succ_cons]
  show [x, y, c] ++ (s ++ List.drop s.length (zs 13)) = _
  unfold zs
  rw [List.drop_replicate]
  rfl
theorem put4_eq {p : List UInt8} (hp : p.length = 64) {i : Nat} (hi : i < 4) (n : Int) {s : List UInt8} (hs : s.length ≤ 13) : put4 p i n s = lay p i (slot n s) := by
  have h2 : put2 p i n = over p (16 * i) (byteAt 1 n :: byteAt 0 n :: zs 14) := by
    unfold put2 put1 setN
    rw [if_pos (num_mk (by omega) (by omega) (by omega) (by omega)), Int.toNat_natCast]
    have := over_over p (16 * i) (zs 16) 0 (bytesN 2 n) (by rw [bytesN_length, zs_length]; omega) (by rw [zs_length]; omega)
    rw [over_two, Nat.add_zero] at this
    exact this
  have h3 : put3 p i n s.length = over p (16 * i) (byteAt 1 n :: byteAt 0 n :: byteAt 0 s.length :: zs 13) := by
    unfold put3 setN
    rw [if_pos (num_mk (by omega) (by omega) (by omega) (by omega)), h2]
    have := over_over p (16 * i) (byteAt 1 n :: byteAt 0 n :: zs 14) 2 [byteAt 0 s.length] (by simp [zs_length]) (by simp [zs_length]; omega)
    rw [over_three] at this
    exact this
  unfold put4 setTextN
  rw [if_pos (ins_mk (by omega) (by omega) (by omega)), h3]
  have := over_over p (16 * i) (byteAt 1 n :: byteAt 0 n :: byteAt 0 s.length :: zs 13) 3 s (by simp [zs_length]; omega) (by simp [zs_length]; omega)
  rw [over_four _ _ _ _ hs] at this
  exact this
def ent (b : List UInt8) : Option (Int × List UInt8) :=
  if b = zs 16 then some (0, [])
  else if 13 < (b.getD 2 0).toNat then none
  else if rightB (numOf (b.take 2)) ((b.drop 3).take (b.getD 2 0).toNat) = true ∧ slot (numOf (b.take 2)) ((b.drop 3).take (b.getD 2 0).toNat) = b then some (numOf (b.take 2), (b.drop 3).take (b.getD 2 0).toNat)
  else none
def entN (o : Option (Int × List UInt8)) : Int := (o.getD (0, [])).1
def entS (o : Option (Int × List UInt8)) : List UInt8 := (o.getD (0, [])).2
theorem byteAt0_small (k : Nat) (h : k < 256) : (byteAt 0 (k : Int)).toNat = k := by
  have := byteAt_nat 0 (k : Int)
  rw [Int.pow_zero, Int.ediv_one] at this
  omega
theorem numOf_two (n : Int) (h0 : 0 ≤ n) (h1 : n ≤ 65535) : numOf [byteAt 1 n, byteAt 0 n] = n := by
  have := numOf_bytesN 2 n
  rw [show bytesN 2 n = [byteAt 1 n, byteAt 0 n] from rfl] at this
  rw [this]
  omega
theorem slot_two (n : Int) (s : List UInt8) : (slot n s).getD 2 0 = byteAt 0 s.length := rfl
theorem slot_name (n : Int) {s : List UInt8} (h : s.length ≤ 13) : ((slot n s).drop 3).take (byteAt 0 (s.length : Int)).toNat = s := by
  rw [byteAt0_small _ (by omega)]
  show (s ++ zs (13 - s.length)).take s.length = s
  exact List.take_left' rfl
theorem slot_num (n : Int) (s : List UInt8) : (slot n s).take 2 = [byteAt 1 n, byteAt 0 n] := rfl
theorem ent_slot {n : Int} {s : List UInt8} (h : standB n s = true) : ent (slot n s) = some (n, s) := by
  rcases stand_yes h with ⟨rfl, rfl⟩ | ⟨h1, h2, h3⟩
  · rw [slot_zero]; rfl
  · have hl := chk_len h3
    have hne : slot n s ≠ zs 16 := by
      intro e
      have := slot_num n s
      rw [e] at this
      have h0 := numOf_two n (by omega) h2
      rw [← this] at h0
      have : numOf ((zs 16).take 2) = 0 := by decide
      omega
    unfold ent
    rw [if_neg hne, slot_two, slot_name n hl.2, slot_num, numOf_two n (by omega) h2, byteAt0_small _ (by omega), if_neg (by omega), if_pos ⟨decide_eq_true ⟨h1, h2, h3⟩, rfl⟩]
theorem ent_stand {b : List UInt8} {n : Int} {s : List UInt8} (h : ent b = some (n, s)) : standB n s = true ∧ slot n s = b := by
  unfold ent at h
  split at h
  · injection h with h
    injection h with h1 h2
    subst h1 h2
    exact ⟨rfl, by rw [slot_zero]; exact (by assumption : b = _).symm⟩
  · split at h
    · cases h
    · split at h
      · rename_i h'
        injection h with h
        injection h with h1 h2
        subst h1 h2
        exact ⟨by unfold standB; rw [h'.1, Bool.or_true], h'.2⟩
      · cases h
def num (p : List UInt8) (i : Nat) : Int := getN p (16 * i : Nat) 2
def len (p : List UInt8) (i : Nat) : Int := getN p ((16 * i : Nat) + 2) 1
def name (p : List UInt8) (i : Nat) : List UInt8 := textN p ((16 * i : Nat) + 3) (len p i)
theorem num_at {p : List UInt8} {i : Nat} (hi : i < 4) : num p i = numOf ((at_ p i).take 2) := by
  unfold num getN at_
  rw [if_pos (num_mk (by omega) (by omega) (by omega) (by omega)), Int.toNat_natCast, List.take_take]
  rfl
theorem one_at {p : List UInt8} (hp : p.length = 64) {k : Nat} (hk : k < 64) : numOf ((p.drop k).take 1) = ((p.getD k 0).toNat : Int) := by
  rw [List.drop_eq_getElem_cons (by omega), List.take_succ_cons, List.take_zero, List.getD_eq_getElem?_getD, List.getElem?_eq_getElem (by omega)]
  unfold numOf
  simp
theorem len_at {p : List UInt8} (hp : p.length = 64) {i : Nat} (hi : i < 4) : len p i = (((at_ p i).getD 2 0).toNat : Int) := by
  unfold len getN
  rw [if_pos (num_mk (by omega) (by omega) (by omega) (by omega))]
  have := one_at hp (k := 16 * i + 2) (by omega)
  rw [show (((16 * i : Nat) : Int) + 2).toNat = 16 * i + 2 by omega, show (1 : Int).toNat = 1 from rfl, this, List.getD_eq_getElem?_getD, List.getD_eq_getElem?_getD, at_get, if_pos (by omega)]
theorem len_bd {p : List UInt8} (hp : p.length = 64) {i : Nat} (hi : i < 4) : 0 ≤ len p i ∧ len p i ≤ 255 := by
  rw [len_at hp hi]
  have := ((at_ p i).getD 2 0).toNat_lt
  omega
theorem name_near {p : List UInt8} (hp : p.length = 64) {i : Nat} (hi : i < 4) (h : len p i ≤ 13) : name p i = ((at_ p i).drop 3).take ((at_ p i).getD 2 0).toNat := by
  have hl := len_at hp hi
  unfold name textN
  rw [if_pos (ins_mk (by omega) (by omega) (by omega)), hl]
  apply List.ext_getElem?
  intro j
  rw [List.getElem?_take, List.getElem?_take, Int.toNat_natCast, List.getElem?_drop, List.getElem?_drop, at_get]
  split
  · rw [if_pos (by omega), show (((16 * i : Nat) : Int) + 3).toNat + j = 16 * i + (3 + j) by omega]
  · rfl
theorem name_length {p : List UInt8} (hp : p.length = 64) (i : Nat) : (name p i).length ≤ 64 := by
  unfold name textN
  split
  · simp; omega
  · simp
theorem ent_code {p : List UInt8} (hp : p.length = 64) {i : Nat} (hi : i < 4) :
    ent (at_ p i) = if standB (num p i) (name p i) = true ∧ put4 p i (num p i) (name p i) = p then some (num p i, name p i) else none := by
  have hal := at_length hp hi
  by_cases hs : standB (num p i) (name p i) = true
  · have hb := stand_bd hs
    have hk : put4 p i (num p i) (name p i) = p ↔ slot (num p i) (name p i) = at_ p i := by
      rw [put4_eq hp hi _ hb.2.2, lay_eq hp hi (slot_length _ hb.2.2)]
    by_cases he : slot (num p i) (name p i) = at_ p i
    · rw [if_pos ⟨hs, hk.2 he⟩, ← he]
      exact ent_slot hs
    · rw [if_neg (fun h => he (hk.1 h.2))]
      cases hn : ent (at_ p i) with
      | none => rfl
      | some x =>
        obtain ⟨n, s⟩ := x
        obtain ⟨h1, h2⟩ := ent_stand hn
        exfalso
        apply he
        have hb' := stand_bd h1
        have hl := len_at hp hi
        rw [← h2, slot_two, byteAt0_small _ (by omega)] at hl
        rw [name_near hp hi (by omega), num_at hi, ← h2, slot_two, slot_name n hb'.2.2, slot_num, numOf_two n hb'.1 hb'.2.1]
  · rw [if_neg (fun h => hs h.1)]
    cases hn : ent (at_ p i) with
    | none => rfl
    | some x =>
      obtain ⟨n, s⟩ := x
      obtain ⟨h1, h2⟩ := ent_stand hn
      exfalso
      apply hs
      have hb' := stand_bd h1
      have hl := len_at hp hi
      rw [← h2, slot_two, byteAt0_small _ (by omega)] at hl
      rw [name_near hp hi (by omega), num_at hi, ← h2, slot_two, slot_name n hb'.2.2, slot_num, numOf_two n hb'.1 hb'.2.1]
      exact h1
end Nm

namespace Dm
open List (Perm)
abbrev Ent := Int × List UInt8
abbrev Has := List (List UInt8 × Int)
def used (e : Ent) : Bool := decide (e.1 ≠ 0)
def hits (s : List UInt8) (e : Ent) : Bool := used e && decide (e.2 = s)
def live (E : List Ent) : List Ent := E.filter used
def spot (E : List Ent) (s : List UInt8) : Option Nat := E.findIdx? (hits s)
def room (E : List Ent) : Option Nat := E.findIdx? (fun e => !used e)
def addE (E : List Ent) (n : Int) (s : List UInt8) : List Ent := match room E with
  | some i => E.set i (n, s)
  | none => E ++ [(n, s), (0, []), (0, []), (0, [])]
def swap (e : Ent) : List UInt8 × Int := (e.2, e.1)
def look (H : Has) (s : List UInt8) : Option Int := (H.find? fun e => decide (e.1 = s)).map (·.2)
def putH (H : Has) (s : List UInt8) (n : Int) : Has := if (look H s).isSome then H.map (fun e => if e.1 = s then (s, n) else e) else H ++ [(s, n)]
def delH (H : Has) (s : List UInt8) : Has := H.filter fun e => decide (e.1 ≠ s)
theorem first_split {p : Ent → Bool} {E : List Ent} {i : Nat} (h : E.findIdx? p = some i) : ∃ a e b, E = a ++ e :: b ∧ a.length = i ∧ p e = true ∧ ∀ y ∈ a, p y = false := by
  obtain ⟨hi, h1, h2⟩ := List.findIdx?_eq_some_iff_getElem.1 h
  refine ⟨E.take i, E[i], E.drop (i + 1), ?_, by rw [List.length_take]; omega, h1, ?_⟩
  · rw [← List.drop_eq_getElem_cons hi, List.take_append_drop]
  · intro y hy
    obtain ⟨j, hj, rfl⟩ := List.mem_iff_getElem.1 hy
    rw [List.length_take] at hj
    rw [List.getElem_take]
    have := h2 j (by omega)
    simpa using this
theorem set_mid (a : List Ent) (e x : Ent) (b : List Ent) (i : Nat) (h : a.length = i) : (a ++ e :: b).set i x = a ++ x :: b := by
  subst h
  rw [List.set_append_right _ _ (Nat.le_refl _), Nat.sub_self]
  rfl
theorem live_mid (a : List Ent) (e : Ent) (b : List Ent) : live (a ++ e :: b) = live a ++ ((if used e = true then [e] else []) ++ live b) := by
  unfold live
  rw [List.filter_append, List.filter_cons]
  split
  · rfl
  · rfl
theorem look_none {H : Has} {s : List UInt8} : look H s = none ↔ ∀ e ∈ H, e.1 ≠ s := by
  unfold look
  rw [Option.map_eq_none_iff, List.find?_eq_none]
  simp
theorem look_some {H : Has} (hn : (H.map (·.1)).Nodup) {s : List UInt8} {n : Int} : look H s = some n ↔ (s, n) ∈ H := by
  induction H with
  | nil => simp [look]
  | cons e H ih =>
    rw [List.map_cons, List.nodup_cons] at hn
    have ih := ih hn.2
    unfold look at ih ⊢
    rw [List.find?_cons]
    by_cases he : e.1 = s
    · rw [decide_eq_true he]
      simp only [Option.map_some, List.mem_cons]
      constructor
      · intro h
        injection h with h
        exact Or.inl (by rw [← he, ← h])
      · rintro (h | h)
        · rw [← h]
        · exact absurd (List.mem_map.2 ⟨_, h, he.symm⟩) hn.1
    · rw [decide_eq_false he]
      simp only [List.mem_cons]
      rw [ih]
      constructor
      · exact Or.inr
      · rintro (h | h)
        · exact absurd (by rw [← h]) he
        · exact h
structure Ok (E : List Ent) (H : Has) : Prop where
  four : E.length % 4 = 0
  st : ∀ e ∈ E, Nm.standB e.1 e.2 = true
  same : Perm ((live E).map swap) H
  once : (H.map (·.1)).Nodup
variable {E : List Ent} {H : Has}
theorem Ok.nil : Ok [] [] := ⟨rfl, fun _ h => absurd h (List.not_mem_nil), Perm.nil, List.nodup_nil⟩
theorem Ok.names (h : Ok E H) : ((live E).map (·.2)).Nodup := by
  have := (h.same.map (·.1)).nodup_iff.2 h.once
  rw [List.map_map] at this
  exact this
theorem Ok.mem (h : Ok E H) {s : List UInt8} {n : Int} : (s, n) ∈ H ↔ (n, s) ∈ live E := by
  rw [← h.same.mem_iff, List.mem_map]
  constructor
  · rintro ⟨⟨a, b⟩, h1, h2⟩
    injection h2 with h2 h3
    subst h2 h3
    exact h1
  · exact fun h1 => ⟨_, h1, rfl⟩
theorem Ok.all (h : Ok E H) : ∀ e ∈ live E, look H e.2 = some e.1 := fun _e he => (look_some h.once).2 (h.mem.2 he)
theorem Ok.spot_none (h : Ok E H) {s : List UInt8} : spot E s = none ↔ look H s = none := by
  unfold spot
  rw [List.findIdx?_eq_none_iff, look_none]
  constructor
  · intro h1 e he e1
    have h2 := h.mem.1 (show (e.1, e.2) ∈ H from he)
    have h3 := List.mem_filter.1 h2
    have := h1 _ h3.1
    unfold hits at this
    rw [h3.2, Bool.true_and, decide_eq_false_iff_not] at this
    exact this e1
  · intro h1 e he
    unfold hits
    by_cases hu : used e = true
    · rw [hu, Bool.true_and, decide_eq_false_iff_not]
      exact h1 (e.2, e.1) (h.mem.2 (List.mem_filter.2 ⟨he, hu⟩))
    · rw [Bool.not_eq_true] at hu
      rw [hu, Bool.false_and]
theorem Ok.spot_some (h : Ok E H) {s : List UInt8} {i : Nat} (hs : spot E s = some i) : ∃ a n b, E = a ++ (n, s) :: b ∧ a.length = i ∧ used (n, s) = true ∧ look H s = some n ∧ (∀ e ∈ live a ++ live b, e.2 ≠ s) := by
  obtain ⟨a, ⟨n, s'⟩, b, h1, h2, h3, _⟩ := first_split hs
  unfold hits at h3
  rw [Bool.and_eq_true] at h3
  obtain ⟨h3, h4⟩ := h3
  obtain rfl : s' = s := of_decide_eq_true h4
  have hl := live_mid a (n, s') b
  rw [if_pos h3] at hl
  refine ⟨a, n, b, h1, h2, h3, h.all (n, s') (by rw [h1, hl]; simp), ?_⟩
  have hn := h.names
  rw [h1, hl, List.map_append, List.map_append, List.nodup_append] at hn
  obtain ⟨_, n2, n3⟩ := hn
  rw [List.map_cons, List.map_nil, List.singleton_append, List.nodup_cons] at n2
  intro e he
  rcases List.mem_append.1 he with he | he
  · exact fun q => n3 e.2 (List.mem_map.2 ⟨e, he, rfl⟩) s' (by simp) q
  · exact fun q => n2.1 (q ▸ List.mem_map.2 ⟨e, he, rfl⟩)
theorem set_st {a b : List Ent} {e x : Ent} (h : ∀ y ∈ a ++ e :: b, Nm.standB y.1 y.2 = true) (hx : Nm.standB x.1 x.2 = true) : ∀ y ∈ a ++ x :: b, Nm.standB y.1 y.2 = true := by
  intro y hy
  rcases List.mem_append.1 hy with hy | hy
  · exact h y (List.mem_append_left _ hy)
  · rcases List.mem_cons.1 hy with rfl | hy
    · exact hx
    · exact h y (List.mem_append_right _ (List.mem_cons_of_mem _ hy))
theorem put_new {H : Has} {s : List UInt8} (n : Int) (h : look H s = none) : putH H s n = H ++ [(s, n)] := by
  unfold putH
  rw [h]
  rfl
theorem once_new {H : Has} {s : List UInt8} (n : Int) (hn : (H.map (·.1)).Nodup) (h : look H s = none) : ((H ++ [(s, n)]).map (·.1)).Nodup := by
  rw [List.map_append, List.nodup_append]
  refine ⟨hn, by simp, ?_⟩
  intro x hx y hy
  obtain ⟨e, he, rfl⟩ := List.mem_map.1 hx
  simp only [List.map_cons, List.map_nil, List.mem_singleton] at hy
  subst hy
  exact look_none.1 h e he
theorem used_right {n : Int} {s : List UInt8} (h : Nm.rightB n s = true) : used (n, s) = true ∧ Nm.standB n s = true := by
  have := Nm.right_yes h
  refine ⟨decide_eq_true (by show n ≠ 0; omega), ?_⟩
  unfold Nm.standB
  rw [h, Bool.or_true]
theorem Ok.add (h : Ok E H) {n : Int} {s : List UInt8} (hr : Nm.rightB n s = true) (hs : look H s = none) : Ok (addE E n s) (putH H s n) := by
  obtain ⟨hu, hst⟩ := used_right hr
  rw [put_new n hs]
  have hone := once_new n h.once hs
  unfold addE
  cases hm : room E with
  | none =>
    refine ⟨by simp [h.four], ?_, ?_, hone⟩
    · intro e he
      simp only [List.mem_append, List.mem_cons, List.not_mem_nil, or_false] at he
      rcases he with he | rfl | rfl | rfl | rfl
      · exact h.st e he
      · exact hst
      · rfl
      · rfl
      · rfl
    · have : live (E ++ [(n, s), (0, []), (0, []), (0, [])]) = live E ++ [(n, s)] := by
        unfold live
        rw [List.filter_append, List.filter_cons, if_pos hu]
        rfl
      show Perm ((live (E ++ [(n, s), (0, []), (0, []), (0, [])])).map swap) _
      rw [this, List.map_append]
      exact h.same.append_right _
  | some i =>
    obtain ⟨a, e, b, h1, h2, h3, _⟩ := first_split hm
    show Ok (E.set i (n, s)) _
    have hx : used e = false := by simpa using h3
    have hE : E.set i (n, s) = a ++ (n, s) :: b := by rw [h1]; exact set_mid _ _ _ _ _ h2
    refine ⟨by rw [List.length_set]; exact h.four, by rw [hE]; exact set_st (by rw [← h1]; exact h.st) hst, ?_, hone⟩
    have hl0 : live E = live a ++ live b := by
      rw [h1, live_mid, hx]
      rfl
    rw [hE, live_mid, if_pos hu]
    have p1 : Perm (live a ++ ([(n, s)] ++ live b)) ((n, s) :: (live a ++ live b)) := List.perm_middle
    rw [← hl0] at p1
    exact ((p1.map swap).trans (h.same.cons (s, n))).trans (List.perm_append_singleton (s, n) H).symm
theorem Ok.set (h : Ok E H) {n : Int} {s : List UInt8} {i : Nat} (h0 : 1 ≤ n) (h1 : n ≤ 65535) (hs : spot E s = some i) : Ok (E.set i (n, s)) (putH H s n) := by
  obtain ⟨a, m, b, e1, e2, e3, e4, e5⟩ := h.spot_some hs
  have hst0 := h.st (m, s) (by rw [e1]; simp)
  have hck : Nm.chk s = 0 := by
    rcases Nm.stand_yes hst0 with ⟨q, _⟩ | ⟨_, _, q⟩
    · exact absurd q (of_decide_eq_true e3)
    · exact q
  obtain ⟨hu, hst⟩ := used_right (n := n) (s := s) (decide_eq_true ⟨h0, h1, hck⟩)
  have hE : E.set i (n, s) = a ++ (n, s) :: b := by rw [e1]; exact set_mid _ _ _ _ _ e2
  have hp : putH H s n = H.map (fun e => if e.1 = s then (s, n) else e) := by
    unfold putH
    rw [e4]
    rfl
  have hk : (putH H s n).map (·.1) = H.map (·.1) := by
    rw [hp, List.map_map]
    apply List.map_congr_left
    intro e _
    show (if e.1 = s then (s, n) else e).1 = e.1
    split
    · exact (by assumption : e.1 = s).symm
    · rfl
  refine ⟨by rw [List.length_set]; exact h.four, by rw [hE]; exact set_st (by rw [← e1]; exact h.st) hst, ?_, by rw [hk]; exact h.once⟩
  have hf : ∀ l : List Ent, (∀ e ∈ l, e.2 ≠ s) → (l.map swap).map (fun e => if e.1 = s then (s, n) else e) = l.map swap := fun l hl => by
    rw [List.map_map]
    apply List.map_congr_left
    intro e he
    show (if e.2 = s then (s, n) else (e.2, e.1)) = (e.2, e.1)
    rw [if_neg (hl e he)]
  have hs0 := h.same.map (fun e => if e.1 = s then (s, n) else e)
  rw [e1, live_mid, if_pos e3, List.map_append, List.map_append, List.map_append, List.map_append, hf _ (fun e he => e5 e (List.mem_append_left _ he)), hf _ (fun e he => e5 e (List.mem_append_right _ he))] at hs0
  rw [hE, live_mid, if_pos hu, hp, List.map_append, List.map_append]
  have : ([(m, s)].map swap).map (fun e => if e.1 = s then (s, n) else e) = [(n, s)].map swap := by
    show [if s = s then (s, n) else (s, m)] = [(s, n)]
    rw [if_pos rfl]
  rwa [this] at hs0
theorem Ok.rem (h : Ok E H) {s : List UInt8} {i : Nat} (hs : spot E s = some i) : Ok (E.set i (0, [])) (delH H s) := by
  obtain ⟨a, m, b, e1, e2, e3, e4, e5⟩ := h.spot_some hs
  have hE : E.set i (0, []) = a ++ (0, []) :: b := by rw [e1]; exact set_mid _ _ _ _ _ e2
  have hx : used (0, []) = false := rfl
  refine ⟨by rw [List.length_set]; exact h.four, by rw [hE]; exact set_st (by rw [← e1]; exact h.st) rfl, ?_, ?_⟩
  · have hs0 := h.same.filter (fun e => decide (e.1 ≠ s))
    have hf : ∀ l : List Ent, (∀ e ∈ l, e.2 ≠ s) → (l.map swap).filter (fun e => decide (e.1 ≠ s)) = l.map swap := fun l hl => by
      apply List.filter_eq_self.2
      intro e he
      obtain ⟨x, hx, rfl⟩ := List.mem_map.1 he
      exact decide_eq_true (hl x hx)
    rw [e1, live_mid, if_pos e3, List.map_append, List.map_append, List.filter_append, List.filter_append, hf _ (fun e he => e5 e (List.mem_append_left _ he)), hf _ (fun e he => e5 e (List.mem_append_right _ he))] at hs0
    have : ([(m, s)].map swap).filter (fun e => decide (e.1 ≠ s)) = [] := by
      show [(s, m)].filter _ = []
      simp
    rw [this, List.nil_append] at hs0
    rw [hE, live_mid, hx, List.map_append]
    exact hs0
  · unfold delH
    exact List.Sublist.nodup (List.Sublist.map _ (List.filter_sublist)) h.once
end Dm

section
open Go.RowKit Go.Maps
namespace Dm
end Dm
open Dm (Has putH delH)
section
variable {P : Program} {mt kt et : TypeId} {v : Int → Value} {l : Int → Lit} {ok : Int → Prop} {w : World} {b : Nat} {H : Has}
end
end

section
open Go.RowKit Go.Maps
open Dm (Has putH delH)
section
variable {mt kt et : TypeId} {v : Int → Value} {l : Int → Lit} {ok : Int → Prop} {w : World} {b : Nat} {H : Has}
  {ops : Array Oper} {rest : List Oper} {o : Oper} {a : Act} {Q : Exit → Act → World → Prop}
end
end

namespace Fs
open Dk (zeros zeros_length)
def flat (P : Nat → List UInt8) (c : Nat) : List UInt8 := (List.range c).flatMap P
def updP (P : Nat → List UInt8) (j : Nat) (q : List UInt8) : Nat → List UInt8 := fun k => if k = j then q else P k
theorem flat_length (P : Nat → List UInt8) : ∀ c, (∀ j, j < c → (P j).length = 64) → (flat P c).length = 64 * c
  | 0, _ => rfl
  | c + 1, h => by
    have ih := flat_length P c (fun j hj => h j (by omega))
    unfold flat at ih ⊢
    rw [List.range_succ, List.flatMap_append, List.length_append, ih]
    simp [h c (by omega)]
    omega
theorem flat_succ (P : Nat → List UInt8) (c : Nat) : flat P (c + 1) = flat P c ++ P c := by
  unfold flat
  rw [List.range_succ, List.flatMap_append]
  simp
theorem flat_at (P : Nat → List UInt8) : ∀ c, (∀ j, j < c → (P j).length = 64) → ∀ j a, j < c → a < 64 → (flat P c)[64 * j + a]? = (P j)[a]?
  | 0, _, j, a, h, _ => by omega
  | c + 1, h, j, a, hj, ha => by
    have hl := flat_length P c (fun j hj => h j (by omega))
    rw [flat_succ]
    by_cases e : j < c
    · rw [List.getElem?_append_left (by omega)]
      exact flat_at P c (fun j hj => h j (by omega)) j a e ha
    · obtain rfl : j = c := by omega
      rw [List.getElem?_append_right (by omega), hl, Nat.add_sub_cancel_left]
theorem flat_ext {F G : List UInt8} {c : Nat} (hF : F.length = 64 * c) (hG : G.length = 64 * c) (h : ∀ j a, j < c → a < 64 → F[64 * j + a]? = G[64 * j + a]?) : F = G := by
  apply List.ext_getElem?
  intro i
  by_cases hi : i < 64 * c
  · have := h (i / 64) (i % 64) (by omega) (by omega)
    rwa [show 64 * (i / 64) + i % 64 = i by omega] at this
  · rw [List.getElem?_eq_none (by omega), List.getElem?_eq_none (by omega)]
theorem updP_length {P : Nat → List UInt8} {j : Nat} {q : List UInt8} {c : Nat} (h : ∀ j, j < c → (P j).length = 64) (hq : q.length = 64) : ∀ k, k < c → (updP P j q k).length = 64 := by
  intro k hk
  unfold updP
  split
  · exact hq
  · exact h k hk
theorem flat_upd {P : Nat → List UInt8} {c : Nat} (h : ∀ j, j < c → (P j).length = 64) (j : Nat) (hj : j < c) (a : Nat) (s : List UInt8) (ha : a + s.length ≤ 64) : flat (updP P j (Pg.over (P j) a s)) c = Pg.over (flat P c) (64 * j + a) s := by
  have hl := flat_length P c h
  have hq : (Pg.over (P j) a s).length = 64 := by rw [Pg.over_length _ _ _ (by rw [h j hj]; exact ha), h j hj]
  refine flat_ext (c := c) (flat_length _ c (updP_length h hq)) (by rw [Pg.over_length _ _ _ (by omega), hl]) (fun k b hk hb => ?_)
  rw [flat_at _ c (updP_length h hq) k b hk hb, Pg.over_at _ _ _ _ (by omega), flat_at P c h k b hk hb]
  unfold updP
  by_cases e : k = j
  · subst e
    rw [if_pos rfl, Pg.over_at _ _ _ _ (by rw [h k hj]; exact ha)]
    by_cases c1 : b < a
    · rw [if_pos c1, if_pos (by omega)]
    · rw [if_neg c1, if_neg (show ¬ 64 * k + b < 64 * k + a by omega)]
      by_cases c2 : b < a + s.length
      · rw [if_pos c2, if_pos (by omega)]
        congr 1
        omega
      · rw [if_neg c2, if_neg (show ¬ 64 * k + b < 64 * k + a + s.length by omega)]
  · rw [if_neg e]
    by_cases c1 : 64 * k + b < 64 * j + a
    · rw [if_pos c1]
    · rw [if_neg c1, if_neg (by omega)]
theorem over_then (F : List UInt8) (a : Nat) (s t : List UInt8) (h : a + s.length + t.length ≤ F.length) : Pg.over (Pg.over F a s) (a + s.length) t = Pg.over F a (s ++ t) := by
  apply List.ext_getElem?
  intro j
  have hl : (Pg.over F a s).length = F.length := Pg.over_length _ _ _ (by omega)
  rw [Pg.over_at _ _ _ _ (by rw [hl]; omega), Pg.over_at _ _ _ _ (by omega), Pg.over_at _ _ _ _ (by rw [List.length_append]; omega), List.length_append]
  by_cases c1 : j < a
  · rw [if_pos (by omega), if_pos c1, if_pos c1]
  · by_cases c2 : j < a + s.length
    · rw [if_pos c2, if_neg c1, if_pos c2, if_neg c1, if_pos (by omega), List.getElem?_append_left (by omega)]
    · rw [if_neg c2, if_neg c1]
      by_cases c3 : j < a + s.length + t.length
      · rw [if_pos c3, if_pos (show j < a + (s.length + t.length) by omega), List.getElem?_append_right (show s.length ≤ j - a by omega), show j - a - s.length = j - (a + s.length) by omega, if_neg c1]
      · rw [if_neg c3, if_neg (show ¬ j < a + (s.length + t.length) by omega)]
        simp [c1, c2]
theorem flat_part {P : Nat → List UInt8} {c : Nat} (h : ∀ j, j < c → (P j).length = 64) (j : Nat) (hj : j < c) (a m : Nat) (ha : a + m ≤ 64) : ((P j).drop a).take m = ((flat P c).drop (64 * j + a)).take m := by
  apply List.ext_getElem?
  intro i
  rw [List.getElem?_take, List.getElem?_take]
  split
  · rw [List.getElem?_drop, List.getElem?_drop, Nat.add_assoc, flat_at P c h j (a + i) hj (by omega)]
  · rfl
theorem take_drop_join (F : List UInt8) (a m k : Nat) : (F.drop a).take m ++ (F.drop (a + m)).take k = (F.drop a).take (m + k) := by
  rw [List.take_add, List.drop_drop]
theorem count_more (p q : Nat → Bool) (j : Nat) (hp : p j = false) (hq : q j = true) (h : ∀ k, k ≠ j → q k = p k) : ∀ N, j < N → (List.range N).countP q = (List.range N).countP p + 1
  | 0, hj => by omega
  | N + 1, hj => by
    rw [List.range_succ, List.countP_append, List.countP_append]
    by_cases e : j < N
    · rw [count_more p q j hp hq h N e]
      have : [N].countP q = [N].countP p := by simp [h N (by omega)]
      omega
    · obtain rfl : j = N := by omega
      have h1 : (List.range j).countP q = (List.range j).countP p := by
        apply List.countP_congr
        intro k hk
        rw [List.mem_range] at hk
        rw [h k (by omega)]
      rw [h1]
      simp [hp, hq]
end Fs

section
open Go.RowKit Go.Maps
open Dk (zeros zeros_length)
open Ii (Ino)
open Jn (Chg)
def encs : Nat → List (List UInt8) → List Chg
  | _, [] => []
  | k, p :: r => ⟨(k : Int), p⟩ :: encs (k + 1) r
theorem encs_drop {ps : List (List UInt8)} {k : Nat} {p : List UInt8} (h : ps[k]? = some p) : encs k (ps.drop k) = ⟨(k : Int), p⟩ :: encs (k + 1) (ps.drop (k + 1)) := by
  obtain ⟨q1, q2⟩ := List.getElem?_eq_some_iff.1 h
  rw [List.drop_eq_getElem_cons q1, q2]; rfl
structure Ly (w0 : World) (d l m : Nat) (s : Dk.St) (g : Nat) (ps : List (List UInt8)) (w : World) : Prop where
  disk : DiskAt w d l m s
  rows : RowsAt w g ps
  only : Only [d, l, m] w0 w
theorem Ly.below {w0 w w' : World} {d l m : Nat} {s : Dk.St} {g : Nat} {ps : List (List UInt8)} (h : Ly w0 d l m s g ps w) (hg : g < w.heap.size) (hb : Below w.heap.size w w') : Ly w0 d l m s g ps w' :=
  ⟨h.disk.below hb, h.rows.block (hb.block _ hg), h.only.ofBelow hb⟩
theorem Ly.call {w0 w w' : World} {d l m : Nat} {s s' : Dk.St} {g : Nat} {ps : List (List UInt8)} (h : Ly w0 d l m s g ps w) (hg : g < w.heap.size) (hn : g ∉ [d, l, m]) (hd : DiskAt w' d l m s') (ho : Only [d, l, m] w w') : Ly w0 d l m s' g ps w' :=
  ⟨hd, h.rows.block (ho.block _ hg hn), h.only.trans ho⟩
theorem write_step {w : World} {d l m : Nat} {s : Dk.St} {g : Nat} {ps : List (List UInt8)} {w0 : World} (h : Ly w0 d l m s g ps w) (hg : g < w0.heap.size) (hn : g ∉ [d, l, m]) (i : Int) (p : List UInt8) (hp : p.length = 64) : Calls Tryz.prog 97 #[.pointer (some ⟨d, 0, none⟩), .int .i64 i, pageV p] w fun e w' => e = .returned (.int .i64 (Dk.writeE s i)) ∧ Ly w0 d l m (Dk.write s i p) g ps w' :=
  (write_any h.disk i p hp).mono fun e w' hh => ⟨hh.1, h.call (Nat.lt_of_lt_of_le hg h.only.size) hn hh.2.1 (hh.2.2.mono (by simp))⟩
theorem flush_step {w : World} {d l m : Nat} {s : Dk.St} {g : Nat} {ps : List (List UInt8)} {w0 : World} (h : Ly w0 d l m s g ps w) (hg : g < w0.heap.size) (hn : g ∉ [d, l, m]) : Calls Tryz.prog 98 #[.pointer (some ⟨d, 0, none⟩)] w fun e w' => e = .returned (.int .i64 (Dk.flushE s)) ∧ Ly w0 d l m (Dk.flush s) g ps w' :=
  (flush_any h.disk).mono fun _e _w' hh => ⟨hh.1, h.call (Nat.lt_of_lt_of_le hg h.only.size) hn hh.2.1 hh.2.2⟩
theorem lay_any {w : World} {d l m : Nat} {s : Dk.St} {g c : Nat} {ps : List (List UInt8)} (h : DiskAt w d l m s) (hr : RowsAt w g ps) (hg : g < w.heap.size) (hn : g ∉ [d, l, m]) (hl : ps.length ≤ 1000) :
    Calls Tryz.prog 55 #[.pointer (some ⟨d, 0, none⟩), .slice (some ⟨g, 0, none⟩) ps.length c] w fun e w' => e = .returned (.int .i64 (Jn.runW s (encs 0 ps)).2) ∧ DiskAt w' d l m (Jn.runW s (encs 0 ps)).1 ∧ Only [d, l, m] w w' := by
  have S0 := Lib.hid (show Ly w d l m s g ps w from ⟨h, hr, Only.refl _ _⟩)
  have HW := Lib.hid (fun (W : World) (s' : Dk.St) (i : Int) (p : List UInt8) (hp : p.length = 64) (hy : Ly w d l m s' g ps W) => write_step hy hg hn i p hp)
  have HF := Lib.hid (fun (W : World) (s' : Dk.St) (hy : Ly w d l m s' g ps W) => flush_step hy hg hn)
  have HB := Lib.hid (fun (W W' : World) (s' : Dk.St) (hy : Ly w d l m s' g ps W) (hb : Below W.heap.size W W') => hy.below (Nat.lt_of_lt_of_le hg hy.only.size) hb)
  obtain ⟨R, hR⟩ : ∃ R, R = Jn.runW s (encs 0 ps) := ⟨_, rfl⟩
  have HRR : Hid (Jn.runW s (encs 0 (ps.drop 0)) = R) := Lib.hid (by rw [List.drop_zero, hR])
  rw [← hR]
  clear h hr hn hR
  obtain ⟨len, hlen⟩ : ∃ len, ps.length = len := ⟨_, rfl⟩
  have HLE := Lib.hid hlen
  rw [hlen] at hl ⊢
  clear hlen
  go_enter Tryz.func55, Tryz.ntmps55
  go_wp2_with fail
  go_loopw [10] (fun i wr => ∃ (k : Nat) (s' : Dk.St), k ≤ len ∧ i = .int .i64 k ∧ Ly w d l m s' g ps wr ∧ Hid (Jn.runW s' (encs k (ps.drop k)) = R)) (fun i _ => len - (intOf i).toNat)
  case atStart => exact ⟨0, s, Nat.zero_le _, rfl, S0.out, HRR⟩
  case round =>
    clear S0 HRR
    obtain ⟨k, s', hk, rfl, hS, HG⟩ := hrel
    have S := Lib.hid hS
    clear hS
    by_cases hlt : k < len
    · obtain ⟨p, hp⟩ : ∃ p, ps[k]? = some p := ⟨_, List.getElem?_eq_getElem (by rw [HLE.out]; exact hlt)⟩
      have HP : Hid (p.length = 64) := Lib.hid (S.out.rows.size p (List.mem_of_getElem? hp))
      rw [encs_drop hp, Jn.runW] at HG
      have HPK := Lib.hid hp
      clear hp
      by_cases hw : Dk.writeE s' (k : Int) = 0
      · have HWK := Lib.hid (fun (W : World) (hy : Ly w d l m s' g ps W) => HW.out W s' (k : Int) p HP.out hy)
        rw [if_pos hw] at HG
        rw [hw] at HWK
        clear hw
        go_wp2_with (first
          | (with_reducible refine wpList_load_row S.out.rows k HPK.out rfl (.tmp 13) rfl rfl ?_)
          | ((with_reducible refine wpList_store_new rfl (.tmp 6) (.tmp 14) rfl rfl ?_ ?_ HP.out ?_); (exact rfl); (exact rfl); intro W2 hP hB2 hz2; have S1 := Lib.hid (HB.out _ _ _ S.out hB2); clear S; have S := Lib.hid S1.out; have PG := Lib.hid hP; clear hP hB2 hz2 S1)
          | (with_reducible refine wpList_load_page PG.out rfl (.tmp 6) rfl rfl ?_)
          | (go_at_call 97; (with_reducible refine (HWK.out _ S.out).mono ?_); rintro e w3 ⟨rfl, hS3⟩; clear S; have S := Lib.hid hS3; clear hS3))
        go_roundw
        case rel => exact ⟨k + 1, _, by omega, by go_num, S.out, HG⟩
        case measure => simp [intOf]; omega
      · have HWK := Lib.hid (fun (W : World) (hy : Ly w d l m s' g ps W) => HW.out W s' (k : Int) p HP.out hy)
        have gk : (Dk.writeE s' (k : Int) == 0) = false := by simpa using hw
        rw [if_neg hw] at HG
        have hR2 := HG.out
        subst hR2
        clear hw HG
        generalize hwe : Dk.writeE s' (k : Int) = we at HWK gk
        have HWE := Lib.hid hwe
        clear hwe
        go_wp2_with (first
          | (with_reducible refine wpList_load_row S.out.rows k HPK.out rfl (.tmp 13) rfl rfl ?_)
          | ((with_reducible refine wpList_store_new rfl (.tmp 6) (.tmp 14) rfl rfl ?_ ?_ HP.out ?_); (exact rfl); (exact rfl); intro W2 hP hB2 hz2; have S1 := Lib.hid (HB.out _ _ _ S.out hB2); clear S; have S := Lib.hid S1.out; have PG := Lib.hid hP; clear hP hB2 hz2 S1)
          | (with_reducible refine wpList_load_page PG.out rfl (.tmp 6) rfl rfl ?_)
          | (go_at_call 97; (with_reducible refine (HWK.out _ S.out).mono ?_); rintro e w3 ⟨rfl, hS3⟩; clear S; have S := Lib.hid hS3; clear hS3))
        go_ret
        exact ⟨by rw [HWE.out]; rfl, S.out.disk, S.out.only⟩
    · obtain rfl : k = len := by omega
      have HZ : Hid (encs k (ps.drop k) = []) := Lib.hid (by rw [List.drop_of_length_le (by rw [HLE.out]; omega)]; rfl)
      rw [HZ.out, Jn.runW] at HG
      have hR2 := HG.out
      subst hR2
      clear HG
      go_wp2_with (go_at_call 98; (with_reducible refine (HF.out _ _ S.out).mono ?_); rintro e w3 ⟨rfl, hS3⟩; clear S; have S := Lib.hid hS3; clear hS3)
      go_ret
      exact ⟨rfl, S.out.disk, S.out.only⟩
end

section
open Go.RowKit Go.Maps
open Dk (zeros zeros_length)
open Ii (Ino)
def rootI : Ino := { k := 2, p := 493, u := 0, l := 2, s := 0, a := 0, b := 0, c := 0, d := 0, e := 0, f := 0 }
def bitsR : List UInt8 := Bt.setB zeros 0 true
def rootP : List UInt8 := Ii.putN zeros 0 rootI
def freshL (I : Int) : List (List UInt8) := ((List.replicate (Pl.dataN I).toNat zeros).set 41 bitsR).set 43 rootP
structure Fr (w : World) (n I : Int) (g : Nat) (ps : List (List UInt8)) (W : World) : Prop where
  rows : RowsAt W g ps
  ge : w.heap.size < g
  lt : g < W.heap.size
  bel : Below w.heap.size w W
  pl : RowAt W w.heap.size (planL n I)
theorem Fr.below {w W W' : World} {n I : Int} {g : Nat} {ps : List (List UInt8)} (h : Fr w n I g ps W) (hb : Below W.heap.size W W') : Fr w n I g ps W' :=
  ⟨h.rows.block (hb.block _ h.lt), h.ge, Nat.lt_of_lt_of_le h.lt hb.size, h.bel.trans (hb.mono h.bel.size), h.pl.step hb⟩
def FrS (w : World) (n I : Int) (g : Nat) (ps : List (List UInt8)) (z q : List UInt8) : Option (Bool × Nat) → World → Prop
  | none, W => Fr w n I g ps W
  | some (false, a), W => Fr w n I g ps W ∧ RowAt W a (byteVals z) ∧ a < W.heap.size
  | some (true, a), W => Fr w n I g ps W ∧ W.rangeAt a 0 (byteVals q) ∧ a < W.heap.size
theorem FrS.fr {w W : World} {n I : Int} {g : Nat} {ps : List (List UInt8)} {z q : List UInt8} : ∀ {k : Option (Bool × Nat)}, FrS w n I g ps z q k W → Fr w n I g ps W
  | none, h => h
  | some (false, _), h => h.1
  | some (true, _), h => h.1
theorem loads_page {B o : Nat} {p : List UInt8} (hp : p.length = 64) (w : World) (h : w.rangeAt B o (byteVals p)) : (loadVar 97 ⟨B, o, none⟩).run Tryz.prog w = .ok (.agg (byteVals p).toArray) w :=
  run_loadVar_mid (P := Tryz.prog) w B o 97 (byteVals p) _ h Tryz.underlying97 rfl (by rw [page_info, byteVals_length, hp])
theorem gives_load_page {o : Oper} {a : Act} {w : World} {b f : Nat} {p : List UInt8} {R : Value → World → Prop} (hp : p.length = 64) (u : Operand) (ho : o.op = .load 97 u) (hx : a.eval u = .pointer (some ⟨b, f, none⟩)) (h : w.rangeAt b f (byteVals p)) (hR : R (.agg (byteVals p).toArray) w) : Gives Tryz.prog (execOp a.eval o) w R := by
  have hl := loads_page hp w h
  unfold Gives execOp
  simp only [ho, hx, Instr.loadAt, Instr.sureAddr, Sem.run_bind, Sem.run_pure, Result.andThen_ok, hl]
  exact hR
theorem gives_store_rows {o : Oper} {a : Act} {w : World} {b : Nat} {ps : List (List UInt8)} {R : Value → World → Prop} {p : List UInt8} (k : RowsAt w b ps) (i : Nat) (hi : i < ps.length) (hp : p.length = 64) (x y : Operand) (ho : o.op = .store 97 x y) (hx : a.eval x = .pointer (some ⟨b, i * 64, none⟩)) (hy : a.eval y = .agg (byteVals p).toArray)
    (hR : R undef (w.setCells b (i * 64) (byteVals p))) : Gives Tryz.prog (execOp a.eval o) w R := by
  have hs := run_storeVar_mid (P := Tryz.prog) w b (i * 64) 97 (byteVals p).toArray (by rw [List.size_toArray, byteVals_length, hp]; exact k.thereAt i hi) (by rw [page_info, List.size_toArray, byteVals_length, hp]) (all_oneCell_toArray (byteVals_one p))
  have hrun : (execOp a.eval o).run Tryz.prog w = .ok .skip (w.setCells b (i * 64) (byteVals p)) ∨ (execOp a.eval o).run Tryz.prog w = .ok (.value undef) (w.setCells b (i * 64) (byteVals p)) := by
    unfold execOp
    simp only [ho, hx, hy, Instr.storeAt, Instr.sureAddr, Sem.run_bind, Sem.run_pure, Result.andThen_ok, hs]
    simp
  unfold Gives
  rcases hrun with h | h <;> (rw [h]; exact hR)
theorem Fr.put {w W : World} {n I : Int} {g : Nat} {ps : List (List UInt8)} (h : Fr w n I g ps W) (i : Nat) (hi : i < ps.length) {p : List UInt8} (hp : p.length = 64) : Fr w n I g (ps.set i p) (W.setCells g (i * 64) (byteVals p)) :=
  ⟨h.rows.put i hi p hp, h.ge, by rw [heap_setCells]; exact h.lt, below_setCells _ (Nat.le_of_lt h.ge) _ _ _ h.bel, h.pl.put_other g _ _ (Nat.ne_of_lt h.ge)⟩
theorem fresh_any {n I : Int} (w : World) (hpl : Pl.rightB n I = true) : Calls Tryz.prog 56 #[planV n I] w fun e w' => ∃ g, e = .returned (.slice (some ⟨g, 0, none⟩) (freshL I).length (freshL I).length) ∧ Fr w n I g (freshL I) w' := by
  obtain ⟨h1, h2, h3, h4⟩ := Pl.right_yes hpl
  have hd := Pl.data_bd h1 h2
  obtain ⟨D, hD⟩ : ∃ D : Nat, Pl.dataN I = (D : Int) := ⟨(Pl.dataN I).toNat, by omega⟩
  have HDA := Lib.hid (fun w => plData_yes n I w hpl)
  have HIB := Lib.hid (fun w => inodeBits_is hpl w)
  have HPL := Lib.hid (fun w => place_yes n I 1 w hpl (by omega) h1)
  have S0 := Lib.hid ((Lo.start (L := []) w (by simp)).alloc _ rfl (planL n I) 68)
  rw [hD] at HDA
  have hmk := fun (W : World) => run_make_pages W D (by omega)
  unfold planV at HDA HIB HPL ⊢
  go_enter Tryz.func56, Tryz.ntmps56
  go_wp2_with (first
    | (with_reducible refine wpList_load_mid rfl 68 (.tmp 1) rfl _ 0 rfl [.int .i64 n, .int .i64 I] _ (S0.out.get 0 _ rfl).range Tryz.underlying68 rfl (by kernel_rfl) ?_)
    | (go_at_call 99; (with_reducible refine (HDA.out _).mono ?_); rintro e w1 ⟨rfl, hb⟩; replace S0 := Lib.hid (S0.out.below hb); clear hb)
    | (with_reducible refine wpList_load_mid rfl 68 (.tmp 1) rfl _ 0 rfl [.int .i64 n, .int .i64 I] _ ((S0.out.get 0 _ rfl).alloc _).range Tryz.underlying68 rfl (by kernel_rfl) ?_)
    | (go_at_call 41; (with_reducible refine (HIB.out _).mono ?_); rintro e w2 ⟨rfl, hb⟩))
  have FR0 := rowsAt_new w1 D 97
  have S1 := Lib.hid ((S0.out.below (below_alloc w1 (.cells (zeroRow D) 97))).below hb)
  have hg1 := S0.out.only.size
  obtain ⟨g, hg⟩ : ∃ g, g = w1.heap.size := ⟨_, rfl⟩
  have F0 : Hid (Fr w n I g (List.replicate D zeros) w2) := Lib.hid ⟨by rw [hg]; exact FR0.block (hb.block _ (by simp)), by rw [hg]; exact (S0.out.row _ (List.mem_cons_self ..)).2.2, by rw [hg]; have := hb.size; simp at this; omega, S1.out.bel, S1.out.get 0 _ rfl⟩
  rw [← hg]
  have hg0 : w.heap.size < g := by have := (S0.out.row _ (List.mem_cons_self ..)).2.2; rw [hg]; exact this
  clear hb FR0 S0 hg hg1 hmk HDA HIB
  generalize hps : List.replicate D zeros = ps at F0
  have hpl2 : ps.length = D := by rw [← hps]; simp
  have hp41 : ps[41]? = some zeros := by rw [← hps, List.getElem?_replicate, if_pos (by omega)]
  have HL := Lib.hid zeros_length
  generalize hz : zeros = z at HL hp41
  have HBS : Hid (∀ a W, RowAt W a (byteVals z) → a < W.heap.size → Calls Tryz.prog 85 #[.int .i64 0, .bool true, .slice (some ⟨a, 0, none⟩) 1 1] W fun e w' => ∃ a' c, e = .returned (.slice (some ⟨a', 0, none⟩) 1 c) ∧ W.heap.size ≤ a' ∧ a' < w'.heap.size ∧ w'.rangeAt a' 0 (byteVals bitsR) ∧ Below W.heap.size W w') := Lib.hid (fun a W hr ha => (bset_any 0 true (some ⟨a, 0, none⟩) 1 1 z W (row_of_page (hr.page HL.out) ha) (by omega)).mono (by
    rintro e w' ⟨v, rfl, ho, hb⟩
    obtain ⟨g, c, rfl, hg1, hg2, hgr⟩ := row_own ho
    exact ⟨g, c, rfl, hg1, hg2, by unfold bitsR; rw [hz]; exact hgr, hb⟩))
  have HQ : Hid (bitsR.length = 64) := Lib.hid (by unfold bitsR; rw [Bt.setB_length, hz]; exact HL.out)
  generalize hq : bitsR = q at HBS HQ
  refine wp_region_linp (FrS w n I g ps z q) (fun _ _ => False) (fun i => i == 7 || i == 8 || i == 9 || i == 10 || i == 12) (fun i => [.slice (some ⟨g, 0, none⟩) D D, .int .i64 41, .int .i64 0, .slice (some ⟨g, 0, none⟩) D D, .int .i64 41, .pointer (some ⟨g, 41 * 64, none⟩), .agg (byteVals z).toArray, undef, undef, undef, undef, .pointer (some ⟨g, 41 * 64, none⟩), undef].getD i undef) none (by kernel_rfl) (by kernel_rfl) (fun _ _ _ _ h => h.elim) (show FrS w n I g ps z q none _ from F0.out.below ((Below.refl _ _).drew)) ?_
  refine linp_step (i := 0) (d := some 12) (v := (.slice (some ⟨g, 0, none⟩) D D)) rfl rfl (by kernel_rfl) (by kernel_rfl) rfl rfl (ord_value (by kernel_rfl) ?_) ?_
  · ((intro _ _ _; go_simp) <;> kernel_rfl)
  try simp only [Act.put, puA, puB, puC]
  refine linp_step (i := 1) (d := some 13) (v := (.int .i64 41)) rfl rfl (by kernel_rfl) (by kernel_rfl) rfl rfl (ord_value (by kernel_rfl) ?_) ?_
  · ((intro _ _ _; go_simp) <;> kernel_rfl)
  try simp only [Act.put, puA, puB, puC]
  refine linp_step (i := 2) (d := some 14) (v := (.int .i64 0)) rfl rfl (by kernel_rfl) (by kernel_rfl) rfl rfl (ord_call (f := 42) (args := #[.int .i64 1]) (by kernel_rfl) ?_ (fun k W hS => (inodeBit_any 1 W (by omega)).mono fun e w' hh => ⟨hh.1, hh.2 ▸ hS⟩)) ?_
  · (intro _; go_simp)
  try simp only [Act.put, puA, puB, puC]
  refine linp_step (i := 3) (d := some 15) (v := (.slice (some ⟨g, 0, none⟩) D D)) rfl rfl (by kernel_rfl) (by kernel_rfl) rfl rfl (ord_value (by kernel_rfl) ?_) ?_
  · ((intro _ _ _; go_simp) <;> kernel_rfl)
  try simp only [Act.put, puA, puB, puC]
  refine linp_step (i := 4) (d := some 16) (v := (.int .i64 41)) rfl rfl (by kernel_rfl) (by kernel_rfl) rfl rfl (ord_value (by kernel_rfl) ?_) ?_
  · ((intro _ _ _; go_simp) <;> kernel_rfl)
  try simp only [Act.put, puA, puB, puC]
  have h41 : 41 < D := by omega
  refine linp_step (i := 5) (d := some 17) (v := .pointer (some ⟨g, 41 * 64, none⟩)) rfl rfl (by kernel_rfl) (by kernel_rfl) rfl rfl (ord_value (by kernel_rfl) ?_) ?_
  · intro k W hS
    go_simp
    omega
  try simp only [Act.put, puA, puB, puC]
  refine linp_step (i := 6) (d := some 18) (v := (.agg (byteVals z).toArray)) rfl rfl (by kernel_rfl) (by kernel_rfl) rfl rfl (ord_mid (loads_page HL.out) (by kernel_rfl) (.tmp 17) rfl rfl (fun k W hS => (FrS.fr hS).rows.range 41 z hp41)) ?_
  try simp only [Act.put, puA, puB, puC]
  refine linp_turnD (i := 7) (d := some 19) [8, 9, 10, 12] (fun u k => ∃ a, u = .slice (some ⟨a, 0, none⟩) 1 1 ∧ k = some (false, a)) rfl rfl (by kernel_rfl) (by kernel_rfl) rfl (by kernel_rfl) ⟨_, _, 0, rfl, rfl⟩ (by kernel_rfl) (fun W hS => ?_) ?_
  · have hbl : (byteVals z).length = 64 := by rw [byteVals_length]; exact HL.out
    unfold GivesP
    go_simp
    rw [fold_page rfl HL.out]
    go_simp
    exact ⟨Fr.below hS (below_alloc _ _), rowAt_new W (byteVals z) _, by simp⟩
  rintro _ _ ⟨a, rfl, rfl⟩
  try simp only [Act.put, puA, puB, puC]
  refine linp_turnD (i := 8) (d := some 20) [9, 10, 12] (fun u k => ∃ a' c, u = .slice (some ⟨a', 0, none⟩) 1 c ∧ k = some (true, a')) rfl rfl (by kernel_rfl) (by kernel_rfl) rfl (by kernel_rfl) ⟨_, _, 0, 0, rfl, rfl⟩ (by kernel_rfl) (gives_all (f := 85) (args := #[.int .i64 0, .bool true, .slice (some ⟨a, 0, none⟩) 1 1]) ?_ (fun W hS => (HBS.out a W hS.2.1 hS.2.2).mono fun e w' hh => by
    obtain ⟨a', c, rfl, _, k2, k3, k4⟩ := hh
    exact Or.inl ⟨_, rfl, some (true, a'), ⟨a', c, rfl, rfl⟩, hS.1.below k4, k3, k2⟩)) ?_
  · (intro _; go_simp)
  rintro _ _ ⟨a', c, rfl, rfl⟩
  try simp only [Act.put, puA, puB, puC]
  refine linp_turnD (i := 9) (d := some 21) [10, 12] (fun u k => u = .pointer (some ⟨a', 0, none⟩) ∧ k = some (true, a')) rfl rfl (by kernel_rfl) (by kernel_rfl) rfl (by kernel_rfl) ⟨_, _, rfl, rfl⟩ (by kernel_rfl) (fun W hS => ?_) ?_
  · unfold GivesP
    go_simp
  rintro _ _ ⟨rfl, rfl⟩
  try simp only [Act.put, puA, puB, puC]
  refine linp_turnD (i := 10) (d := some 22) [12] (fun u k => u = .agg (byteVals q).toArray ∧ k = some (true, a')) rfl rfl (by kernel_rfl) (by kernel_rfl) rfl (by kernel_rfl) ⟨_, _, rfl, rfl⟩ (by kernel_rfl) (fun W hS => givesP_of (gives_load_page HQ.out (.tmp 21) rfl rfl hS.2.1 ⟨_, ⟨rfl, rfl⟩, hS⟩)) ?_
  rintro _ _ ⟨rfl, rfl⟩
  try simp only [Act.put, puA, puB, puC]
  refine linp_step (i := 11) (d := some 23) (v := .pointer (some ⟨g, 41 * 64, none⟩)) rfl rfl (by kernel_rfl) (by kernel_rfl) rfl rfl (ord_value (by kernel_rfl) ?_) ?_
  · intro k W hS
    go_simp
    omega
  try simp only [Act.put, puA, puB, puC]
  refine linp_last (i := 12) (d := none) rfl rfl (by kernel_rfl) rfl (by kernel_rfl) (by kernel_rfl) fun W hS => givesP_of (gives_store_rows (p := q) (FrS.fr hS).rows 41 (by omega) HQ.out (.tmp 23) (.tmp 22) rfl rfl rfl ?_)
  have F1 := Lib.hid ((FrS.fr hS).put 41 (by omega) HQ.out)
  clear hS F0
  generalize World.setCells _ _ _ _ = w3 at F1 ⊢
  try simp only [Act.put]
  have HPUT : Hid (∀ W, Calls Tryz.prog 84 #[pageV z, .int .i64 0, .agg #[.int .i64 2, .int .i64 493, .int .i64 0, .int .i64 2, .int .i64 0, .int .i64 0, .int .i64 0, .int .i64 0, .int .i64 0, .int .i64 0, .int .i64 0]] W fun e w' => e = .returned (pageV rootP) ∧ Below W.heap.size W w') := Lib.hid (fun W => by
    have := iput_any z 1 rootI W HL.out
    unfold rootP
    rw [hz]
    exact this)
  have HRL : Hid (rootP.length = 64) := Lib.hid (by unfold rootP; rw [hz]; exact Ii.putN_length z 0 rootI HL.out (by omega))
  have hp43 : (ps.set 41 q)[43]? = some z := by rw [List.getElem?_set_ne (by omega), ← hps, List.getElem?_replicate, if_pos (by omega), hz]
  have hfl : freshL I = (ps.set 41 q).set 43 rootP := by unfold freshL; rw [hD, Int.toNat_natCast, hq, ← hps, hz]
  have hfn : (freshL I).length = D := by rw [hfl]; simp [hpl2]
  have HFL := Lib.hid hfl
  have HFN := Lib.hid hfn
  generalize rootP = rp at HPUT HRL HFL
  clear hps hq hz hfl hfn
  generalize hps2 : ps.set 41 q = ps2 at F1 hp43 HFL
  have hpl3 : ps2.length = D := by rw [← hps2]; simp [hpl2]
  clear hps2 hp41 hpl2 HQ HBS
  have h43 : 43 < D := by omega
  go_wp2_with (first
    | (with_reducible refine wpList_load_mid rfl 68 (.tmp 1) rfl _ 0 rfl [.int .i64 n, .int .i64 I] _ F1.out.pl.range Tryz.underlying68 rfl (by kernel_rfl) ?_)
    | (go_at_call 82; (with_reducible refine (HPL.out _).mono ?_); rintro e w4 ⟨rfl, hb⟩; replace F1 := Lib.hid (F1.out.below hb); clear hb)
    | (with_reducible refine wpList_load_row F1.out.rows 43 hp43 rfl (.tmp 33) rfl rfl ?_)
    | (go_at_call 84; (with_reducible refine (HPUT.out _).mono ?_); rintro e w5 ⟨rfl, hb⟩; replace F1 := Lib.hid (F1.out.below hb); clear hb)
    | (with_reducible refine wpList_store_row F1.out.rows 43 (by omega) HRL.out rfl (.tmp 38) (.tmp 37) rfl rfl rfl ?_))
  have F2 := Lib.hid (F1.out.put 43 (by omega) HRL.out)
  go_ret
  exact ⟨g, by rw [HFN.out]; rfl, by rw [HFL.out]; exact F2.out⟩
end

section
open Dk (zeros zeros_length)
open Go.RowKit
def markS : ByteArray := { data := #[78, 82, 84, 88] }
theorem setMark_any (w : World) : Calls Tryz.prog 67 #[pageV zeros, .int .i64 0, .string markS] w fun e w' => e = .returned (pageV (Pg.setTextN Pl.zero64 0 Pl.markB)) ∧ Below w.heap.size w w' :=
  setText_any zeros 0 markS w zeros_length (by decide)
theorem super_box (w : World) (p i : Int) {w' : World} (hb : Below (w.heap.size + 2) ((w.alloc (.cells #[.int .i64 p, .int .i64 i] 68)).alloc (.cells zeroCells 97)) w') :
    RowAt w' w.heap.size (planL p i) ∧ PageAt w' (w.heap.size + 1) zeros ∧ Below w.heap.size w w' := by
  have h0 := (rowAt_new w (planL p i) 68).alloc (.cells zeroCells 97)
  have h1 := pageAt_zeros (w.alloc (.cells (planL p i).toArray 68)) 97
  rw [World.size_alloc] at h1
  have hs := hb.size
  simp at hs
  exact ⟨h0.below hb (by omega), h1.below hb (by omega), (((Below.refl _ _).alloc (Nat.le_refl _) _).alloc (by simp) _).trans (hb.mono (by omega))⟩
theorem super_no (p i : Int) (w : World) (h : Pl.rightB p i = false) :
    Calls Tryz.prog 54 #[planV p i] w fun e w' => e = .returned (.tuple #[pageV zeros, .int .i64 22]) ∧ Below w.heap.size w w' := by
  have HZ := Lib.hid (fun (w' : World) hb => super_box w p i (w' := w') hb)
  rw [zeroCells_def] at HZ
  have HL := Lib.hid zeros_length
  have hq : pageV zeros = .agg zeroCells := rfl
  rw [zeroCells_def] at hq
  have HQ := Lib.hid hq; clear hq
  unfold planV
  go_enter Tryz.func54, Tryz.ntmps54
  go_wp2_with (first
    | (go_at_call 95; refine (right_is p i _ _ h).mono ?_; rintro e w3 ⟨rfl, hb⟩; have HB := Lib.hid (HZ.out w3 (by simpa using hb)); clear hb)
    | ((with_reducible refine wpList_store_page (q := zeros) HB.out.2.1 HL.out rfl (.tmp 2) (.tmp 8) rfl rfl ?_ ?_); (exact HQ.out.symm)))
  exact bodyPost_ret (results_page2 _ 2 3 rfl _ (HB.out.2.1.put _ HL.out) rfl rfl) rfl ⟨rfl, below_setCells _ (by omega) _ _ _ HB.out.2.2⟩
structure SupS (w0 : World) (v : Value) (vs : List Value) (D : Nat) (q : List UInt8) (W : World) : Prop where
  own : RowAt W w0.heap.size (v :: vs)
  res : PageAt W (w0.heap.size + 1) zeros
  page : PageAt W D q
  gt : w0.heap.size + 1 < D
  below : Below w0.heap.size w0 W
theorem SupS.call {w0 : World} {v : Value} {vs : List Value} {D : Nat} {q : List UInt8} {W W' : World} (k : SupS w0 v vs D q W) (hb : Below W.heap.size W W') : SupS w0 v vs D q W' :=
  ⟨k.own.step hb, k.res.step hb, k.page.step hb, k.gt, k.below.trans (hb.mono k.below.size)⟩
theorem SupS.put {w0 : World} {v : Value} {vs : List Value} {D : Nat} {q : List UInt8} {W : World} (k : SupS w0 v vs D q W) (q' : List UInt8) (hq : q'.length = 64) : SupS w0 v vs D q' (W.setCells D 0 (byteVals q')) :=
  ⟨k.own.put_other _ _ _ (by have := k.gt; omega), k.res.put_other _ _ _ (by have := k.gt; omega), k.page.put q' hq, k.gt, below_setCells _ (by have := k.gt; omega) _ _ _ k.below⟩
theorem SupS.back {w0 : World} {v : Value} {vs : List Value} {D : Nat} {q : List UInt8} {W : World} (k : SupS w0 v vs D q W) (q' : List UInt8) (hq : q'.length = 64) :
    PageAt (W.setCells (w0.heap.size + 1) 0 (byteVals q')) (w0.heap.size + 1) q' ∧ Below w0.heap.size w0 (W.setCells (w0.heap.size + 1) 0 (byteVals q')) :=
  ⟨k.res.put q' hq, below_setCells _ (by omega) _ _ _ k.below⟩
theorem super_yes (p i : Int) (w : World) (h : Pl.rightB p i = true) :
    Calls Tryz.prog 54 #[planV p i] w fun e w' => e = .returned (.tuple #[pageV (Pl.superP p i), .int .i64 0]) ∧ Below w.heap.size w w' := by
  have HZ := Lib.hid (fun (w' : World) hb => super_box w p i (w' := w') hb)
  rw [zeroCells_def] at HZ
  have L0 := Lib.hid Pl.mark_length
  have L1 := Lib.hid (Pl.mid_length p)
  have L2 := Lib.hid (Pl.super_length p i)
  have C0 := Lib.hid (fun w => setMark_any w)
  have C1 := Lib.hid (fun w => set_any (Pg.setTextN Pl.zero64 0 Pl.markB) 4 2 p w Pl.mark_length (by omega) (by omega))
  have C2 := Lib.hid (fun w => set_any (Pg.setN (Pg.setTextN Pl.zero64 0 Pl.markB) 4 2 p) 6 2 i w (Pl.mid_length p) (by omega) (by omega))
  change Hid (∀ w, Calls Tryz.prog _ _ w fun e w' => e = .returned (pageV (Pl.superP p i)) ∧ _) at C2
  generalize Pl.superP p i = q2 at L2 C2 ⊢
  generalize Pg.setN (Pg.setTextN Pl.zero64 0 Pl.markB) 4 2 p = q1 at L1 C1 C2
  generalize Pg.setTextN Pl.zero64 0 Pl.markB = q0 at L0 C0 C1
  unfold planV
  go_enter Tryz.func54, Tryz.ntmps54
  go_wp2_with (go_at_call 95; refine (right_is p i _ _ h).mono ?_; rintro e w3 ⟨rfl, hb⟩; have HB := Lib.hid (HZ.out w3 (by simpa using hb)); clear hb)
  rw [← zeroCells_def]
  refine (C0.out _).mono ?_
  rintro e w4 ⟨rfl, hb4⟩
  have H4 : Hid (RowAt w4 w.heap.size (planL p i) ∧ PageAt w4 (w.heap.size + 1) zeros ∧ Below w.heap.size w w4 ∧ w.heap.size + 1 < w4.heap.size) := Lib.hid ⟨HB.out.1.step hb4, HB.out.2.1.step hb4, HB.out.2.2.trans (hb4.mono HB.out.2.2.size), (HB.out.2.1.step hb4).lt⟩
  clear HB HZ hb4
  generalize zeroCells = Z
  go_wp2_with (first
    | ((with_reducible refine wpList_store_new rfl (.tmp 4) (.tmp 10) rfl rfl ?_ ?_ L0.out ?_); (exact rfl); (exact rfl); intro W5 hP hb5 hz5; have S5 : Hid (SupS w (.int .i64 p) [.int .i64 i] w4.heap.size q0 W5) := Lib.hid ⟨H4.out.1.step hb5, H4.out.2.1.step hb5, hP, H4.out.2.2.2, H4.out.2.2.1.trans (hb5.mono H4.out.2.2.1.size)⟩; clear hP hb5 hz5 H4; generalize w4.heap.size = D at S5 ⊢; have c5 := S5.out.own.cell 0 _ rfl)
    | (with_reducible refine wpList_load_page S5.out.page rfl (.tmp 4) rfl rfl ?_)
    | (go_at_call 96; refine (C1.out _).mono ?_; rintro e w6 ⟨rfl, hb6⟩; have S6 := Lib.hid (S5.out.call hb6); clear S5 hb6 c5 C1)
    | ((with_reducible refine wpList_store_page S6.out.page L1.out rfl (.tmp 4) (.tmp 14) rfl rfl rfl ?_); have S7 := Lib.hid (S6.out.put _ L1.out); clear S6; generalize w6.setCells D 0 (byteVals q1) = w7 at S7 ⊢; have c7 := S7.out.own.cell 1 _ rfl)
    | (with_reducible refine wpList_load_page S7.out.page rfl (.tmp 4) rfl rfl ?_)
    | (go_at_call 96; refine (C2.out _).mono ?_; rintro e w8 ⟨rfl, hb8⟩; have S8 := Lib.hid (S7.out.call hb8); clear S7 hb8 c7)
    | (with_reducible refine wpList_store_page S8.out.res L2.out rfl (.tmp 2) (.tmp 18) rfl rfl rfl ?_))
  have hq := S8.out.back q2 L2.out
  refine bodyPost_ret (results_page2 _ 2 3 rfl _ hq.1 rfl rfl) rfl ⟨rfl, hq.2⟩
end

section
open Go.RowKit Go.Maps
open Dk (zeros zeros_length)
open Ii (Ino)
open Jn (Chg Cl)
theorem encs_lay : ∀ (ps : List (List UInt8)) (k : Nat), encs k ps = Jn.layAt k ps
  | [], _ => rfl
  | p :: r, k => by rw [encs, Jn.layAt, encs_lay r (k + 1)]
def fmtP (n I : Int) (i : Nat) : List UInt8 := if i = 0 then Pl.superP n I else if i = 41 then bitsR else if i = 43 then rootP else zeros
structure Fmt (s : Dk.St) (n I : Int) : Prop where
  cl : Cl s
  lim : s.lim = false
  len : (s.last.length : Int) = n
  pages : ∀ i, i < s.last.length → s.last.getD i [] = fmtP n I i
theorem run_fine {s : Dk.St} {cs : List Chg} (h : Cl s) (hl : s.lim = false) (hv : Jn.Val s.last.length cs) : (Jn.runW s cs).2 = 0 ∧ Cl (Jn.runW s cs).1 ∧ (Jn.runW s cs).1.lim = false ∧ (Jn.runW s cs).1.last = Jn.upd s.last cs := by
  rcases Jn.runW_spec cs s h.ok h.up hv with ⟨a1, a2, a3, a4⟩ | ⟨_, a2, _⟩
  · exact ⟨a1, a2, a3.trans hl, by rw [a4, Jn.nows_clean h.clean]⟩
  · rw [hl] at a2; cases a2
theorem lay_val {n : Nat} {ps : List (List UInt8)} (h : ps.length ≤ n) (hp : ∀ p ∈ ps, p.length = 64) : Jn.Val n (encs 0 ps) := by
  rw [encs_lay]
  intro c hc
  obtain ⟨h1, h2, h3, h4⟩ := Jn.layAt_mem ps 0 c hc
  refine ⟨?_, hp _ h4⟩
  rw [h3]
  exact Dk.has_mk (by omega)
theorem bitsR_length : bitsR.length = 64 := by unfold bitsR; rw [Bt.setB_length]; exact zeros_length
theorem rootP_length : rootP.length = 64 := Ii.putN_length _ _ _ zeros_length (by omega)
theorem freshL_pages (I : Int) : ∀ p ∈ freshL I, p.length = 64 := fun p hp => by
  unfold freshL at hp
  rcases List.mem_or_eq_of_mem_set hp with hp | rfl
  · rcases List.mem_or_eq_of_mem_set hp with hp | rfl
    · rw [List.eq_of_mem_replicate hp]; exact zeros_length
    · exact bitsR_length
  · exact rootP_length
theorem freshL_len (I : Int) : (freshL I).length = (Pl.dataN I).toNat := by unfold freshL; simp
theorem freshL_at {n I : Int} (hd : 44 ≤ Pl.dataN I) (i : Nat) (hi : i < (Pl.dataN I).toNat) (h0 : i ≠ 0) : (freshL I).getD i [] = fmtP n I i := by
  unfold freshL fmtP
  rw [if_neg h0, List.getD_eq_getElem?_getD]
  by_cases c1 : i = 43
  · subst c1
    rw [List.getElem?_set_self (by simp; omega)]; rfl
  · rw [List.getElem?_set_ne (fun q => c1 q.symm)]
    by_cases c2 : i = 41
    · subst c2
      rw [List.getElem?_set_self (by simp; omega), if_pos rfl]; rfl
    · rw [List.getElem?_set_ne (fun q => c2 q.symm), if_neg c2, if_neg c1, List.getElem?_replicate, if_pos hi]; rfl
theorem fmt_made {N : Nat} {I : Int} (hpl : Pl.rightB (N : Int) I = true) :
    (Jn.runW (Dk.fresh N) (encs 0 (freshL I))).2 = 0 ∧ (Jn.runW (Jn.runW (Dk.fresh N) (encs 0 (freshL I))).1 (encs 0 [Pl.superP (N : Int) I])).2 = 0 ∧
    Fmt (Jn.runW (Jn.runW (Dk.fresh N) (encs 0 (freshL I))).1 (encs 0 [Pl.superP (N : Int) I])).1 (N : Int) I := by
  obtain ⟨h1, h2, h3, h4⟩ := Pl.right_yes hpl
  have hd := Pl.data_bd h1 h2
  have hc : Cl (Dk.fresh N) := fresh_cl (by omega) (by omega)
  have hlen := fresh_len N
  have hfl := freshL_len I
  obtain ⟨a1, a2, a3, a4⟩ := run_fine hc rfl (lay_val (ps := freshL I) (n := (Dk.fresh N).last.length) (by rw [hlen, hfl]; omega) (freshL_pages I))
  generalize (Jn.runW (Dk.fresh N) (encs 0 (freshL I))) = R1 at a1 a2 a3 a4 ⊢
  have hl1 : R1.1.last.length = N := by rw [a4, Jn.upd_length, hlen]
  obtain ⟨b1, b2, b3, b4⟩ := run_fine a2 a3 (lay_val (ps := [Pl.superP (N : Int) I]) (n := R1.1.last.length) (by rw [hl1]; simp; omega) (fun p hp => by rw [List.mem_singleton] at hp; subst hp; exact Pl.super_length _ _))
  refine ⟨a1, b1, ⟨b2, b3, by rw [b4, Jn.upd_length, hl1], fun i hi => ?_⟩⟩
  rw [b4, Jn.upd_length, hl1] at hi
  rw [b4, encs_lay]
  show (Jn.upd R1.1.last [⟨((0 : Nat) : Int), _⟩]).getD i [] = _
  by_cases h0 : i = 0
  · subst h0
    rw [Jn.upd_one_at (by omega)]
    unfold fmtP; rw [if_pos rfl]
  · rw [Jn.upd_one_other h0, a4, encs_lay]
    by_cases hD : i < (Pl.dataN I).toNat
    · have := Jn.upd_layAt (freshL I) 0 (Dk.fresh N).last i (by rw [hfl]; exact hD) (by rw [hlen, hfl]; omega)
      rw [Nat.zero_add] at this
      rw [this, freshL_at (n := (N : Int)) hd.1 i hD h0]
    · rw [Jn.upd_other _ _ _ (fun c hc => by
        obtain ⟨_, q2, _, _⟩ := Jn.layAt_mem _ _ _ hc
        rw [hfl] at q2; omega), fresh_at hi]
      unfold fmtP
      rw [if_neg h0, if_neg (by omega), if_neg (by omega)]
structure Dy (w : World) (d l m : Nat) (s : Dk.St) (W : World) : Prop where
  disk : DiskAt W d l m s
  only : Only [d, l, m] w W
theorem Dy.below {w W W' : World} {d l m : Nat} {s : Dk.St} (h : Dy w d l m s W) (hb : Below W.heap.size W W') : Dy w d l m s W' := ⟨h.disk.below hb, h.only.ofBelow hb⟩
theorem format_new {w : World} {d l m N : Nat} {I : Int} (h : DiskAt w d l m (Dk.fresh N)) (hpl : Pl.rightB (N : Int) I = true) : Calls Tryz.prog 22 #[.pointer (some ⟨d, 0, none⟩), .int .i64 I] w fun e w' => e = .returned (.int .i64 0) ∧ Only [d, l, m] w w' ∧ ∃ s, Fmt s (N : Int) I ∧ DiskAt w' d l m s := by
  obtain ⟨f1, f2, f3⟩ := fmt_made hpl
  have HF3 := Lib.hid f3
  have HD := Lib.hid (show Dy w d l m (Dk.fresh N) w from ⟨h, Only.refl _ _⟩)
  have HDN := Lib.hid (down_any h)
  have HPG := Lib.hid (pages_any h)
  rw [fresh_len] at HPG
  have hup : (Dk.fresh N).down = false := rfl
  rw [hup] at HDN
  have HSU : Hid (∀ W, Calls Tryz.prog 54 #[.agg #[.int .i64 (N : Int), .int .i64 I]] W fun e w' => e = .returned (.tuple #[pageV (Pl.superP (N : Int) I), .int .i64 0]) ∧ Below W.heap.size W w') := Lib.hid (fun W => super_yes (N : Int) I W hpl)
  have HFR : Hid (∀ W, Calls Tryz.prog 56 #[.agg #[.int .i64 (N : Int), .int .i64 I]] W fun e w' => ∃ g, e = .returned (.slice (some ⟨g, 0, none⟩) (freshL I).length (freshL I).length) ∧ Fr W (N : Int) I g (freshL I) w') := Lib.hid (fun W => fresh_any W hpl)
  have hll : (freshL I).length ≤ 1000 := by
    rw [freshL_len]
    obtain ⟨h1, h2, h3, h4⟩ := Pl.right_yes hpl
    have hd := Pl.data_bd h1 h2
    omega
  have HLD : Hid (d < w.heap.size ∧ l < w.heap.size ∧ m < w.heap.size) := Lib.hid ⟨h.dlt, h.llt, h.mlt⟩
  have HL1 : Hid (∀ W g c, Dy w d l m (Dk.fresh N) W → RowsAt W g (freshL I) → g < W.heap.size → w.heap.size ≤ g → Calls Tryz.prog 55 #[.pointer (some ⟨d, 0, none⟩), .slice (some ⟨g, 0, none⟩) (freshL I).length c] W fun e w' => e = .returned (.int .i64 0) ∧ Dy w d l m (Jn.runW (Dk.fresh N) (encs 0 (freshL I))).1 w' ∧ Only [d, l, m] W w') := Lib.hid (fun W g c hd hr hg hg2 => by
    have hh := HLD.out
    have := lay_any (c := c) hd.disk hr hg (by simp; omega) hll
    rw [f1] at this
    exact this.mono fun e w' hh => ⟨hh.1, ⟨hh.2.1, hd.only.trans hh.2.2⟩, hh.2.2⟩)
  have HL2 : Hid (∀ W g c, Dy w d l m (Jn.runW (Dk.fresh N) (encs 0 (freshL I))).1 W → RowsAt W g [Pl.superP (N : Int) I] → g < W.heap.size → w.heap.size ≤ g → Calls Tryz.prog 55 #[.pointer (some ⟨d, 0, none⟩), .slice (some ⟨g, 0, none⟩) 1 c] W fun e w' => e = .returned (.int .i64 0) ∧ Dy w d l m (Jn.runW (Jn.runW (Dk.fresh N) (encs 0 (freshL I))).1 (encs 0 [Pl.superP (N : Int) I])).1 w') := Lib.hid (fun W g c hd hr hg hg2 => by
    have hh := HLD.out
    have := lay_any (c := c) hd.disk hr hg (by simp; omega) (by simp)
    rw [f2] at this
    exact this.mono fun e w' hh => ⟨hh.1, hh.2.1, hd.only.trans hh.2.2⟩)
  have HSL : Hid ((Pl.superP (N : Int) I).length = 64) := Lib.hid (Pl.super_length _ _)
  clear h hpl hup f1 f2 f3 hll
  generalize Pl.superP (N : Int) I = sp at HSU HL2 HSL HF3
  generalize freshL I = fl at HFR HL1 HL2 HF3
  generalize (Jn.runW (Jn.runW (Dk.fresh N) (encs 0 fl)).1 (encs 0 [sp])).1 = s2 at HL2 HF3
  generalize (Jn.runW (Dk.fresh N) (encs 0 fl)).1 = s1 at HL1 HL2
  generalize Dk.fresh N = s0 at HD HL1
  have hbl : (byteVals sp).length = 64 := by rw [byteVals_length]; exact HSL.out
  have S0 := Lib.hid ((Lo.start (L := [d, l, m]) w (by have := HLD.out; simp; omega)).alloc _ rfl [.int .i64 (N : Int), .int .i64 I] 68)
  go_enter Tryz.func22, Tryz.ntmps22
  go_wp2_with (first
    | (go_at_call 52; (with_reducible refine HDN.out.mono ?_); rintro e w1 ⟨rfl, rfl⟩)
    | (go_at_call 53; (with_reducible refine HPG.out.mono ?_); rintro e w1 ⟨rfl, rfl⟩)
    | (go_at_call 54; (with_reducible refine (HSU.out _).mono ?_); rintro e w1 ⟨rfl, hb⟩; have S := Lib.hid (S0.out.below hb); have HD1 := Lib.hid ((HD.out.below (below_alloc _ _)).below hb); clear hb S0 HD)
    | ((with_reducible refine wpList_store_new rfl (.tmp 6) (.tmp 18) rfl rfl ?_ ?_ HSL.out ?_); (exact rfl); (exact rfl); intro W2 hP hB2 hz2; have S2 := Lib.hid (S.out.made hP.rowAt hB2 hz2); have HD2 := Lib.hid (HD1.out.below hB2); clear hP hB2 hz2 S HD1)
    | (with_reducible refine wpList_load_mid rfl 68 (.tmp 5) rfl _ 0 rfl [.int .i64 (N : Int), .int .i64 I] _ (S2.out.get 0 _ rfl).range Tryz.underlying68 rfl (by kernel_rfl) ?_)
    | (go_at_call 56; (with_reducible refine (HFR.out _).mono ?_); rintro e w3 ⟨g, rfl, hfr⟩; have S3 := Lib.hid (S2.out.below hfr.bel); have HD3 := Lib.hid (HD2.out.below hfr.bel); have hgw : w.heap.size ≤ g := (by have := S2.out.only.size; have := hfr.ge; omega); have HFP := Lib.hid hfr; clear hfr S2 HD2)
    | (go_at_call 55; (with_reducible refine (HL1.out _ g _ HD3.out HFP.out.rows HFP.out.lt hgw).mono ?_); rintro e w4 ⟨rfl, hd4, ho4⟩; have S4 := Lib.hid (S3.out.call ho4 (fun k hk => hk)); have HD4 := Lib.hid hd4; clear hd4 ho4 S3 HD3 HFP)
    | (with_reducible refine wpList_load_mid rfl 97 (.tmp 6) rfl _ 0 rfl (byteVals sp) _ (S4.out.get 1 _ rfl).range Tryz.underlying97 rfl (by rw [page_info, byteVals_length, HSL.out]) ?_))
  rw [fold_page rfl HSL.out]
  have HR5 : Hid (RowsAt (w4.alloc (.cells (byteVals sp).toArray 97)) w4.heap.size [sp]) := Lib.hid (by
    have hr := rowAt_new w4 (byteVals sp) 97
    refine ⟨fun p hp => by rw [List.mem_singleton] at hp; subst hp; exact HSL.out, fun i p hp => ?_, ?_⟩
    · have hi : i = 0 := by have := (List.getElem?_eq_some_iff.1 hp).1; simpa using this
      subst hi
      simp only [List.getElem?_cons_zero, Option.some.injEq] at hp
      subst hp
      exact hr.range
    · have := hr.free
      rw [hbl] at this
      exact this)
  have HD5 := Lib.hid (HD4.out.below (below_alloc w4 (.cells (byteVals sp).toArray 97)))
  have hg5 : w4.heap.size < (w4.alloc (.cells (byteVals sp).toArray 97)).heap.size := by simp
  have hg6 := S4.out.only.size
  generalize World.alloc _ _ = w5 at HR5 HD5 hg5 ⊢
  go_wp2_with (go_at_call 55; (with_reducible refine (HL2.out _ _ _ HD5.out HR5.out hg5 hg6).mono ?_); rintro e w6 ⟨rfl, hd6⟩)
  go_ret
  exact ⟨rfl, hd6.only, s2, HF3.out, hd6.disk⟩
end

section
open Dk (zeros zeros_length)
open Go.RowKit
structure LRdS (w0 : World) (x : List UInt8) (W : World) : Prop where
  page : PageAt W w0.heap.size x
  res : RowAt W (w0.heap.size + 1) (planL 0 0)
  below : Below w0.heap.size w0 W
theorem LRdS.call {w0 : World} {x : List UInt8} {W W' : World} (k : LRdS w0 x W) (hb : Below W.heap.size W W') : LRdS w0 x W' :=
  ⟨k.page.step hb, k.res.step hb, k.below.trans (hb.mono k.below.size)⟩
theorem LRdS.drew {w0 : World} {x : List UInt8} {W : World} (k : LRdS w0 x W) : LRdS w0 x W.drew := ⟨k.page.drew, k.res.drew, k.below.drew⟩
def RfS (w0 : World) (x : List UInt8) (p i : Int) : Option (Nat × Bool) → World → Prop
  | none, W => LRdS w0 x W
  | some (g, b), W => LRdS w0 x W ∧ w0.heap.size + 1 < g ∧ RowAt W g (if b then planL p i else planL 0 0)
theorem RfS.base {w0 : World} {x : List UInt8} {p i : Int} {s : Option (Nat × Bool)} {W : World} (k : RfS w0 x p i s W) : LRdS w0 x W := by
  cases s with
  | none => exact k
  | some gb => exact k.1
theorem RfS.call {w0 : World} {x : List UInt8} {p i : Int} {s : Option (Nat × Bool)} {W W' : World} (k : RfS w0 x p i s W) (hb : Below W.heap.size W W') : RfS w0 x p i s W' := by
  cases s with
  | none => exact LRdS.call k hb
  | some gb =>
    obtain ⟨g, b⟩ := gb
    obtain ⟨h1, h2, h3⟩ := k
    refine ⟨h1.call hb, h2, ?_⟩
    cases b <;> exact RowAt.step h3 hb
theorem read_box (w : World) (x : List UInt8) (hx : x.length = 64) : LRdS w x ((w.alloc (.cells (byteVals x).toArray 97)).alloc (.cells #[.int .i64 0, .int .i64 0] 68)) := by
  have h0 := (pageAt_new w x 97 hx).alloc (.cells #[.int .i64 0, .int .i64 0] 68)
  have h1 := rowAt_new (w.alloc (.cells (byteVals x).toArray 97)) (planL 0 0) 68
  rw [World.size_alloc] at h1
  exact ⟨h0, h1, ((Below.refl _ _).alloc (Nat.le_refl _) _).alloc (by simp) _⟩
theorem LRdS.alloc {w0 : World} {x : List UInt8} {p i : Int} {W : World} (k : LRdS w0 x W) : RfS w0 x p i (some (W.heap.size, false)) (W.alloc (.cells #[.int .i64 0, .int .i64 0] 68)) :=
  ⟨⟨k.page.alloc _, k.res.alloc _, k.below.alloc k.below.size _⟩, RowAt.lt k.res, rowAt_new W (planL 0 0) _⟩
theorem RfS.put {w0 : World} {x : List UInt8} {p i : Int} {g : Nat} {W : World} (k : RfS w0 x p i (some (g, false)) W) : RfS w0 x p i (some (g, true)) (W.setCells g 0 (planL p i)) := by
  obtain ⟨h1, h2, h3⟩ := k
  exact ⟨⟨h1.page.put_other _ _ _ (by omega), h1.res.put_other _ _ _ (by omega), below_setCells _ (by omega) _ _ _ h1.below⟩, h2, RowAt.put h3 _ rfl⟩
theorem LRdS.back {w0 : World} {x : List UInt8} {W : World} (k : LRdS w0 x W) (p i : Int) : RowAt (W.setCells (w0.heap.size + 1) 0 (planL p i)) (w0.heap.size + 1) (planL p i) ∧ Below w0.heap.size w0 (W.setCells (w0.heap.size + 1) 0 (planL p i)) :=
  ⟨k.res.put _ rfl, below_setCells _ (by omega) _ _ _ k.below⟩
theorem lread_any (x : List UInt8) (w : World) (hx : x.length = 64) :
    Calls Tryz.prog 101 #[pageV x] w fun e w' => e = .returned (if Pl.readB x = true then .tuple #[planV (Pg.getN x 4 2) (Pg.getN x 6 2), .int .i64 0] else .tuple #[planV 0 0, .int .i64 22]) ∧ Below w.heap.size w w' := by
  have G4 := Lib.hid (fun (w : World) => get_any x 4 2 w hx (by omega) (by omega))
  have G6 := Lib.hid (fun (w : World) => get_any x 6 2 w hx (by omega) (by omega))
  have HR : Hid (Pl.readB x = (Pl.rightB (Pg.getN x 4 2) (Pg.getN x 6 2) && decide (Pl.superP (Pg.getN x 4 2) (Pg.getN x 6 2) = x))) := Lib.hid rfl
  have HS := Lib.hid (read_box w x hx)
  generalize Pl.readB x = r at HR ⊢
  generalize Pg.getN x 4 2 = p at *
  generalize Pg.getN x 6 2 = i at *
  unfold pageV
  go_enter Tryz.func101, Tryz.ntmps101
  go_wp2_with fail
  rw [pageV_def]
  refine wp_region_lin (RfS w x p i) (fun i => i == 5 || i == 6) (fun n => [pageV x, .int .i64 p, pageV x, .int .i64 i, planV p i].getD n undef) (none) (by kernel_rfl) (by kernel_rfl) (LRdS.drew HS.out) ?_
  refine lin_step (i := 0) (d := some 7) (v := pageV x) rfl rfl (by kernel_rfl) (by kernel_rfl) rfl rfl (ord_page (by kernel_rfl) (.tmp 1) rfl rfl (fun _ _ hS => (RfS.base hS).page)) ?_
  (try simp only [Act.put, puA, puB, puC])
  refine lin_step (i := 1) (d := some 8) (v := .int .i64 p) rfl rfl (by kernel_rfl) (by kernel_rfl) rfl rfl (ord_call (f := 142) (args := #[pageV x, .int .i64 4, .int .i64 2]) (by kernel_rfl) ?_ (fun _ _ hS => (G4.out _).mono fun _ _ ⟨he, hb⟩ => ⟨he, RfS.call hS hb⟩)) ?_
  · intro _; go_simp
  (try simp only [Act.put, puA, puB, puC])
  refine lin_step (i := 2) (d := some 9) (v := pageV x) rfl rfl (by kernel_rfl) (by kernel_rfl) rfl rfl (ord_page (by kernel_rfl) (.tmp 1) rfl rfl (fun _ _ hS => (RfS.base hS).page)) ?_
  (try simp only [Act.put, puA, puB, puC])
  refine lin_step (i := 3) (d := some 10) (v := .int .i64 i) rfl rfl (by kernel_rfl) (by kernel_rfl) rfl rfl (ord_call (f := 142) (args := #[pageV x, .int .i64 6, .int .i64 2]) (by kernel_rfl) ?_ (fun _ _ hS => (G6.out _).mono fun _ _ ⟨he, hb⟩ => ⟨he, RfS.call hS hb⟩)) ?_
  · intro _; go_simp
  (try simp only [Act.put, puA, puB, puC])
  refine lin_step (i := 4) (d := some 11) (v := planV p i) rfl rfl (by kernel_rfl) (by kernel_rfl) rfl rfl (ord_value (by kernel_rfl) ?_) ?_
  · intro _ _ _; go_simp; rfl
  (try simp only [Act.put, puA, puB, puC])
  refine lin_turn (i := 5) (d := some 4) (fun u s => ∃ g, w.heap.size + 1 < g ∧ u = .pointer (some ⟨g, 0, none⟩) ∧ s = some (g, false)) rfl rfl (by kernel_rfl) (by kernel_rfl) rfl (by kernel_rfl) (⟨_, _, w.heap.size + 2, by omega, rfl, rfl⟩) (by kernel_rfl) (fun W hS => gives_to (v := .pointer (some ⟨W.heap.size, 0, none⟩)) (w' := W.alloc (.cells #[.int .i64 0, .int .i64 0] 68)) (by go_simp) ⟨some (W.heap.size, false), ⟨W.heap.size, RowAt.lt (LRdS.res hS), rfl, rfl⟩, LRdS.alloc hS⟩) ?_
  rintro _ _ ⟨g, hg, rfl, rfl⟩
  (try simp only [Act.put, puA, puB, puC])
  refine lin_turn (i := 6) (d := none) (fun u s => u = undef ∧ s = some (g, true)) rfl rfl (by kernel_rfl) (by kernel_rfl) rfl (by kernel_rfl) (⟨_, _, rfl, rfl⟩) (by kernel_rfl) (fun W hS => gives_store_row planT (us := planL 0 0) (vs := planL p i) hS.2.2 rfl rfl (planL_one p i) (.tmp 4) (.tmp 11) rfl rfl rfl ⟨some (g, true), ⟨rfl, rfl⟩, RfS.put hS⟩) ?_
  rintro _ _ ⟨rfl, rfl⟩
  (try simp only [Act.put, puA, puB, puC])
  refine lin_done (by kernel_rfl) ?_
  intro W2 hS
  have S2 : Hid (LRdS w x W2) := Lib.hid hS.1
  have H2 : Hid (RowAt W2 g (planL p i)) := Lib.hid hS.2.2
  clear hS G4 G6 HS
  have HQ : Hid (pageV x = .agg (byteVals x).toArray) := Lib.hid rfl
  cases hr : Pl.rightB p i with
  | false =>
    have hr0 : r = false := by have := HR.out; rw [hr] at this; simpa using this
    subst hr0
    have HN := Lib.hid (fun w => super_no p i w hr)
    have LZ := Lib.hid zeros_length
    clear HR hr HQ
    generalize zeros = z at HN LZ
    go_wp2_with (first
      | (with_reducible refine wpList_load_rw planT H2.out rfl rfl (.tmp 4) rfl rfl ?_)
      | (go_at_call 54; refine (HN.out _).mono ?_; rintro e w3 ⟨rfl, hb3⟩; have S3 := Lib.hid (S2.out.call hb3); clear S2 H2 HN hb3)
      | ((with_reducible refine wpList_store_new rfl (.tmp 5) (.tmp 15) rfl rfl ?_ ?_ LZ.out ?_); (exact rfl); (exact rfl); intro W4 hP hb4 hz4; have S4 := Lib.hid (S3.out.call hb4); clear S3 hP hb4 hz4)
      | ((with_reducible refine wpList_store_rw planT (vs := planL 0 0) S4.out.res rfl rfl (planL_one 0 0) rfl (.tmp 2) (.tmp 24) rfl rfl ?_ ?_); (exact rfl)))
    have hq := S4.out.back 0 0
    exact bodyPost_ret (results_row2 planT _ 2 3 rfl _ hq.1 rfl rfl rfl) rfl ⟨rfl, hq.2⟩
  | true =>
    have HN := Lib.hid (fun w => super_yes p i w hr)
    have LZ := Lib.hid (Pl.super_length p i)
    by_cases hx2 : Pl.superP p i = x
    · have hr0 : r = true := by have := HR.out; rw [hr, hx2] at this; simpa using this
      subst hr0
      rw [hx2] at HN LZ
      have E1 := fun (a b : Operand) (w : World) => run_neGuard_page w a b x x
      have E2 := fun (w : World) => run_neq_same w x hx
      clear HR hr HQ hx2
      go_wp2_with (first
        | (with_reducible refine wpList_load_rw planT H2.out rfl rfl (.tmp 4) rfl rfl ?_)
        | (go_at_call 54; refine (HN.out _).mono ?_; rintro e w3 ⟨rfl, hb3⟩; have S3 := Lib.hid (S2.out.call hb3); have H3 := Lib.hid (RowAt.step H2.out hb3); clear S2 H2 HN hb3)
        | ((with_reducible refine wpList_store_new rfl (.tmp 5) (.tmp 15) rfl rfl ?_ ?_ LZ.out ?_); (exact rfl); (exact rfl); intro W4 hP hb4 hz4; have S4 := Lib.hid (S3.out.call hb4); have H4 := Lib.hid (RowAt.step H3.out hb4); have P4 := Lib.hid hP; clear S3 H3 hP hb4 hz4; generalize w3.heap.size = D at P4 ⊢)
        | ((with_reducible refine wpList_load_guarded P4.out (.tmp 5) rfl rfl ?_ ?_); (exact rfl))
        | ((with_reducible refine wpList_load_guarded S4.out.page (.tmp 1) rfl rfl ?_ ?_); (exact rfl))
        | (with_reducible refine wpList_load_rw planT H4.out rfl rfl (.tmp 4) rfl rfl ?_)
        | ((with_reducible refine wpList_store_rw planT (vs := planL p i) S4.out.res rfl rfl (planL_one p i) rfl (.tmp 2) (.tmp 25) rfl rfl ?_ ?_); (exact rfl)))
      have hq := S4.out.back p i
      exact bodyPost_ret (results_row2 planT _ 2 3 rfl _ hq.1 rfl rfl rfl) rfl ⟨rfl, hq.2⟩
    · have hr0 : r = false := by have := HR.out; rw [hr, decide_eq_false hx2] at this; simpa using this
      subst hr0
      have E1 := fun (a b : Operand) (w : World) => run_neGuard_page w a b (Pl.superP p i) x
      have E2 : ∀ (w : World), (binOp .neq 97 (pageV (Pl.superP p i)) (pageV x)).run Tryz.prog w = .ok (.bool true) w := fun (w : World) => by
        rw [run_neq_page w (Pl.superP p i) x (Pl.super_length p i) hx, decide_eq_false hx2]; rfl
      clear HR hr HQ hx2
      generalize Pl.superP p i = z at HN LZ E1 E2
      go_wp2_with (first
        | (with_reducible refine wpList_load_rw planT H2.out rfl rfl (.tmp 4) rfl rfl ?_)
        | (go_at_call 54; refine (HN.out _).mono ?_; rintro e w3 ⟨rfl, hb3⟩; have S3 := Lib.hid (S2.out.call hb3); clear S2 H2 HN hb3)
        | ((with_reducible refine wpList_store_new rfl (.tmp 5) (.tmp 15) rfl rfl ?_ ?_ LZ.out ?_); (exact rfl); (exact rfl); intro W4 hP hb4 hz4; have S4 := Lib.hid (S3.out.call hb4); have P4 := Lib.hid hP; clear S3 hP hb4 hz4; generalize w3.heap.size = D at P4 ⊢)
        | ((with_reducible refine wpList_load_guarded P4.out (.tmp 5) rfl rfl ?_ ?_); (exact rfl))
        | ((with_reducible refine wpList_load_guarded S4.out.page (.tmp 1) rfl rfl ?_ ?_); (exact rfl))
        | ((with_reducible refine wpList_store_rw planT (vs := planL 0 0) S4.out.res rfl rfl (planL_one 0 0) rfl (.tmp 2) (.tmp 24) rfl rfl ?_ ?_); (exact rfl)))
      have hq := S4.out.back 0 0
      exact bodyPost_ret (results_row2 planT _ 2 3 rfl _ hq.1 rfl rfl rfl) rfl ⟨rfl, hq.2⟩
end

section
open Go.RowKit Go.Maps
open Dk (zeros zeros_length)
open Ii (Ino)
open Jn (Chg Cl)
theorem planOf_yes {w : World} {d l m : Nat} {s : Dk.St} {n I : Int} (h : DiskAt w d l m s) (hc : Cl s) (hn : (s.last.length : Int) = n) (hp : s.last.getD 0 [] = Pl.superP n I) (hpl : Pl.rightB n I = true) : Calls Tryz.prog 57 #[.pointer (some ⟨d, 0, none⟩)] w fun e w' => e = .returned (.tuple #[planV n I, .int .i64 0]) ∧ Below w.heap.size w w' := by
  obtain ⟨h1, h2, h3, h4⟩ := Pl.right_yes hpl
  have hd := Pl.data_bd h1 h2
  obtain ⟨q1, q2, q3⟩ := Pl.read_super n I hpl
  have HRD : Hid (∀ W, Below w.heap.size w W → Calls Tryz.prog 100 #[.pointer (some ⟨d, 0, none⟩), .int .i64 0] W fun e w' => e = .returned (.tuple #[pageV (Pl.superP n I), .int .i64 0]) ∧ Below W.heap.size W w') := Lib.hid (fun W hb => by
    have := read_any (h.below hb) 0
    have e1 : Dk.reachE s 0 = 0 := Dk.reach_mk hc.up (Dk.has_mk (k := 0) (by omega))
    have e2 : Dk.readP s ((0 : Nat) : Int) = s.last.getD 0 [] := read_clean hc (by omega)
    have e3 : Dk.readP s 0 = Pl.superP n I := e2.trans hp
    rw [e1, e3] at this
    exact this)
  have HPR : Hid (∀ W, Calls Tryz.prog 101 #[pageV (Pl.superP n I)] W fun e w' => e = .returned (.tuple #[.agg #[.int .i64 n, .int .i64 I], .int .i64 0]) ∧ Below W.heap.size W w') := Lib.hid (fun W => by
    have := lread_any (Pl.superP n I) W (Pl.super_length _ _)
    rw [q1, if_pos rfl, q2, q3] at this
    exact this)
  have HPG : Hid (∀ W, Below w.heap.size w W → Calls Tryz.prog 53 #[.pointer (some ⟨d, 0, none⟩)] W fun e w' => e = .returned (.int .i64 n) ∧ W = w') := Lib.hid (fun W hb => by
    have := pages_any (h.below hb)
    rw [hn] at this
    exact this)
  have HSL : Hid ((Pl.superP n I).length = 64) := Lib.hid (Pl.super_length _ _)
  have S := Lib.hid ((Lo.start (L := []) w (by simp)).alloc _ rfl [.int .i64 0, .int .i64 0] 68)
  clear h hc hp hpl h1 h2 h3 h4 hd q1 q2 q3
  generalize Pl.superP n I = sp at HRD HPR HSL
  go_enter Tryz.func57, Tryz.ntmps57
  go_wp2_with fail
  generalize hw : World.alloc _ _ = w1
  have S1 : Hid (Lo [] w [(w.heap.size, [.int .i64 0, .int .i64 0])] w1) := Lib.hid (by rw [← hw]; exact S.out)
  clear hw S
  go_wp2_with (first
    | (go_at_call 100; (with_reducible refine (HRD.out _ S1.out.bel).mono ?_); rintro e w2 ⟨rfl, hb⟩; replace S1 := Lib.hid (S1.out.below hb); clear hb)
    | ((with_reducible refine wpList_store_new rfl (.tmp 4) (.tmp 10) rfl rfl ?_ ?_ HSL.out ?_); (exact rfl); (exact rfl); intro W2 hP hB2 hz2; have S2 := Lib.hid (S1.out.made hP.rowAt hB2 hz2); clear hP hB2 hz2 S1)
    | (with_reducible refine wpList_load_page (S2.out.page 1 rfl HSL.out) rfl (.tmp 4) rfl rfl ?_)
    | (go_at_call 101; (with_reducible refine (HPR.out _).mono ?_); rintro e w2 ⟨rfl, hb⟩; replace S2 := Lib.hid (S2.out.below hb); clear hb)
    | ((with_reducible refine wpList_store_newrow (vs := [.int .i64 n, .int .i64 I]) planT2 ?_ (planL_one2 n I) rfl (.tmp 6) (.tmp 19) rfl rfl ?_ ?_ ?_); (exact rfl); (exact rfl); (exact rfl); intro W2 hP hB2 hz2; have S3 := Lib.hid (S2.out.made hP hB2 hz2); clear hP hB2 hz2 S2))
  have c0 := (S3.out.get 2 _ rfl).cell 0 _ rfl
  go_quiet ((go_at_call 53; refine Calls.quiet_of_same ((HPG.out _ (S3.out.drewN _).bel).mono fun e w' h => ⟨h.1, h.2.symm⟩)))
  have S4 := Lib.hid (S3.out.drewN nq)
  generalize World.drewN _ _ = W5 at S4 ⊢
  go_wp2_with (first
    | (with_reducible refine wpList_load_mid rfl 68 (.tmp 6) rfl _ 0 rfl [.int .i64 n, .int .i64 I] _ (S4.out.get 2 _ rfl).range Tryz.underlying68 rfl (by kernel_rfl) ?_)
    | ((with_reducible refine wpList_store_rw (vs := [.int .i64 n, .int .i64 I]) planT2 (S4.out.get 0 _ rfl) ?_ ?_ (planL_one2 n I) rfl (.tmp 2) (.tmp 31) rfl ?_ ?_ ?_); (exact rfl); (exact rfl); (exact rfl); (exact rfl)))
  have S5 := Lib.hid (S4.out.put 0 _ rfl [.int .i64 n, .int .i64 I] rfl)
  exact bodyPost_ret (results_row2 planT2 _ 2 3 rfl _ (S5.out.get 0 _ rfl) rfl rfl rfl) rfl ⟨rfl, S5.out.bel⟩
end
end Go.Proofs.YtmpfcgjjejlhdaaGreat
