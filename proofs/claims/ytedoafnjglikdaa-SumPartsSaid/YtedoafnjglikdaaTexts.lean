/-
  The contracts of long and of the document's Joined over a row of texts.
-/
import Derived.Test.YtedoafnjglikdaaMore
import Derived.ProofKit
import Derived.SliceStrings
import Derived.SizedLaws
namespace Go.Proofs.Ytedoafnjglikdaa
open Go.RowKit

theorem StrRow.below {w w' : World} {A : Option Addr} {n : Nat} {ss : List ByteArray} (h : StrRow w A n ss) (hb : Below w.heap.size w w') : StrRow w' A n ss where
  len := h.len
  small := h.small
  fit := h.fit
  cells := fun hn => by
    obtain ⟨b, off, rfl, hlt, hc⟩ := h.cells hn
    exact ⟨b, off, rfl, Nat.lt_of_lt_of_le hlt hb.size, fun i hi => (hb.cell (p := ⟨b, off + i, none⟩) hlt).trans (hc i hi)⟩

/-- the same, and no text is longer than what memory holds -/
structure TextRow (w : World) (A : Option Addr) (n : Nat) (ss : List ByteArray) : Prop extends StrRow w A n ss where
  reach : ∀ i, (ss.getD i ByteArray.empty).size ≤ 140737488351232
theorem TextRow.below {w w' : World} {A : Option Addr} {n : Nat} {ss : List ByteArray} (h : TextRow w A n ss) (hb : Below w.heap.size w w') : TextRow w' A n ss :=
  ⟨h.toStrRow.below hb, h.reach⟩

theorem len_take_le (ss : List ByteArray) (k : Nat) : (bytesOf (ss.take k)).length ≤ (bytesOf ss).length := by
  conv => rhs; rw [← List.take_append_drop k ss, bytesOf_append]
  simp
theorem len_take_one (ss : List ByteArray) (k : Nat) (h : k < ss.length) : (bytesOf (ss.take (k + 1))).length = (bytesOf (ss.take k)).length + (ss.getD k ByteArray.empty).size := by
  rw [take_one ss k h, bytesOf_snoc]; simp

set_option maxHeartbeats 400000 in
theorem long_many (A : Option Addr) (n c : Nat) (w : World) (hn : 60 < n) (hm : n ≤ maxLen) :
    Calls Try.prog 9 #[.slice A n c] w fun e w' => e = .returned (.bool true) ∧ w = w' := by
  unfold maxLen at hm
  go_enter Try.func9, Try.ntmps9
  go_wp2
  go_ret
  exact ⟨rfl, rfl⟩

set_option maxHeartbeats 400000 in
theorem long_zero (A : Option Addr) (c : Nat) (w : World) :
    Calls Try.prog 9 #[.slice A 0 c] w fun e w' => e = .returned (.bool false) ∧ w = w' := by
  go_enter Try.func9, Try.ntmps9
  go_wp2
  go_loop [3, 11] (fun t i => t = .int .i64 0 ∧ i = .int .i64 0) (fun _ _ => 0)
  case atStart => exact ⟨rfl, rfl⟩
  case round =>
    obtain ⟨rfl, rfl⟩ := hrel
    go_wp2
    go_ret
    exact ⟨rfl, rfl⟩

set_option maxHeartbeats 400000 in
theorem long_no (b off n c : Nat) (ss : List ByteArray) (w : World) (hn : n ≤ 60) (hl : ss.length = n) (ht : (bytesOf ss).length ≤ 3000)
    (hcell : ∀ i, i < n → w.cell? ⟨b, off + i, none⟩ = some (.string (ss.getD i ByteArray.empty))) :
    Calls Try.prog 9 #[.slice (some ⟨b, off, none⟩) n c] w fun e w' => e = .returned (.bool false) ∧ w = w' := by
  have HC := Lib.hid hcell; clear hcell
  have HL := Lib.hid hl; clear hl
  go_enter Try.func9, Try.ntmps9
  go_wp2
  go_loop [3, 11] (fun t i => ∃ k : Nat, k ≤ n ∧ i = .int .i64 k ∧ t = .int .i64 ((bytesOf (ss.take k)).length : Int)) (fun _ i => n - (intOf i).toNat)
  case atStart => exact ⟨0, Nat.zero_le _, rfl, rfl⟩
  case round =>
    obtain ⟨k, hk, rfl, rfl⟩ := hrel
    by_cases hlt : k < n
    · have hc := HC.out k hlt
      have h1 := len_take_one ss k (by rw [HL.out]; exact hlt)
      have h2 := len_take_le ss (k + 1)
      have HS := Lib.hid h1
      have h3 : (bytesOf (ss.take k)).length + (ss.getD k ByteArray.empty).size ≤ 3000 := by omega
      clear h1 h2
      generalize ss.getD k ByteArray.empty = s at hc h3 HS
      generalize (bytesOf (ss.take k)).length = m at h3 HS ⊢
      go_wp2
      go_round
      case rel => exact ⟨k + 1, by omega, by go_num, by rw [HS.out]; go_num⟩
      case measure => simp [intOf]; omega
    · go_wp2
      go_ret
      exact ⟨rfl, rfl⟩

set_option maxHeartbeats 400000 in
theorem long_yes (b off n c : Nat) (ss : List ByteArray) (w : World) (hn : n ≤ 60) (hl : ss.length = n) (ht : 3000 < (bytesOf ss).length)
    (hfit : ∀ i, (ss.getD i ByteArray.empty).size ≤ 140737488351232) (hcell : ∀ i, i < n → w.cell? ⟨b, off + i, none⟩ = some (.string (ss.getD i ByteArray.empty))) :
    Calls Try.prog 9 #[.slice (some ⟨b, off, none⟩) n c] w fun e w' => e = .returned (.bool true) ∧ w = w' := by
  have HC := Lib.hid hcell; clear hcell
  have HL := Lib.hid hl; clear hl
  have HF := Lib.hid hfit; clear hfit
  go_enter Try.func9, Try.ntmps9
  go_wp2
  go_loop [3, 11] (fun t i => ∃ k : Nat, k ≤ n ∧ i = .int .i64 k ∧ (bytesOf (ss.take k)).length ≤ 3000 ∧ t = .int .i64 ((bytesOf (ss.take k)).length : Int)) (fun _ i => n - (intOf i).toNat)
  case atStart => exact ⟨0, Nat.zero_le _, rfl, by simp [bytesOf], rfl⟩
  case round =>
    obtain ⟨k, hk, rfl, hsm, rfl⟩ := hrel
    by_cases hlt : k < n
    · have hc := HC.out k hlt
      have h0 := HF.out k
      have HS := Lib.hid (len_take_one ss k (by rw [HL.out]; exact hlt))
      generalize ss.getD k ByteArray.empty = s at hc HS h0
      by_cases hg : (bytesOf (ss.take k)).length + s.size ≤ 3000
      · generalize (bytesOf (ss.take k)).length = m at hg HS hsm ⊢
        go_wp2
        go_round
        case rel => exact ⟨k + 1, by omega, by go_num, by rw [HS.out]; exact hg, by rw [HS.out]; go_num⟩
        case measure => simp [intOf]; omega
      · have hg' : (3000 : Int) < ((bytesOf (ss.take k)).length : Int) + (s.size : Int) := by omega
        clear HS
        generalize (bytesOf (ss.take k)).length = m at hg hsm hg' ⊢
        go_wp2
        go_ret
        exact ⟨rfl, rfl⟩
    · have HK : ss.take k = ss := List.take_of_length_le (by rw [HL.out]; omega)
      rw [HK] at hsm
      omega

/-- short texts -/
theorem long_short (A : Option Addr) (n c : Nat) (ss : List ByteArray) (w : World) (h : StrRow w A n ss) (hn : n ≤ 60) (ht : (bytesOf ss).length ≤ 3000) :
    Calls Try.prog 9 #[.slice A n c] w fun e w' => e = .returned (.bool false) ∧ w = w' := by
  by_cases h0 : n = 0
  · subst h0; exact long_zero A c w
  · obtain ⟨b, off, rfl, _, hc⟩ := h.cells (by omega)
    exact long_no b off n c ss w hn h.len ht hc
/-- long texts -/
theorem long_long (A : Option Addr) (n c : Nat) (ss : List ByteArray) (w : World) (h : TextRow w A n ss) (ht : ¬ (n ≤ 60 ∧ (bytesOf ss).length ≤ 3000)) :
    Calls Try.prog 9 #[.slice A n c] w fun e w' => e = .returned (.bool true) ∧ w = w' := by
  by_cases hn : 60 < n
  · exact long_many A n c w hn h.small
  · by_cases h0 : n = 0
    · subst h0
      have hs : ss = [] := List.eq_nil_of_length_eq_zero h.len
      subst hs
      exact absurd ⟨by omega, by simp [bytesOf]⟩ ht
    · obtain ⟨b, off, rfl, _, hc⟩ := h.cells (by omega)
      exact long_yes b off n c ss w (by omega) h.len (by omega) h.reach hc

def joined (ss : List ByteArray) : ByteArray := ⟨(bytesOf ss).toArray⟩
theorem joined_snoc (ss : List ByteArray) (k : Nat) (h : k < ss.length) : joined (ss.take (k + 1)) = joined (ss.take k) ++ ss.getD k ByteArray.empty := by
  unfold joined
  rw [take_one ss k h, bytesOf_snoc]
  apply ByteArray.ext
  simp [ByteArray.data_append]
theorem joined_size (ss : List ByteArray) : (joined ss).size = (bytesOf ss).length := by simp [joined, ByteArray.size]
theorem joined_nil : joined [] = ByteArray.empty := rfl

set_option maxHeartbeats 400000 in
theorem join_zero (A : Option Addr) (c : Nat) (w : World) :
    Calls Try.prog 10 #[.slice A 0 c] w fun e w' => e = .returned (.string ⟨#[]⟩) ∧ w = w' := by
  go_enter Try.func10, Try.ntmps10
  go_wp2
  go_loop [3, 4] (fun t i => t = .string ⟨#[]⟩ ∧ i = .int .i64 0) (fun _ _ => 0)
  case atStart => exact ⟨rfl, rfl⟩
  case round =>
    obtain ⟨rfl, rfl⟩ := hrel
    go_wp2
    go_ret
    exact ⟨rfl, rfl⟩

set_option maxHeartbeats 400000 in
theorem join_row (b off n c : Nat) (ss : List ByteArray) (w : World) (hn : n ≤ 60) (hl : ss.length = n) (ht : (bytesOf ss).length ≤ 3000)
    (hcell : ∀ i, i < n → w.cell? ⟨b, off + i, none⟩ = some (.string (ss.getD i ByteArray.empty))) :
    Calls Try.prog 10 #[.slice (some ⟨b, off, none⟩) n c] w fun e w' => e = .returned (.string (joined ss)) ∧ w = w' := by
  have HC := Lib.hid hcell; clear hcell
  have HL := Lib.hid hl; clear hl
  go_enter Try.func10, Try.ntmps10
  go_wp2
  go_loop [3, 4] (fun t i => ∃ k : Nat, k ≤ n ∧ i = .int .i64 k ∧ t = .string (joined (ss.take k))) (fun _ i => n - (intOf i).toNat)
  case atStart => exact ⟨0, Nat.zero_le _, rfl, rfl⟩
  case round =>
    obtain ⟨k, hk, rfl, rfl⟩ := hrel
    by_cases hlt : k < n
    · have hc := HC.out k hlt
      have HS := Lib.hid (joined_snoc ss k (by rw [HL.out]; exact hlt))
      have h1 := len_take_one ss k (by rw [HL.out]; exact hlt)
      have h2 := len_take_le ss (k + 1)
      have h4 := joined_size (ss.take k)
      have h3 : (joined (ss.take k)).size + (ss.getD k ByteArray.empty).size ≤ 3000 := by omega
      clear h1 h2 h4
      generalize ss.getD k ByteArray.empty = s at hc h3 HS
      generalize joined (ss.take k) = m at h3 HS ⊢
      go_wp2
      go_round
      case rel => exact ⟨k + 1, by omega, by go_num, by rw [HS.out]⟩
      case measure => simp [intOf]; omega
    · have HK : Hid (ss.take k = ss) := Lib.hid (List.take_of_length_le (by rw [HL.out]; omega))
      go_wp2
      go_ret
      exact ⟨by rw [HK.out]; rfl, rfl⟩

theorem joined_any (A : Option Addr) (n c : Nat) (ss : List ByteArray) (w : World) (h : StrRow w A n ss) (hn : n ≤ 60) (ht : (bytesOf ss).length ≤ 3000) :
    Calls Try.prog 10 #[.slice A n c] w fun e w' => e = .returned (.string (joined ss)) ∧ w = w' := by
  by_cases h0 : n = 0
  · subst h0
    have hs : ss = [] := List.eq_nil_of_length_eq_zero h.len
    subst hs
    exact join_zero A c w
  · obtain ⟨b, off, rfl, _, hc⟩ := h.cells (by omega)
    exact join_row b off n c ss w hn h.len ht hc

/-! ### what the laws call -/
def moreL (x : Int) (ss : List ByteArray) : Int := Mt.joinN (Mt.run (Mt.splitN x) (bytesOf ss))
theorem moreL_bd (x : Int) (ss : List ByteArray) : 0 ≤ moreL x ss ∧ moreL x ss < 4294967296 := Mt.join_bd _ (Mt.fit_run _ _ (Mt.fit_split x))
theorem more_L (x : Int) (A : Option Addr) (n c : Nat) (ss : List ByteArray) (w : World) (h0 : 0 ≤ x) (h1 : x < 4294967296) (h : StrRow w A n ss) :
    Calls Try.prog 13 #[.int .u32 x, .slice A n c] w fun e w' => e = .returned (.int .u32 (moreL x ss)) ∧ w = w' := more_any x A n c ss w h0 h1 h
theorem sum_L (A : Option Addr) (n c : Nat) (ss : List ByteArray) (w : World) (h : StrRow w A n ss) :
    Calls Try.prog 11 #[.slice A n c] w fun e w' => e = .returned (.int .u32 (moreL 0 ss)) ∧ w = w' := sum_any A n c ss w h
theorem ref_L (x : Int) (ss : List ByteArray) (w : World) (h0 : 0 ≤ x) (h1 : x < 4294967296) (hs : (bytesOf ss).length ≤ 3000) :
    Calls Try.prog 12 #[.int .u32 x, .string (joined ss)] w fun e w' => e = .returned (.int .u32 (moreL x ss)) ∧ w = w' :=
  ref_any x (joined ss) w h0 h1 (by rw [joined_size]; unfold maxLen; omega)

/-! ### an argument that is a row of texts -/
open Go.ChangeShapes Go.WideShapes
theorem weigh {H : Type} (e : TypeId) (ss : List ByteArray) : ∀ s ∈ ss, s.data.toList.length ∈ DataW.weightsAll (H := H) Try.prog e (strs ss) := by
  induction ss with
  | nil => intro s hs; cases hs
  | cons a r ih =>
    intro s hs
    show s.data.toList.length ∈ DataW.weights Try.prog e (.lit (.string a.data.toList)) ++ DataW.weightsAll Try.prog e (strs r)
    rw [List.mem_append]
    rcases List.mem_cons.1 hs with rfl | hs
    · exact .inl (by simp [DataW.weights])
    · exact .inr (ih s hs)

theorem open_texts {H : Type} {enc : TypeId × Value → H} {W : World} {base : Nat} {ts : List TypeId} {ds : List (DataW H)} {j : Nat} {v : Value} {d : DataW H} {p : List MemPlace}
    (hsz : (DataW.weightsEach Try.prog ts ds).all (· ≤ reachBytes) = true) (ht : ts[j]? = some 23) (hd : ds[j]? = some d) (hv : Value.okWide Try.prog W .any base 23 v)
    (h : DataW.Trod enc Try.prog W 0 (fun _ => true) true 23 v d p) : ∃ A n c ss, v = .slice A n c ∧ TextRow W A n ss := by
  obtain ⟨A, n, c, rfl⟩ := okWide_slice Try.underlying23 hv
  obtain ⟨fuel, hf⟩ := h
  rcases open_strings Try.underlying23 Try.underlying9 (by kernel_rfl) hf with ⟨hcs, _⟩ | ⟨a, len, cap, ss, hcs, _, hl, hm, hz, hx, hcell, hws⟩
  · simp [Value.cells] at hcs
    obtain ⟨rfl, rfl, rfl⟩ := hcs
    exact ⟨_, _, _, [], rfl, strRow_nil W, fun i => by simp⟩
  · simp [Value.cells] at hcs
    obtain ⟨rfl, rfl, rfl⟩ := hcs
    simp only [if_true] at hz
    simp only [Prod.mk.injEq] at hx
    have hd' : ds[j]? = some (.slice (strs (ss.take n)) (strs (ss.drop n))) := by rw [hd, hx.1]
    have hreach : ∀ s ∈ ss.take n, s.size ≤ 140737488351232 := by
      intro s hs
      have hm := List.all_eq_true.1 hsz _ (DataW.weights_mem_each ht hd' s.data.toList.length (by
        simp only [DataW.weights, Try.underlying23, List.mem_cons, List.mem_append]
        exact .inr (.inl (weigh 9 _ s hs))))
      have hm' := of_decide_eq_true hm
      have e : s.data.toList.length = s.size := by simp
      rw [e] at hm'
      exact hm'
    have hlen : (ss.take n).length = n := by simp; omega
    have hget : ∀ i, i < n → (ss.take n).getD i ByteArray.empty = ss.getD i ByteArray.empty := by
      intro i hi
      simp [List.getD_eq_getElem?_getD, hi]
    have hr : ∀ i, ((ss.take n).getD i ByteArray.empty).size ≤ 140737488351232 := by
      intro i
      by_cases hi : i < (ss.take n).length
      · have e : (ss.take n).getD i ByteArray.empty = (ss.take n)[i] := by rw [List.getD_eq_getElem?_getD, List.getElem?_eq_getElem hi]; rfl
        rw [e]; exact hreach _ (List.getElem_mem hi)
      · have e : (ss.take n).getD i ByteArray.empty = ByteArray.empty := by rw [List.getD_eq_getElem?_getD, List.getElem?_eq_none (by omega)]; rfl
        rw [e]; simp
    refine ⟨_, _, _, ss.take n, rfl, ⟨hlen, by omega, fun i => Nat.le_trans (hr i) (by unfold maxLen; omega), fun hn => ?_⟩, hr⟩
    obtain ⟨b, off, spot⟩ := a
    have hc0 := hcell 0 (by omega)
    have hspot : spot = none := by simpa [Addr.add] using World.cell?_spot hc0
    subst hspot
    have hadd : ∀ i, (⟨b, off, none⟩ : Addr).add i = ⟨b, off + i, none⟩ := fun i => by unfold Addr.add; split <;> simp_all
    refine ⟨b, off, rfl, ?_, fun i hi => ?_⟩
    · exact World.block_lt_of_cell? W _ (by rw [hadd] at hc0; exact hc0)
    · rw [hget i hi, ← hadd]; exact hcell i (by omega)
end Go.Proofs.Ytedoafnjglikdaa
