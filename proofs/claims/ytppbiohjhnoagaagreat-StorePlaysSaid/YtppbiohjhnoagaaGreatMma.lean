/-
  Plain mathematics of the check sum: what the two halves become over bytes. Nothing of the program is in it.
-/
import Derived.Test.YtppbiohjhnoagaaGreatMda
import Derived.WalkKit
import Derived.WalkSpells
import Derived.WalkLawsBesides
import Derived.Laws.BitsAllLaws
import Derived.Lib.Hide
import Derived.Test.YtppbiohjhnoagaaGreatMha
namespace Go.Proofs.YtppbiohjhnoagaaGreat.Mt

/-- one byte more: the halves a and b -/
def step (p : Int × Int) (c : UInt8) : Int × Int := ((p.1 + (c.toNat : Int)) % 65535, (p.2 + (p.1 + (c.toNat : Int)) % 65535) % 65535)
def run (p : Int × Int) (l : List UInt8) : Int × Int := l.foldl step p
def joinN (p : Int × Int) : Int := p.2 * 65536 + p.1
def splitN (s : Int) : Int × Int := (s % 65536 % 65535, s / 65536 % 65535)
def Fit (p : Int × Int) : Prop := 0 ≤ p.1 ∧ p.1 < 65535 ∧ 0 ≤ p.2 ∧ p.2 < 65535

theorem fit_step (p : Int × Int) (c : UInt8) : Fit (step p c) := by
  unfold Fit step
  exact ⟨Int.emod_nonneg _ (by omega), Int.emod_lt_of_pos _ (by omega), Int.emod_nonneg _ (by omega), Int.emod_lt_of_pos _ (by omega)⟩
theorem fit_run (p : Int × Int) (l : List UInt8) (h : Fit p) : Fit (run p l) := by
  induction l generalizing p with
  | nil => exact h
  | cons c l ih => exact ih _ (fit_step p c)
theorem fit_split (s : Int) : Fit (splitN s) := by
  unfold Fit splitN
  exact ⟨Int.emod_nonneg _ (by omega), Int.emod_lt_of_pos _ (by omega), Int.emod_nonneg _ (by omega), Int.emod_lt_of_pos _ (by omega)⟩
theorem fit_zero : Fit (0, 0) := by unfold Fit; simp
theorem split_join (p : Int × Int) (h : Fit p) : splitN (joinN p) = p := by
  obtain ⟨a, b⟩ := p
  unfold Fit at h
  unfold splitN joinN
  simp only at h ⊢
  rw [Prod.mk.injEq]
  exact ⟨by omega, by omega⟩
theorem split_zero : splitN 0 = (0, 0) := by decide
theorem run_append (p : Int × Int) (l r : List UInt8) : run p (l ++ r) = run (run p l) r := by
  unfold run; rw [List.foldl_append]
theorem run_nil (p : Int × Int) : run p [] = p := rfl
theorem run_snoc (p : Int × Int) (l : List UInt8) (c : UInt8) : run p (l ++ [c]) = step (run p l) c := by
  rw [run_append]; rfl
theorem join_bd (p : Int × Int) (h : Fit p) : 0 ≤ joinN p ∧ joinN p < 4294967296 := by
  unfold Fit at h; unfold joinN; omega
theorem join_inj (p q : Int × Int) (hp : Fit p) (hq : Fit q) (h : joinN p = joinN q) : p = q := by
  rw [← split_join p hp, ← split_join q hq, h]

/-- the halves of bytes in closed form: the sum of bytes, and the sum of the sums -/
def sums : Int → Int → List UInt8 → Int × Int
  | a, b, [] => (a, b)
  | a, b, c :: l => sums (a + (c.toNat : Int)) (b + (a + (c.toNat : Int))) l
theorem run_sums (a b : Int) (l : List UInt8) : run (a % 65535, b % 65535) l = ((sums a b l).1 % 65535, (sums a b l).2 % 65535) := by
  induction l generalizing a b with
  | nil => rfl
  | cons c l ih =>
    show run (step (a % 65535, b % 65535) c) l = _
    have e : step (a % 65535, b % 65535) c = ((a + (c.toNat : Int)) % 65535, (b + (a + (c.toNat : Int))) % 65535) := by
      unfold step; simp only; rw [Prod.mk.injEq]; exact ⟨by omega, by omega⟩
    rw [e, ih]; rfl
/-- what more in the two halves at the start makes of them at the end -/
theorem sums_more (a b x y : Int) (l : List UInt8) : sums (a + x) (b + y) l = ((sums a b l).1 + x, (sums a b l).2 + y + x * l.length) := by
  induction l generalizing a b y with
  | nil => simp [sums]
  | cons c l ih =>
    unfold sums
    have e1 : a + x + (c.toNat : Int) = a + (c.toNat : Int) + x := by omega
    have e2 : b + y + (a + x + (c.toNat : Int)) = b + (a + (c.toNat : Int)) + (y + x) := by omega
    rw [e2, e1, ih]
    rw [Prod.mk.injEq]
    refine ⟨rfl, ?_⟩
    rw [List.length_cons, Int.natCast_add, Int.mul_add]
    omega
theorem sums_append (a b : Int) (l r : List UInt8) : sums a b (l ++ r) = sums (sums a b l).1 (sums a b l).2 r := by
  induction l generalizing a b with
  | nil => rfl
  | cons c l ih => exact ih _ _
theorem run_zero (l : List UInt8) : run (0, 0) l = ((sums 0 0 l).1 % 65535, (sums 0 0 l).2 % 65535) := run_sums 0 0 l

/-- one byte another: the sums differ -/
theorem tells (l r : List UInt8) (c d : UInt8) (h : run (0, 0) (l ++ c :: r) = run (0, 0) (l ++ d :: r)) : c = d := by
  rw [run_zero, run_zero, Prod.mk.injEq] at h
  obtain ⟨h, _⟩ := h
  rw [sums_append, sums_append] at h
  generalize (sums 0 0 l).1 = a at h
  generalize (sums 0 0 l).2 = b at h
  unfold sums at h
  have e1 : a + (d.toNat : Int) = a + (c.toNat : Int) + ((d.toNat : Int) - (c.toNat : Int)) := by omega
  have e2 : b + (a + (d.toNat : Int)) = b + (a + (c.toNat : Int)) + ((d.toNat : Int) - (c.toNat : Int)) := by omega
  rw [e2, e1, sums_more (a + (c.toNat : Int)) (b + (a + (c.toNat : Int))) ((d.toNat : Int) - (c.toNat : Int)) ((d.toNat : Int) - (c.toNat : Int))] at h
  simp only at h
  generalize (sums (a + (c.toNat : Int)) (b + (a + (c.toNat : Int))) r).1 = x at h
  have hc := c.toNat_lt
  have hd := d.toNat_lt
  apply UInt8.toNat_inj.1
  omega

/-- two bytes changed places: the sums differ if they are unlike and at most 256 places apart -/
theorem swaps (l m r : List UInt8) (c d : UInt8) (hm : m.length + 1 ≤ 256) (h : run (0, 0) (l ++ c :: (m ++ d :: r)) = run (0, 0) (l ++ d :: (m ++ c :: r))) : c = d := by
  rw [run_zero, run_zero, Prod.mk.injEq] at h
  obtain ⟨_, h⟩ := h
  rw [sums_append, sums_append] at h
  generalize (sums 0 0 l).1 = a at h
  generalize (sums 0 0 l).2 = b at h
  unfold sums at h
  rw [sums_append, sums_append] at h
  have e1 : a + (d.toNat : Int) = a + (c.toNat : Int) + ((d.toNat : Int) - (c.toNat : Int)) := by omega
  have e2 : b + (a + (d.toNat : Int)) = b + (a + (c.toNat : Int)) + ((d.toNat : Int) - (c.toNat : Int)) := by omega
  rw [e2, e1, sums_more (a + (c.toNat : Int)) (b + (a + (c.toNat : Int))) ((d.toNat : Int) - (c.toNat : Int)) ((d.toNat : Int) - (c.toNat : Int))] at h
  simp only at h
  generalize (sums (a + (c.toNat : Int)) (b + (a + (c.toNat : Int))) m).1 = x at h
  generalize (sums (a + (c.toNat : Int)) (b + (a + (c.toNat : Int))) m).2 = y at h
  unfold sums at h
  have e3 : x + ((d.toNat : Int) - (c.toNat : Int)) + (c.toNat : Int) = x + (d.toNat : Int) + 0 := by omega
  have e4 : y + ((d.toNat : Int) - (c.toNat : Int)) + ((d.toNat : Int) - (c.toNat : Int)) * (m.length : Int) + (x + (d.toNat : Int) + 0)
      = y + (x + (d.toNat : Int)) + ((d.toNat : Int) - (c.toNat : Int)) * ((m.length : Int) + 1) := by
    rw [Int.mul_add]; omega
  rw [e3, e4, sums_more (x + (d.toNat : Int)) (y + (x + (d.toNat : Int))) 0 _] at h
  simp only [Int.zero_mul, Int.add_zero] at h
  generalize (sums (x + (d.toNat : Int)) (y + (x + (d.toNat : Int))) r).2 = z at h
  have hc := c.toNat_lt
  have hd := d.toNat_lt
  apply UInt8.toNat_inj.1
  generalize hk : (m.length : Int) + 1 = k at h
  have k1 : 1 ≤ k := by omega
  have k2 : k ≤ 256 := by omega
  have b1 : ((d.toNat : Int) - (c.toNat : Int)) * k ≤ 255 * 256 := by
    refine Int.le_trans (Int.mul_le_mul_of_nonneg_right (c := k) (show (d.toNat : Int) - (c.toNat : Int) ≤ 255 by omega) (by omega)) ?_
    omega
  have b2 : -(255 * 256) ≤ ((d.toNat : Int) - (c.toNat : Int)) * k := by
    refine Int.le_trans ?_ (Int.mul_le_mul_of_nonneg_right (c := k) (show (-255 : Int) ≤ (d.toNat : Int) - (c.toNat : Int) by omega) (by omega))
    omega
  have z0 : ((d.toNat : Int) - (c.toNat : Int)) * k = 0 := by
    generalize ((d.toNat : Int) - (c.toNat : Int)) * k = q at h b1 b2
    omega
  rcases Int.mul_eq_zero.1 z0 with e | e
  · omega
  · omega
end Go.Proofs.YtppbiohjhnoagaaGreat.Mt

/-
  The contracts of split, join and add, and of the document's own More.
-/
namespace Go.Proofs.YtppbiohjhnoagaaGreat
open Go.RowKit

set_option maxRecDepth 100000 in
theorem ret_int2 {k : IntKind} {a b c d : Int} (h : a = b) (h' : c = d) : Ending.returned (.tuple #[.int k a, .int k c]) = .returned (.tuple #[.int k b, .int k d]) := by rw [h, h']
set_option maxRecDepth 100000 in
theorem and_mask (s : Int) (h0 : 0 ≤ s) (h1 : s < 4294967296) : (bits BinOp.and IntKind.u32 s 65535).tmod 65535 = s % 65536 % 65535 := by
  rw [u32_and s 65535 h0 h1 (by omega) (by omega)]
  have e : s.toNat &&& (65535 : Int).toNat = s.toNat % 65536 := Nat.and_two_pow_sub_one_eq_mod s.toNat 16
  rw [e, Int.tmod_eq_emod_of_nonneg (by omega)]
  omega
set_option maxRecDepth 100000 in
theorem or_join (a b : Int) (h0 : 0 ≤ a) (h1 : a < 65535) (h2 : 0 ≤ b) (h3 : b < 65535) : bits BinOp.or IntKind.u32 (b * 65536) a = Mt.joinN (a, b) := by
  rw [u32_or (b * 65536) a (by omega) (by omega) (by omega) (by omega)]
  have e : (b * 65536).toNat ||| a.toNat = (b * 65536).toNat + a.toNat := nat_join 16 _ _ (by omega) (by omega)
  rw [e]
  unfold Mt.joinN
  simp only
  omega

set_option maxRecDepth 100000 in
set_option maxHeartbeats 400000 in
theorem split_any (s : Int) (w : World) (h0 : 0 ≤ s) (h1 : s < 4294967296) :
    Calls Tryz.prog 94 #[.int .u32 s] w fun e w' => e = .returned (.tuple #[.int .u32 (Mt.splitN s).1, .int .u32 (Mt.splitN s).2]) ∧ w = w' := by
  go_enter Tryz.func94, Tryz.ntmps94
  go_wp2
  go_ret2
  exact ⟨ret_int2 (and_mask s h0 h1) rfl, rfl⟩
set_option maxRecDepth 100000 in
set_option maxHeartbeats 400000 in
theorem join_any (a b : Int) (w : World) (h0 : 0 ≤ a) (h1 : a < 65535) (h2 : 0 ≤ b) (h3 : b < 65535) :
    Calls Tryz.prog 96 #[.int .u32 a, .int .u32 b] w fun e w' => e = .returned (.int .u32 (Mt.joinN (a, b))) ∧ w = w' := by
  go_enter Tryz.func96, Tryz.ntmps96
  go_wp2
  go_ret
  exact ⟨ret_int (or_join a b h0 h1 h2 h3), rfl⟩

set_option maxRecDepth 100000 in
theorem take_snoc (s : ByteArray) (k : Nat) (h : k < s.size) : s.data.toList.take (k + 1) = s.data.toList.take k ++ [s[k]] := by
  rw [List.take_succ_eq_append_getElem (by simpa using h)]; rfl

set_option maxRecDepth 100000 in
set_option maxHeartbeats 400000 in
theorem add_any (a b : Int) (s : ByteArray) (w : World) (hf : Mt.Fit (a, b)) (hs : s.size ≤ maxLen) :
    Calls Tryz.prog 95 #[.int .u32 a, .int .u32 b, .string s] w fun e w' => e = .returned (.tuple #[.int .u32 (Mt.run (a, b) s.data.toList).1, .int .u32 (Mt.run (a, b) s.data.toList).2]) ∧ w = w' := by
  unfold maxLen at hs
  go_enter Tryz.func95, Tryz.ntmps95
  go_wp2
  go_loop [0, 1, 11] (fun x y i => ∃ k : Nat, k ≤ s.size ∧ i = .int .i64 k ∧ x = .int .u32 (Mt.run (a, b) (s.data.toList.take k)).1 ∧ y = .int .u32 (Mt.run (a, b) (s.data.toList.take k)).2) (fun _ _ i => s.size - (intOf i).toNat)
  case atStart => exact ⟨0, Nat.zero_le _, rfl, rfl, rfl⟩
  case round =>
    obtain ⟨k, hk, rfl, rfl, rfl⟩ := hrel
    have hr := Mt.fit_run (a, b) (s.data.toList.take k) hf
    by_cases hlt : k < s.size
    · have HS : Hid (Mt.run (a, b) (s.data.toList.take (k + 1)) = Mt.step (Mt.run (a, b) (s.data.toList.take k)) s[k]) := Lib.hid (by rw [take_snoc s k hlt, Mt.run_snoc])
      obtain ⟨r1, r2, r3, r4⟩ := hr
      have hc := s[k].toNat_lt
      go_wp2
      go_round
      case rel => exact ⟨k + 1, by omega, by go_num, by rw [HS.out]; rfl, by rw [HS.out]; rfl⟩
      case measure => simp [intOf]; omega
    · have HK : Hid (s.data.toList.take k = s.data.toList) := Lib.hid (List.take_of_length_le (by simp; omega))
      go_wp2
      go_ret2
      exact ⟨ret_int2 (by rw [HK.out]) (by rw [HK.out]), rfl⟩

end Go.Proofs.YtppbiohjhnoagaaGreat

/-
  Plain mathematics of a journal: writes that are flushed, what a crash leaves of them, heads that are torn. Nothing of the program is in it.
-/
namespace Go.Proofs.YtppbiohjhnoagaaGreat.Jn

/-- a change: a page's number, and what it shall be -/
structure Chg where
  no : Int
  page : List UInt8

/-! ### writes, and a flush behind them -/
def runW : Dk.St → List Chg → Dk.St × Int
  | s, [] => (Dk.flush s, Dk.flushE s)
  | s, c :: r => if Dk.writeE s c.no = 0 then runW (Dk.write s c.no c.page) r else (Dk.write s c.no c.page, Dk.writeE s c.no)
def runs : Dk.St → List (List Chg) → Dk.St × Int
  | s, [] => (s, 0)
  | s, l :: r => if (runW s l).2 = 0 then runs (runW s l).1 r else runW s l
def upd (L : List (List UInt8)) (cs : List Chg) : List (List UInt8) := cs.foldl (fun L c => L.set c.no.toNat c.page) L
def updAll (L : List (List UInt8)) (ls : List (List Chg)) : List (List UInt8) := ls.foldl upd L
def cupd (C : List (Option (List UInt8))) (cs : List Chg) : List (Option (List UInt8)) := cs.foldl (fun C c => C.set c.no.toNat (some c.page)) C
def Val (n : Nat) (cs : List Chg) : Prop := ∀ c ∈ cs, Dk.hasB n c.no = true ∧ c.page.length = 64
/-- nothing in the cache, not down -/
structure Cl (s : Dk.St) : Prop where
  ok : s.Ok
  up : s.down = false
  clean : s.cache = List.replicate s.last.length none

theorem upd_length (cs : List Chg) : ∀ L, (upd L cs).length = L.length := by
  induction cs with
  | nil => intro L; rfl
  | cons c r ih => intro L; show (upd (L.set _ _) r).length = _; rw [ih, List.length_set]
theorem cupd_length (cs : List Chg) : ∀ C, (cupd C cs).length = C.length := by
  induction cs with
  | nil => intro C; rfl
  | cons c r ih => intro C; show (cupd (C.set _ _) r).length = _; rw [ih, List.length_set]
theorem updAll_length (ls : List (List Chg)) : ∀ L, (updAll L ls).length = L.length := by
  induction ls with
  | nil => intro L; rfl
  | cons c r ih => intro L; show (updAll (upd L c) r).length = _; rw [ih, upd_length]
theorem val_nat {n : Nat} {cs : List Chg} (h : Val n cs) {c : Chg} (hc : c ∈ cs) : c.no.toNat < n ∧ c.no = (c.no.toNat : Int) := by
  have := Dk.has_yes (h c hc).1
  omega

/-- all that is there now -/
def nows (s : Dk.St) : List (List UInt8) := (List.range s.last.length).map (Dk.nowAt s)
theorem nows_length (s : Dk.St) : (nows s).length = s.last.length := by unfold nows; simp
theorem nows_at (s : Dk.St) (i : Nat) (hi : i < s.last.length) : (nows s)[i]? = some (Dk.nowAt s i) := by
  unfold nows
  rw [List.getElem?_map, List.getElem?_range hi]; rfl
theorem nows_put (s : Dk.St) (h : s.cache.length = s.last.length) (i : Nat) (p : List UInt8) : nows (Dk.put s i p) = (nows s).set i p := by
  apply List.ext_getElem?
  intro j
  have hl : (Dk.put s i p).last = s.last := rfl
  rw [List.getElem?_set, nows_length]
  by_cases hj : j < s.last.length
  · rw [nows_at _ _ (by rw [hl]; exact hj)]
    by_cases e : i = j
    · subst e
      rw [if_pos rfl, if_pos hj]
      congr 1
      unfold Dk.nowAt Dk.cacheAt Dk.put
      rw [List.getD_eq_getElem?_getD]
      simp only
      rw [List.getElem?_set_self (by omega)]; rfl
    · rw [if_neg e, nows_at _ _ hj]
      congr 1
      unfold Dk.nowAt Dk.cacheAt Dk.lastAt Dk.put
      simp only [List.getD_eq_getElem?_getD]
      rw [List.getElem?_set_ne e]
  · rw [List.getElem?_eq_none (by rw [nows_length, hl]; omega)]
    by_cases e : i = j
    · rw [if_pos e, if_neg (by omega)]
    · rw [if_neg e, List.getElem?_eq_none (by rw [nows_length]; omega)]
theorem nows_spend (s : Dk.St) : nows (Dk.spend s) = nows s := by
  unfold nows
  rw [Dk.spend_last]
  congr 1
  funext i
  unfold Dk.nowAt Dk.cacheAt Dk.lastAt
  rw [Dk.spend_last, Dk.spend_cache]
theorem nows_clean {s : Dk.St} (h : s.cache = List.replicate s.last.length none) : nows s = s.last := by
  apply List.ext_getElem?
  intro j
  by_cases hj : j < s.last.length
  · rw [nows_at _ _ hj]
    unfold Dk.nowAt Dk.cacheAt Dk.lastAt
    rw [h]
    simp only [List.getD_eq_getElem?_getD]
    rw [List.getElem?_replicate, if_pos hj, List.getElem?_eq_getElem hj]; rfl
  · rw [List.getElem?_eq_none (by rw [nows_length]; omega), List.getElem?_eq_none (by omega)]
theorem spend_fine {s : Dk.St} (h : Dk.spendE s = 0) : (Dk.spend s).down = s.down := by
  unfold Dk.spendE at h
  unfold Dk.spend
  by_cases c : s.lim = true
  · rw [if_pos c]
    by_cases e : s.left = 0
    · rw [if_pos ⟨c, e⟩] at h; omega
    · rw [if_neg e]
  · rw [if_neg c]
theorem spend_broke {s : Dk.St} (h : Dk.spendE s ≠ 0) : s.lim = true ∧ Dk.spend s = { s with down := true } ∧ Dk.spendE s = 5 := by
  have h5 : Dk.spendE s = 5 := by rcases Dk.spend_vals s with e | e; exact absurd e h; exact e
  unfold Dk.spendE at h
  by_cases c : s.lim = true ∧ s.left = 0
  · refine ⟨c.1, ?_, h5⟩
    unfold Dk.spend
    rw [if_pos c.1, if_pos c.2]
  · rw [if_neg c] at h; exact absurd rfl h

theorem runW_spec (cs : List Chg) : ∀ (s : Dk.St), s.Ok → s.down = false → Val s.last.length cs →
    ((runW s cs).2 = 0 ∧ Cl (runW s cs).1 ∧ (runW s cs).1.lim = s.lim ∧ (runW s cs).1.last = upd (nows s) cs) ∨
    ((runW s cs).2 = 5 ∧ s.lim = true ∧ (runW s cs).1.Ok ∧ (runW s cs).1.down = true ∧ (runW s cs).1.last = s.last ∧ ∃ k, (runW s cs).1.cache = cupd s.cache (cs.take k)) := by
  induction cs with
  | nil =>
    intro s hok hup _
    unfold runW Dk.flush Dk.flushE
    rw [hup]
    by_cases h : Dk.spendE s = 0
    · left
      simp only [Bool.false_eq_true, if_false, h, if_true]
      refine ⟨trivial, ⟨Dk.flushed_ok (Dk.spend_ok hok), ?_, ?_⟩, ?_, ?_⟩
      · show (Dk.spend s).down = false
        rw [spend_fine h]; exact hup
      · unfold Dk.flushed
        simp
      · show (Dk.spend s).lim = s.lim
        exact Dk.spend_lim s
      · show nows (Dk.spend s) = upd (nows s) []
        rw [nows_spend]; rfl
    · right
      simp only [Bool.false_eq_true, if_false, h]
      obtain ⟨h1, h2, h3⟩ := spend_broke h
      refine ⟨h3, h1, Dk.spend_ok hok, ?_, Dk.spend_last s, 0, Dk.spend_cache s⟩
      rw [h2]
  | cons c r ih =>
    intro s hok hup hv
    have hc := hv c (by simp)
    have hr : Dk.reachE s c.no = 0 := Dk.reach_mk hup hc.1
    have hw : Dk.writeE s c.no = Dk.spendE s := by unfold Dk.writeE; rw [if_pos hr]
    unfold runW
    rw [hw]
    by_cases h : Dk.spendE s = 0
    · rw [if_pos h]
      have he : Dk.write s c.no c.page = Dk.put (Dk.spend s) c.no.toNat c.page := by unfold Dk.write; rw [if_pos hr, if_pos h]
      have hl : (Dk.put (Dk.spend s) c.no.toNat c.page).last = s.last := Dk.spend_last s
      have hok' : (Dk.put (Dk.spend s) c.no.toNat c.page).Ok := Dk.put_ok (Dk.spend_ok hok) _ hc.2
      have hup' : (Dk.put (Dk.spend s) c.no.toNat c.page).down = false := by show (Dk.spend s).down = false; rw [spend_fine h]; exact hup
      rw [he]
      rcases ih _ hok' hup' (by rw [hl]; exact fun x hx => hv x (by simp [hx])) with ⟨a1, a2, a3, a4⟩ | ⟨a1, a2, a3, a4, a5, k, a6⟩
      · left
        refine ⟨a1, a2, a3.trans (Dk.spend_lim s), a4.trans ?_⟩
        rw [nows_put _ (Dk.spend_ok hok).same, nows_spend]; rfl
      · right
        refine ⟨a1, ?_, a3, a4, a5.trans hl, k + 1, ?_⟩
        · rw [← Dk.spend_lim s]; exact a2
        · rw [a6]
          show cupd ((Dk.spend s).cache.set _ _) _ = _
          rw [Dk.spend_cache]; rfl
    · rw [if_neg h]
      right
      obtain ⟨h1, h2, h3⟩ := spend_broke h
      have he : Dk.write s c.no c.page = Dk.spend s := by unfold Dk.write; rw [if_pos hr, if_neg h]
      refine ⟨h3, h1, ?_, ?_, ?_, 0, ?_⟩
      · rw [he]; exact Dk.spend_ok hok
      · rw [he, h2]
      · rw [he]; exact Dk.spend_last s
      · rw [he]; exact Dk.spend_cache s

/-! ### crashes -/
theorem crashTo_at (s : Dk.St) (keep : List UInt8) : ∀ k i, (Dk.crashTo s keep k).1.getD i [] = Dk.lastAt s i ∨ ∃ p b, Dk.cacheAt s i = some p ∧ (Dk.crashTo s keep k).1.getD i [] = Dk.torn (Dk.lastAt s i) p b
  | 0, i => Or.inl rfl
  | k + 1, i => by
    rw [Dk.crashTo]
    rcases Dk.crashOne_cases s k (Dk.crashTo s keep k) with e | ⟨p, c, r, hp, _, e⟩
    · rw [e]; exact crashTo_at s keep k i
    · rw [e]
      by_cases hki : k = i
      · subst hki
        simp only [List.getD_eq_getElem?_getD]
        rw [List.getElem?_set]
        rw [if_pos rfl]
        by_cases hl : k < (Dk.crashTo s keep k).1.length
        · rw [if_pos hl]
          exact Or.inr ⟨p, c, hp, rfl⟩
        · rw [if_neg hl]
          rw [Dk.crashTo_len] at hl
          left
          unfold Dk.lastAt
          rw [List.getD_eq_getElem?_getD, List.getElem?_eq_none (l := s.last) (by omega)]
      · simp only [List.getD_eq_getElem?_getD]
        rw [List.getElem?_set_ne hki, ← List.getD_eq_getElem?_getD]
        exact crashTo_at s keep k i
theorem getD_ext {α : Type} (d : α) {a b : List α} (hl : a.length = b.length) (h : ∀ i, i < a.length → a.getD i d = b.getD i d) : a = b := by
  apply List.ext_getElem hl
  intro i h1 h2
  have := h i h1
  rw [List.getD_eq_getElem?_getD, List.getD_eq_getElem?_getD, List.getElem?_eq_getElem h1, List.getElem?_eq_getElem h2] at this
  exact this
theorem cacheAt_none {s : Dk.St} (h : s.cache = List.replicate s.last.length none) (i : Nat) : Dk.cacheAt s i = none := by
  unfold Dk.cacheAt
  rw [h, List.getD_eq_getElem?_getD, List.getElem?_replicate]
  split <;> rfl
theorem crash_clean {s : Dk.St} (h : Cl s) (keep : List UInt8) : (Dk.crash s keep).last = s.last := by
  refine getD_ext [] (Dk.crash_len s keep) (fun i _ => ?_)
  rcases crashTo_at s keep s.last.length i with e | ⟨p, b, hp, _⟩
  · exact e
  · rw [cacheAt_none h.clean] at hp; cases hp
theorem crash_cl {s : Dk.St} (h : s.Ok) (keep : List UInt8) : Cl (Dk.crash s keep) :=
  ⟨Dk.crash_ok h keep, rfl, by rw [Dk.crash_len]; rfl⟩
theorem fuse_cl {s : Dk.St} (h : Cl s) (k : Int) (h1 : -9223372036854775808 ≤ k) (h2 : k ≤ 9223372036854775807) : Cl (Dk.fuse s k) := ⟨Dk.fuse_ok h.ok k h1 h2, h.up, h.clean⟩
theorem cupd_mem (cs : List Chg) : ∀ (C : List (Option (List UInt8))) (i : Nat) (p : List UInt8), (cupd C cs).getD i none = some p → C.getD i none = some p ∨ ∃ c ∈ cs, c.no.toNat = i ∧ c.page = p := by
  induction cs with
  | nil => intro C i p h; exact Or.inl h
  | cons c r ih =>
    intro C i p h
    rcases ih (C.set c.no.toNat (some c.page)) i p h with e | ⟨x, hx, e⟩
    · by_cases hci : c.no.toNat = i
      · rw [List.getD_eq_getElem?_getD, List.getElem?_set, if_pos hci] at e
        by_cases hl : c.no.toNat < C.length
        · rw [if_pos hl] at e
          exact Or.inr ⟨c, by simp, hci, by simpa using e⟩
        · rw [if_neg hl] at e; cases e
      · rw [List.getD_eq_getElem?_getD, List.getElem?_set_ne hci, ← List.getD_eq_getElem?_getD] at e
        exact Or.inl e
    · exact Or.inr ⟨x, by simp [hx], e⟩
/-- of the pages that were written a beginning may be there -/
structure Trn (L : List (List UInt8)) (cs : List Chg) (L' : List (List UInt8)) : Prop where
  len : L'.length = L.length
  pages : ∀ p ∈ L', p.length = 64
  each : ∀ i, L'.getD i [] = L.getD i [] ∨ ∃ c ∈ cs, c.no.toNat = i ∧ ∃ b, L'.getD i [] = Dk.torn (L.getD i []) c.page b
theorem Trn.other {L : List (List UInt8)} {cs : List Chg} {L' : List (List UInt8)} (h : Trn L cs L') {i : Nat} (hi : ∀ c ∈ cs, c.no.toNat ≠ i) : L'.getD i [] = L.getD i [] := by
  rcases h.each i with e | ⟨c, hc, e, _⟩
  · exact e
  · exact absurd e (hi c hc)
theorem Trn.one {L : List (List UInt8)} {x : Chg} {L' : List (List UInt8)} (h : Trn L [x] L') : L'.getD x.no.toNat [] = L.getD x.no.toNat [] ∨ ∃ b, L'.getD x.no.toNat [] = Dk.torn (L.getD x.no.toNat []) x.page b := by
  rcases h.each x.no.toNat with e | ⟨c, hc, _, b, e⟩
  · exact Or.inl e
  · rw [List.mem_singleton] at hc
    subst hc
    exact Or.inr ⟨b, e⟩
theorem runs_spec (ls : List (List Chg)) : ∀ (s : Dk.St), Cl s → (∀ l ∈ ls, Val s.last.length l) →
    ((runs s ls).2 = 0 ∧ Cl (runs s ls).1 ∧ (runs s ls).1.lim = s.lim ∧ (runs s ls).1.last = updAll s.last ls) ∨
    ((runs s ls).2 = 5 ∧ s.lim = true ∧ (runs s ls).1.Ok ∧ ∃ j, j < ls.length ∧ ∀ keep, Trn (updAll s.last (ls.take j)) (ls.getD j []) (Dk.crash (runs s ls).1 keep).last) := by
  induction ls with
  | nil => intro s h _; exact Or.inl ⟨rfl, h, rfl, rfl⟩
  | cons l r ih =>
    intro s h hv
    unfold runs
    rcases runW_spec l s h.ok h.up (hv l (by simp)) with ⟨a1, a2, a3, a4⟩ | ⟨a1, a2, a3, a4, a5, k, a6⟩
    · rw [if_pos a1]
      rw [nows_clean h.clean] at a4
      have hlen : (runW s l).1.last.length = s.last.length := by rw [a4, upd_length]
      rcases ih _ a2 (by rw [hlen]; exact fun x hx => hv x (by simp [hx])) with ⟨b1, b2, b3, b4⟩ | ⟨b1, b2, b3, j, hj, b4⟩
      · left
        exact ⟨b1, b2, b3.trans a3, by rw [b4, a4]; rfl⟩
      · right
        refine ⟨b1, by rw [← a3]; exact b2, b3, j + 1, by simpa using hj, fun keep => ?_⟩
        have := b4 keep
        rw [a4] at this
        exact this
    · rw [if_neg (by omega)]
      right
      refine ⟨a1, a2, a3, 0, by simp, fun keep => ⟨?_, Dk.crashTo_pages a3 keep _ (Nat.le_refl _), fun i => ?_⟩⟩
      · rw [Dk.crash_len, a5]; rfl
      · have e0 : Dk.lastAt (runW s l).1 i = s.last.getD i [] := by unfold Dk.lastAt; rw [a5]
        show (Dk.crashTo _ keep _).1.getD i [] = s.last.getD i [] ∨ ∃ c ∈ l, _
        rcases crashTo_at (runW s l).1 keep (runW s l).1.last.length i with e | ⟨p, b, hp, e⟩
        · left; rw [e, e0]
        · right
          unfold Dk.cacheAt at hp
          rw [a6] at hp
          rcases cupd_mem _ _ _ _ hp with q | ⟨c, hc, hci, hcp⟩
          · have := cacheAt_none h.clean i
            unfold Dk.cacheAt at this
            rw [this] at q; cases q
          · refine ⟨c, List.mem_of_mem_take hc, hci, b, ?_⟩
            exact e.trans (by rw [e0, hcp]; rfl)
end Go.Proofs.YtppbiohjhnoagaaGreat.Jn

/-
  Plain mathematics of a journal: torn heads, what is laid down, all changes or none.
-/
namespace Go.Proofs.YtppbiohjhnoagaaGreat.Jn
open Go.Proofs.YtppbiohjhnoagaaGreat.Pg (getN setN numOf bytesN)
open Go.Proofs.YtppbiohjhnoagaaGreat.Hd (Head pageH readH wholeB rightB nextN)

/-! ### heads with small numbers -/
theorem four (a : List UInt8) (h : a.length = 4) : ∃ x0 x1 x2 x3, a = [x0, x1, x2, x3] := by
  match a, h with
  | [x0, x1, x2, x3], _ => exact ⟨_, _, _, _, rfl⟩
theorem zero8 {x : UInt8} (h : x.toNat = 0) : x = 0 := UInt8.toNat_inj.1 h
theorem small_lead (a : List UInt8) (hl : a.length = 4) (h : numOf a < 256) : ∃ x, a = [0, 0, 0, x] := by
  obtain ⟨x0, x1, x2, x3, rfl⟩ := four a hl
  have e : numOf [x0, x1, x2, x3] = (((0 * 256 + (x0.toNat : Int)) * 256 + (x1.toNat : Int)) * 256 + (x2.toNat : Int)) * 256 + (x3.toNat : Int) := rfl
  rw [e] at h
  have e0 : x0 = 0 := zero8 (by omega)
  have e1 : x1 = 0 := zero8 (by omega)
  have e2 : x2 = 0 := zero8 (by omega)
  exact ⟨x3, by rw [e0, e1, e2]⟩
theorem get_front (p : List UInt8) : getN p 0 4 = numOf (p.take 4) := by
  unfold getN; rw [if_pos (by decide)]; rfl
theorem get_back (p : List UInt8) (hp : p.length = 64) : getN p 60 4 = numOf (p.drop 60) := by
  unfold getN; rw [if_pos (by decide)]
  show numOf ((p.drop 60).take 4) = _
  rw [List.take_of_length_le (by simp; omega)]
theorem num4 (x : Int) (h0 : 0 ≤ x) (h1 : x < 4294967296) : numOf (bytesN 4 x) = x := by
  rw [Pg.numOf_bytesN]
  have e : (256 : Int) ^ 4 = 4294967296 := rfl
  rw [e]; omega
theorem page_front (h : Head) (h0 : 0 ≤ h.seq) (h1 : h.seq < 4294967296) : getN (pageH h) 0 4 = h.seq := by
  rw [get_front, Hd.page_ends.1, num4 _ h0 h1]
theorem page_back (h : Head) (h0 : 0 ≤ h.seq) (h1 : h.seq < 4294967296) : getN (pageH h) 60 4 = h.seq := by
  rw [get_back _ (Hd.pageH_length h), Hd.page_ends.2, num4 _ h0 h1]
theorem take_lead (x y : UInt8) (k : Nat) (hk : k ≤ 3) : [0, 0, 0, x].take k = ([0, 0, 0, y] : List UInt8).take k := by
  have : k = 0 ∨ k = 1 ∨ k = 2 ∨ k = 3 := by omega
  rcases this with rfl | rfl | rfl | rfl <;> rfl
/-- a head's page torn over a page: one of both, or with two numbers that are unlike -/
theorem torn_head (P : List UInt8) (h : Head) (hP : P.length = 64) (hf : getN P 0 4 < 256) (hb : getN P 60 4 < 256) (h0 : 0 ≤ h.seq) (h1 : h.seq < 256) (c : UInt8) :
    Dk.torn P (pageH h) c = P ∨ Dk.torn P (pageH h) c = pageH h ∨ (getN (Dk.torn P (pageH h) c) 0 4 = h.seq ∧ getN (Dk.torn P (pageH h) c) 60 4 = getN P 60 4) := by
  have hN := Hd.pageH_length h
  have hT := Dk.torn_len c hP hN
  obtain ⟨n1, n2⟩ := Hd.page_ends (h := h)
  obtain ⟨x, hx⟩ := small_lead (bytesN 4 h.seq) (Pg.bytesN_length 4 _) (by rw [num4 _ h0 (by omega)]; exact h1)
  rw [get_front] at hf
  rw [get_back _ hP] at hb
  obtain ⟨y, hy⟩ := small_lead (P.take 4) (by simp; omega) hf
  obtain ⟨z, hz⟩ := small_lead (P.drop 60) (by simp; omega) hb
  have hk : c.toNat % 65 < 65 := Nat.mod_lt _ (by omega)
  rw [get_front (Dk.torn P (pageH h) c), get_back _ hT, get_back _ hP]
  unfold Dk.torn
  generalize hNN : pageH h = N at *
  generalize c.toNat % 65 = k at *
  by_cases k3 : k ≤ 3
  · left
    have e : N.take k = P.take k := by
      have e1 : N.take k = (N.take 4).take k := by rw [List.take_take]; congr 1; omega
      have e2 : P.take k = (P.take 4).take k := by rw [List.take_take]; congr 1; omega
      rw [e1, e2, n1, hx, hy]; exact take_lead x y k k3
    rw [e, List.take_append_drop]
  · by_cases k64 : k = 64
    · right; left
      rw [k64, List.take_of_length_le (by omega), List.drop_of_length_le (by omega), List.append_nil]
    · right; right
      constructor
      · rw [List.take_append_of_le_length (by simp; omega), List.take_take, show min 4 k = 4 by omega, n1, num4 _ h0 (by omega)]
      · congr 1
        rw [List.drop_append, List.drop_take, n2, hx]
        by_cases k60 : k ≤ 60
        · rw [show k - 60 = 0 by omega, List.take_zero, List.nil_append, List.drop_drop]
          congr 1
          simp
          omega
        · rw [List.drop_drop, show k + (60 - (N.take k).length) = 60 + (k - 60) by simp; omega, ← List.drop_drop, hz, take_lead x z (k - 60) (by omega), List.take_append_drop]

/-- a head that does not count -/
def QuietP (p : List UInt8) : Prop := ¬ (wholeB p = true ∧ (readH p).live = true)
structure Low (B : Int) (p : List UInt8) : Prop where
  len : p.length = 64
  f : getN p 0 4 ≤ B
  b : getN p 60 4 ≤ B
def quietH (m : Int) : Head := ⟨m, false, 0, 0⟩
theorem quietH_right {m : Int} (h0 : 0 ≤ m) (h1 : m < 4294967296) : rightB (quietH m) = true := decide_eq_true ⟨h0, h1, (fun h => by cases h), (fun _ => ⟨rfl, rfl⟩)⟩
theorem quietH_quiet {m : Int} (h0 : 0 ≤ m) (h1 : m < 4294967296) : QuietP (pageH (quietH m)) := by
  rintro ⟨_, h⟩
  rw [Hd.read_page _ (quietH_right h0 h1) (Int.le_refl 0) (show (0 : Int) < 4294967296 by omega)] at h
  cases h
theorem mixed_quiet {p : List UInt8} (hp : p.length = 64) (h : getN p 0 4 ≠ getN p 60 4) : QuietP p := by
  rintro ⟨hw, _⟩
  exact h ((Hd.whole_iff p hp).1 hw).1
theorem page_low {h : Head} {B : Int} (h0 : 0 ≤ h.seq) (h1 : h.seq < 4294967296) (hB : h.seq ≤ B) : Low B (pageH h) :=
  ⟨Hd.pageH_length h, by rw [page_front h h0 h1]; exact hB, by rw [page_back h h0 h1]; exact hB⟩
theorem Low.mono {B B' : Int} {p : List UInt8} (h : Low B p) (hB : B ≤ B') : Low B' p := ⟨h.len, by have := h.f; omega, by have := h.b; omega⟩
/-- what becomes of a head that is written over another -/
theorem torn_cases {B B' : Int} {P : List UInt8} {h : Head} (hP : Low B P) (hB : B ≤ B') (hB' : B' < 256) (h0 : 0 ≤ h.seq) (h1 : h.seq ≤ B') (hlt : getN P 60 4 < h.seq) (c : UInt8) :
    Low B' (Dk.torn P (pageH h) c) ∧ (Dk.torn P (pageH h) c = P ∨ Dk.torn P (pageH h) c = pageH h ∨ QuietP (Dk.torn P (pageH h) c)) := by
  have hT := Dk.torn_len c hP.len (Hd.pageH_length h)
  have hf := hP.f
  have hb := hP.b
  rcases torn_head P h hP.len (by omega) (by omega) h0 (by omega) c with e | e | ⟨e1, e2⟩
  · exact ⟨by rw [e]; exact hP.mono hB, Or.inl e⟩
  · exact ⟨by rw [e]; exact page_low h0 (by omega) h1, Or.inr (Or.inl e)⟩
  · exact ⟨⟨hT, by rw [e1]; exact h1, by rw [e2]; omega⟩, Or.inr (Or.inr (mixed_quiet hT (by rw [e1, e2]; omega)))⟩

/-! ### what is laid down -/
def none' : Chg := ⟨0, []⟩
def lp (cs : List Chg) : Nat → List UInt8
  | 0 => Dk.zeros
  | k + 1 => setN (lp cs k) ((k : Int) * 2) 2 (cs.getD k none').no
def layN (cs : List Chg) : List (List UInt8) := lp cs cs.length :: cs.map (·.page)
def outN (ps : List (List UInt8)) (k : Nat) : List Chg := (List.range k).map fun (i : Nat) => ⟨getN (ps.getD 0 []) ((i : Int) * 2) 2, ps.getD (1 + i) []⟩
def sumN (ps : List (List UInt8)) : Int := Mt.joinN (Mt.run (0, 0) ps.flatten)
theorem sumN_bd (ps : List (List UInt8)) : 0 ≤ sumN ps ∧ sumN ps < 4294967296 := Mt.join_bd _ (Mt.fit_run _ _ Mt.fit_zero)
theorem lp_length (cs : List Chg) : ∀ k, (lp cs k).length = 64
  | 0 => Dk.zeros_length
  | k + 1 => Pg.setN_length _ _ _ _ (lp_length cs k)
theorem get_at (p : List UInt8) (a : Nat) (ha : a + 2 ≤ 64) : getN p (a : Int) 2 = numOf ((p.drop a).take 2) := by
  unfold getN; rw [if_pos (Pg.num_mk (by omega) (by omega) (by omega) (by omega)), Int.toNat_natCast]; rfl
theorem set_at (p : List UInt8) (a : Nat) (ha : a + 2 ≤ 64) (v : Int) : setN p (a : Int) 2 v = Pg.over p a (bytesN 2 v) := by
  unfold setN; rw [if_pos (Pg.num_mk (by omega) (by omega) (by omega) (by omega)), Int.toNat_natCast]; rfl
theorem get_set_same (p : List UInt8) (a : Nat) (hp : p.length = 64) (ha : a + 2 ≤ 64) (v : Int) (h0 : 0 ≤ v) (h1 : v < 65536) : getN (setN p (a : Int) 2 v) (a : Int) 2 = v := by
  rw [set_at _ _ ha, get_at _ _ ha]
  have := Pg.over_back p a (bytesN 2 v) (by rw [Pg.bytesN_length]; omega)
  rw [Pg.bytesN_length] at this
  rw [this, Pg.numOf_bytesN]
  have e : (256 : Int) ^ 2 = 65536 := rfl
  rw [e]; omega
theorem get_set_other (p : List UInt8) (a b : Nat) (hp : p.length = 64) (ha : a + 2 ≤ 64) (hb : b + 2 ≤ 64) (hab : a + 2 ≤ b ∨ b + 2 ≤ a) (v : Int) : getN (setN p (a : Int) 2 v) (b : Int) 2 = getN p (b : Int) 2 := by
  rw [set_at _ _ ha, get_at _ _ hb, get_at _ _ hb]
  congr 1
  apply List.ext_getElem?
  intro j
  rw [List.getElem?_take, List.getElem?_take]
  by_cases hj : j < 2
  · rw [if_pos hj, if_pos hj, List.getElem?_drop, List.getElem?_drop, Pg.over_at _ _ _ _ (by rw [Pg.bytesN_length]; omega), Pg.bytesN_length]
    by_cases h1 : b + j < a
    · rw [if_pos h1]
    · rw [if_neg h1, if_neg (by omega)]
  · rw [if_neg hj, if_neg hj]
theorem lp_get (cs : List Chg) (hv : ∀ c ∈ cs, 0 ≤ c.no ∧ c.no < 65536) (hl : cs.length ≤ 32) : ∀ (k : Nat), k ≤ cs.length → ∀ i, i < k → getN (lp cs k) ((i : Int) * 2) 2 = (cs.getD i none').no
  | 0, _, i, hi => by omega
  | k + 1, hk, i, hi => by
    have hm : cs.getD k none' ∈ cs := by
      rw [List.getD_eq_getElem?_getD, List.getElem?_eq_getElem (by omega)]; exact List.getElem_mem (by omega)
    have hb := hv _ hm
    have e1 : (i : Int) * 2 = ((i * 2 : Nat) : Int) := by omega
    have e2 : (k : Int) * 2 = ((k * 2 : Nat) : Int) := by omega
    show getN (setN (lp cs k) ((k : Int) * 2) 2 (cs.getD k none').no) _ _ = _
    by_cases e : i = k
    · subst e
      rw [e2, get_set_same _ _ (lp_length cs i) (by omega) _ hb.1 hb.2]
    · rw [e1, e2, get_set_other _ _ _ (lp_length cs k) (by omega) (by omega) (by omega), ← e1]
      exact lp_get cs hv hl k (by omega) i (by omega)
theorem out_length (ps : List (List UInt8)) (k : Nat) : (outN ps k).length = k := by unfold outN; simp
theorem out_at (ps : List (List UInt8)) (k i : Nat) (hi : i < k) : (outN ps k)[i]? = some ⟨getN (ps.getD 0 []) ((i : Int) * 2) 2, ps.getD (1 + i) []⟩ := by
  unfold outN
  rw [List.getElem?_map, List.getElem?_range hi]; rfl
theorem out_lay (cs : List Chg) (hv : ∀ c ∈ cs, 0 ≤ c.no ∧ c.no < 65536) (hl : cs.length ≤ 32) : outN (layN cs) cs.length = cs := by
  apply List.ext_getElem?
  intro i
  by_cases h2 : i < cs.length
  · have g := lp_get cs hv hl cs.length (Nat.le_refl _) i h2
    rw [List.getD_eq_getElem?_getD (l := cs), List.getElem?_eq_getElem h2] at g
    have g0 : (layN cs).getD 0 [] = lp cs cs.length := rfl
    have g1 : (layN cs).getD (1 + i) [] = cs[i].page := by
      unfold layN
      rw [Nat.add_comm, List.getD_cons_succ, List.getD_eq_getElem?_getD, List.getElem?_map, List.getElem?_eq_getElem h2]; rfl
    rw [out_at _ _ _ h2, g0, g1, g, List.getElem?_eq_getElem h2]; rfl
  · rw [List.getElem?_eq_none (by rw [out_length]; omega), List.getElem?_eq_none (by omega)]
theorem layN_length (cs : List Chg) : (layN cs).length = 1 + cs.length := by unfold layN; simp; omega
theorem layN_pages {cs : List Chg} (h : ∀ c ∈ cs, c.page.length = 64) : ∀ p ∈ layN cs, p.length = 64 := by
  intro p hp
  rcases List.mem_cons.1 hp with rfl | hp
  · exact lp_length _ _
  · obtain ⟨c, hc, rfl⟩ := List.mem_map.1 hp
    exact h c hc

/-- pages from a place on -/
def layAt : Nat → List (List UInt8) → List Chg
  | _, [] => []
  | a, p :: r => ⟨(a : Int), p⟩ :: layAt (a + 1) r
theorem layAt_mem : ∀ (ps : List (List UInt8)) (a : Nat) (c : Chg), c ∈ layAt a ps → a ≤ c.no.toNat ∧ c.no.toNat < a + ps.length ∧ c.no = (c.no.toNat : Int) ∧ c.page ∈ ps
  | [], _, c, h => by cases h
  | p :: r, a, c, h => by
    rcases List.mem_cons.1 h with rfl | h
    · simp
    · obtain ⟨h1, h2, h3, h4⟩ := layAt_mem r (a + 1) c h
      exact ⟨by omega, by simp only [List.length_cons]; omega, h3, List.mem_cons_of_mem _ h4⟩
theorem layAt_val {n a : Nat} {ps : List (List UInt8)} (h : ∀ p ∈ ps, p.length = 64) (hn : a + ps.length ≤ n) : Val n (layAt a ps) := by
  intro c hc
  obtain ⟨h1, h2, h3, h4⟩ := layAt_mem _ _ _ hc
  exact ⟨by rw [h3]; exact Dk.has_mk (by omega), h _ h4⟩

theorem upd_other (cs : List Chg) : ∀ (L : List (List UInt8)) (i : Nat), (∀ c ∈ cs, c.no.toNat ≠ i) → (upd L cs).getD i [] = L.getD i [] := by
  induction cs with
  | nil => intro L i _; rfl
  | cons c r ih =>
    intro L i h
    show (upd (L.set _ _) r).getD i [] = _
    rw [ih _ _ (fun x hx => h x (by simp [hx])), List.getD_eq_getElem?_getD, List.getElem?_set_ne (h c (by simp)), ← List.getD_eq_getElem?_getD]
theorem upd_in (cs : List Chg) : ∀ (L M : List (List UInt8)) (i : Nat), L.length = M.length → (∃ c ∈ cs, c.no.toNat = i) → (upd L cs).getD i [] = (upd M cs).getD i [] := by
  induction cs with
  | nil => intro L M i _ h; obtain ⟨c, hc, _⟩ := h; cases hc
  | cons c r ih =>
    intro L M i hl h
    show (upd (L.set _ _) r).getD i [] = (upd (M.set _ _) r).getD i []
    by_cases hr : ∃ c ∈ r, c.no.toNat = i
    · exact ih _ _ i (by simp [hl]) hr
    · have hr' : ∀ c ∈ r, c.no.toNat ≠ i := fun x hx e => hr ⟨x, hx, e⟩
      obtain ⟨x, hx, hxi⟩ := h
      have : x = c := by
        rcases List.mem_cons.1 hx with e | e
        · exact e
        · exact absurd hxi (hr' x e)
      subst this
      rw [upd_other _ _ _ hr', upd_other _ _ _ hr', List.getD_eq_getElem?_getD, List.getD_eq_getElem?_getD, List.getElem?_set, List.getElem?_set, if_pos hxi, if_pos hxi, hl]
theorem upd_pages {n : Nat} (cs : List Chg) : ∀ (L : List (List UInt8)), Val n cs → (∀ p ∈ L, p.length = 64) → ∀ p ∈ upd L cs, p.length = 64 := by
  induction cs with
  | nil => intro L _ h; exact h
  | cons c r ih =>
    intro L hv h
    refine ih _ (fun x hx => hv x (by simp [hx])) (fun p hp => ?_)
    rcases List.mem_or_eq_of_mem_set hp with e | e
    · exact h p e
    · rw [e]; exact (hv c (by simp)).2
theorem upd_layAt : ∀ (ps : List (List UInt8)) (a : Nat) (L : List (List UInt8)) (i : Nat), i < ps.length → a + ps.length ≤ L.length → (upd L (layAt a ps)).getD (a + i) [] = ps.getD i []
  | [], _, _, i, h, _ => by simp at h
  | p :: r, a, L, i, h, hl => by
    show (upd (L.set ((a : Int)).toNat p) (layAt (a + 1) r)).getD (a + i) [] = _
    rw [Int.toNat_natCast]
    simp only [List.length_cons] at h hl
    cases i with
    | zero =>
      rw [upd_other _ _ _ (fun c hc => by have := layAt_mem _ _ _ hc; omega), Nat.add_zero, List.getD_eq_getElem?_getD, List.getElem?_set_self (by omega)]; rfl
    | succ i =>
      have := upd_layAt r (a + 1) (L.set a p) i (by omega) (by simp; omega)
      rw [show a + 1 + i = a + (i + 1) by omega] at this
      rw [this]; rfl

/-! ### all changes or none -/
def Same (a z : Nat) (L X : List (List UInt8)) : Prop := ∀ i, (i < a ∨ a + z ≤ i) → L.getD i [] = X.getD i []
def Out (a z : Nat) (cs : List Chg) : Prop := ∀ c ∈ cs, c.no.toNat < a ∨ a + z ≤ c.no.toNat
structure Quiet (a z : Nat) (B : Int) (L X : List (List UInt8)) : Prop where
  len : L.length = X.length
  low : Low B (L.getD a [])
  quiet : QuietP (L.getD a [])
  same : Same a z L X
structure LiveD (a z : Nat) (B : Int) (cs : List Chg) (L X : List (List UInt8)) : Prop where
  len : L.length = X.length
  head : ∃ q, 0 ≤ q ∧ q ≤ B ∧ L.getD a [] = pageH ⟨q, true, cs.length, sumN (layN cs)⟩
  laid : ∀ i, i < 1 + cs.length → L.getD (a + 1 + i) [] = (layN cs).getD i []
  same : ∀ i, (i < a ∨ a + z ≤ i) → (∀ c ∈ cs, c.no.toNat ≠ i) → L.getD i [] = X.getD i []
/-- changes that may be committed -/
structure May (a z n : Nat) (cs : List Chg) : Prop where
  val : Val n cs
  out : Out a z cs
  pos : 1 ≤ cs.length
  few : cs.length ≤ 32
  fit : 2 + cs.length ≤ z
  reg : a + z ≤ n
  top : n ≤ 512
theorem May.num {a z n : Nat} {cs : List Chg} (h : May a z n cs) : ∀ c ∈ cs, 0 ≤ c.no ∧ c.no < 65536 := fun c hc => by
  have := Dk.has_yes (h.val c hc).1
  have := h.top
  omega
theorem live_right {q : Int} {k : Nat} {S : Int} (h0 : 0 ≤ q) (h1 : q < 4294967296) (k1 : 1 ≤ k) (k2 : k ≤ 512) : rightB ⟨q, true, (k : Int), S⟩ = true :=
  decide_eq_true ⟨h0, h1, fun _ => ⟨by show (1 : Int) ≤ k; omega, by show (k : Int) ≤ 512; omega⟩, fun h => by cases h⟩

/-- the head is written over: what a crash leaves of it, behind all else -/
theorem quiet_torn {a z : Nat} {B B' : Int} {L X L' : List (List UInt8)} {m : Int} (h : Quiet a z B L X) (hz : 0 < z) (hB : B ≤ B') (hB' : B' < 256) (h0 : 0 ≤ m) (h1 : m ≤ B') (hlt : getN (L.getD a []) 60 4 < m)
    (ht : Trn L [⟨(a : Int), pageH (quietH m)⟩] L') : Quiet a z B' L' X := by
  have hoth : ∀ i, i ≠ a → L'.getD i [] = L.getD i [] := fun i hi => ht.other (fun c hc => by rw [List.mem_singleton] at hc; subst hc; show ((a : Int)).toNat ≠ i; omega)
  have h1' := ht.one
  have e0 : (⟨(a : Int), pageH (quietH m)⟩ : Chg).no.toNat = a := Int.toNat_natCast a
  rw [e0] at h1'
  refine ⟨ht.len.trans h.len, ?_, ?_, fun i hi => by rw [hoth i (by omega)]; exact h.same i hi⟩
  · rcases h1' with e | ⟨b, e⟩
    · rw [e]; exact h.low.mono hB
    · rw [e]; exact (torn_cases (h := quietH m) h.low hB hB' h0 h1 hlt b).1
  · rcases h1' with e | ⟨b, e⟩
    · rw [e]; exact h.quiet
    · rw [e]
      rcases (torn_cases (h := quietH m) h.low hB hB' h0 h1 hlt b).2 with q | q | q
      · rw [q]; exact h.quiet
      · rw [q]; exact quietH_quiet h0 (by omega)
      · exact q
theorem live_low {a z : Nat} {B : Int} {cs : List Chg} {L X : List (List UInt8)} (h : LiveD a z B cs L X) (hB : B < 256) : Low B (L.getD a []) := by
  obtain ⟨q, q0, q1, e⟩ := h.head
  rw [e]; exact page_low q0 (by show q < _; omega) q1
/-- a quiet head over a live one whose changes are there -/
theorem live_torn {a z : Nat} {B : Int} {cs : List Chg} {L X L' : List (List UInt8)} {m : Int} (h : LiveD a z B cs L X) (hs : Same a z L X) (hfit : 2 + cs.length ≤ z) (hB : B + 1 < 256) (h0 : 0 ≤ m) (h1 : m ≤ B + 1) (hlt : getN (L.getD a []) 60 4 < m)
    (ht : Trn L [⟨(a : Int), pageH (quietH m)⟩] L') : Quiet a z (B + 1) L' X ∨ LiveD a z (B + 1) cs L' X := by
  have hoth : ∀ i, i ≠ a → L'.getD i [] = L.getD i [] := fun i hi => ht.other (fun c hc => by rw [List.mem_singleton] at hc; subst hc; show ((a : Int)).toNat ≠ i; omega)
  have h1' := ht.one
  have e0 : (⟨(a : Int), pageH (quietH m)⟩ : Chg).no.toNat = a := Int.toNat_natCast a
  rw [e0] at h1'
  have hlow := live_low h (by omega)
  have hsame : Same a z L' X := fun i hi => by rw [hoth i (by omega)]; exact hs i hi
  have live : L'.getD a [] = L.getD a [] → LiveD a z (B + 1) cs L' X := fun e => by
    obtain ⟨q, q0, q1, hq⟩ := h.head
    exact ⟨ht.len.trans h.len, ⟨q, q0, by omega, e.trans hq⟩, fun i hi => by rw [hoth _ (by omega)]; exact h.laid i hi, fun i hi _ => hsame i hi⟩
  rcases h1' with e | ⟨b, e⟩
  · exact Or.inr (live e)
  · obtain ⟨c1, c2⟩ := torn_cases (B' := B + 1) (h := quietH m) hlow (by omega) hB h0 h1 hlt b
    rw [← e] at c1 c2
    rcases c2 with q | q | q
    · exact Or.inr (live q)
    · exact Or.inl ⟨ht.len.trans h.len, c1, by rw [q]; exact quietH_quiet h0 (by omega), hsame⟩
    · exact Or.inl ⟨ht.len.trans h.len, c1, q, hsame⟩

theorem next_one (p : List UInt8) (B : Int) (h : Low B p) (hB : 0 ≤ B) : 0 ≤ nextN [p] ∧ nextN [p] ≤ B + 1 ∧ getN p 60 4 < nextN [p] := by
  refine ⟨Hd.nextN_nonneg _, ?_, ?_⟩
  · refine (Hd.nextN_le _ _).2 ⟨by omega, fun x hx => ?_⟩
    rw [List.mem_singleton] at hx
    subst hx
    have := h.f; have := h.b
    omega
  · exact (((Hd.nextN_le [p] (nextN [p])).1 (Int.le_refl _)).2 p (by simp)).2
theorem val_one {n a : Nat} (h : a < n) (g : Head) : Val n [⟨(a : Int), pageH g⟩] := by
  intro c hc
  rw [List.mem_singleton] at hc
  subst hc
  exact ⟨Dk.has_mk h, Hd.pageH_length g⟩
theorem upd_one_at {L : List (List UInt8)} {a : Nat} (h : a < L.length) (p : List UInt8) : (upd L [⟨(a : Int), p⟩]).getD a [] = p := by
  show (L.set ((a : Int)).toNat p).getD a [] = p
  rw [Int.toNat_natCast, List.getD_eq_getElem?_getD, List.getElem?_set_self h]; rfl
theorem upd_one_other {L : List (List UInt8)} {a i : Nat} (h : i ≠ a) (p : List UInt8) : (upd L [⟨(a : Int), p⟩]).getD i [] = L.getD i [] :=
  upd_other _ _ _ (fun c hc => by rw [List.mem_singleton] at hc; subst hc; show ((a : Int)).toNat ≠ i; omega)

/-- an Open over a head that does not count -/
theorem openQ {a z : Nat} {B : Int} {s : Dk.St} {X : List (List UInt8)} (h : Cl s) (hq : Quiet a z B s.last X) (ha : a < s.last.length) (hz : 0 < z) (h0 : 0 ≤ B) (hB : B < 250) :
    ((runs s [[⟨(a : Int), pageH (quietH (nextN [s.last.getD a []]))⟩]]).2 = 0 ∧ Cl (runs s [[⟨(a : Int), pageH (quietH (nextN [s.last.getD a []]))⟩]]).1 ∧ Same a z (runs s [[⟨(a : Int), pageH (quietH (nextN [s.last.getD a []]))⟩]]).1.last X ∧
      (runs s [[⟨(a : Int), pageH (quietH (nextN [s.last.getD a []]))⟩]]).1.last = s.last.set a (pageH (quietH (nextN [s.last.getD a []])))  ∧ (runs s [[⟨(a : Int), pageH (quietH (nextN [s.last.getD a []]))⟩]]).1.lim = s.lim) ∨
    ((runs s [[⟨(a : Int), pageH (quietH (nextN [s.last.getD a []]))⟩]]).2 = 5 ∧ s.lim = true ∧ (runs s [[⟨(a : Int), pageH (quietH (nextN [s.last.getD a []]))⟩]]).1.Ok ∧
      ∀ keep, Quiet a z (B + 1) (Dk.crash (runs s [[⟨(a : Int), pageH (quietH (nextN [s.last.getD a []]))⟩]]).1 keep).last X) := by
  obtain ⟨n0, n1, n2⟩ := next_one _ B hq.low h0
  rcases runs_spec [[⟨(a : Int), pageH (quietH (nextN [s.last.getD a []]))⟩]] s h (fun l hl => by rw [List.mem_singleton] at hl; subst hl; exact val_one ha _) with ⟨a1, a2, a3, a4⟩ | ⟨a1, a2, a3, j, hj, a4⟩
  · left
    refine ⟨a1, a2, ?_, ?_, a3⟩
    · rw [a4]
      intro i hi
      show (upd s.last _).getD i [] = _
      rw [upd_one_other (by omega)]
      exact hq.same i hi
    · rw [a4]
      show s.last.set ((a : Int)).toNat _ = _
      rw [Int.toNat_natCast]
  · right
    refine ⟨a1, a2, a3, fun keep => ?_⟩
    have hj0 : j = 0 := by simpa using hj
    subst hj0
    exact quiet_torn hq hz (by omega) (by omega) n0 n1 n2 (a4 keep)

/-- an Open over a head that counts -/
theorem openL {a z : Nat} {B : Int} {s : Dk.St} {cs : List Chg} {X : List (List UInt8)} {q : Int} (h : Cl s) (hl : LiveD a z B cs s.last (upd X cs)) (hm : May a z s.last.length cs) (hq0 : 0 ≤ q) (hq1 : q ≤ B) (hq : s.last.getD a [] = pageH ⟨q, true, cs.length, sumN (layN cs)⟩) (hB : B < 250) :
    ((runs s [cs, [⟨(a : Int), pageH (quietH (q + 1))⟩]]).2 = 0 ∧ Cl (runs s [cs, [⟨(a : Int), pageH (quietH (q + 1))⟩]]).1 ∧ Same a z (runs s [cs, [⟨(a : Int), pageH (quietH (q + 1))⟩]]).1.last (upd X cs)) ∨
    ((runs s [cs, [⟨(a : Int), pageH (quietH (q + 1))⟩]]).2 = 5 ∧ s.lim = true ∧ (runs s [cs, [⟨(a : Int), pageH (quietH (q + 1))⟩]]).1.Ok ∧
      ∀ keep, Quiet a z (B + 1) (Dk.crash (runs s [cs, [⟨(a : Int), pageH (quietH (q + 1))⟩]]).1 keep).last (upd X cs) ∨ LiveD a z (B + 1) cs (Dk.crash (runs s [cs, [⟨(a : Int), pageH (quietH (q + 1))⟩]]).1 keep).last (upd X cs)) := by
  have hfit := hm.fit
  have hreg := hm.reg
  have hXl : s.last.length = X.length := by rw [hl.len, upd_length]
  have hin : ∀ i, (a ≤ i ∧ i < a + z) → ∀ c ∈ cs, c.no.toNat ≠ i := fun i hi c hc => by have := hm.out c hc; omega
  have hsame : Same a z (upd s.last cs) (upd X cs) := fun i hi => by
    by_cases hc : ∃ c ∈ cs, c.no.toNat = i
    · exact upd_in cs _ _ i hXl hc
    · have hc' : ∀ c ∈ cs, c.no.toNat ≠ i := fun x hx e => hc ⟨x, hx, e⟩
      rw [upd_other _ _ _ hc']
      exact hl.same i hi hc'
  have hhead : (upd s.last cs).getD a [] = s.last.getD a [] := upd_other _ _ _ (hin a (by omega))
  rcases runs_spec [cs, [⟨(a : Int), pageH (quietH (q + 1))⟩]] s h (fun l hl => by
      rcases List.mem_cons.1 hl with rfl | hl
      · exact hm.val
      · rw [List.mem_singleton] at hl; subst hl; exact val_one (by omega) _) with ⟨a1, a2, a3, a4⟩ | ⟨a1, a2, a3, j, hj, a4⟩
  · left
    refine ⟨a1, a2, ?_⟩
    rw [a4]
    intro i hi
    show (upd (upd s.last cs) _).getD i [] = _
    rw [upd_one_other (by omega)]
    exact hsame i hi
  · right
    refine ⟨a1, a2, a3, fun keep => ?_⟩
    have hj2 : j = 0 ∨ j = 1 := by simp at hj; omega
    rcases hj2 with rfl | rfl
    · right
      have ht : Trn s.last cs _ := a4 keep
      refine ⟨ht.len.trans hl.len, ⟨q, hq0, by omega, ?_⟩, fun i hi => ?_, fun i hi hc => ?_⟩
      · rw [ht.other (hin a (by omega))]; exact hq
      · rw [ht.other (hin _ (by omega))]; exact hl.laid i hi
      · rw [ht.other hc]; exact hl.same i hi hc
    · have ht : Trn (upd s.last cs) _ _ := a4 keep
      have hl2 : LiveD a z B cs (upd s.last cs) (upd X cs) := ⟨by rw [upd_length]; exact hl.len, ⟨q, hq0, hq1, hhead.trans hq⟩, fun i hi => by rw [upd_other _ _ _ (hin _ (by omega))]; exact hl.laid i hi, fun i hi _ => hsame i hi⟩
      refine live_torn hl2 hsame hfit (by omega) (by omega) (by omega) ?_ ht
      rw [hhead, hq, page_back _ hq0 (by show q < _; omega)]
      show q < q + 1
      omega

/-- a Commit -/
def liveH (q : Int) (cs : List Chg) : Head := ⟨q, true, cs.length, sumN (layN cs)⟩
def steps (a : Nat) (q : Int) (cs : List Chg) : List (List Chg) := [layAt (a + 1) (layN cs), [⟨(a : Int), pageH (liveH (q + 1) cs)⟩], cs, [⟨(a : Int), pageH (quietH (q + 2))⟩]]
theorem commitM {a z : Nat} {s : Dk.St} {cs : List Chg} {q : Int} (h : Cl s) (hm : May a z s.last.length cs) (hq0 : 0 ≤ q) (hq1 : q < 250) (hq : s.last.getD a [] = pageH (quietH q)) :
    ((runs s (steps a q cs)).2 = 0 ∧ Cl (runs s (steps a q cs)).1 ∧ Quiet a z (q + 2) (runs s (steps a q cs)).1.last (upd s.last cs) ∧ (runs s (steps a q cs)).1.last.getD a [] = pageH (quietH (q + 2)) ∧ (runs s (steps a q cs)).1.lim = s.lim) ∨
    ((runs s (steps a q cs)).2 = 5 ∧ s.lim = true ∧ (runs s (steps a q cs)).1.Ok ∧ ∀ keep, Quiet a z (q + 2) (Dk.crash (runs s (steps a q cs)).1 keep).last s.last ∨ Quiet a z (q + 2) (Dk.crash (runs s (steps a q cs)).1 keep).last (upd s.last cs) ∨ LiveD a z (q + 2) cs (Dk.crash (runs s (steps a q cs)).1 keep).last (upd s.last cs)) := by
  have hfit := hm.fit
  have hreg := hm.reg
  have hin : ∀ i, (a ≤ i ∧ i < a + z) → ∀ c ∈ cs, c.no.toNat ≠ i := fun i hi c hc => by have := hm.out c hc; omega
  have hlm : ∀ c ∈ layAt (a + 1) (layN cs), a + 1 ≤ c.no.toNat ∧ c.no.toNat < a + z := fun c hc => by
    have := layAt_mem _ _ _ hc
    rw [layN_length] at this
    omega
  have hlay : ∀ i, i < a + 1 ∨ a + z ≤ i → (upd s.last (layAt (a + 1) (layN cs))).getD i [] = s.last.getD i [] := fun i hi => upd_other _ _ _ (fun c hc => by have := hlm c hc; omega)
  have hlaid : ∀ i, i < 1 + cs.length → (upd s.last (layAt (a + 1) (layN cs))).getD (a + 1 + i) [] = (layN cs).getD i [] := fun i hi => upd_layAt _ _ _ _ (by rw [layN_length]; exact hi) (by rw [layN_length]; omega)
  have hl1 : (upd s.last (layAt (a + 1) (layN cs))).length = s.last.length := upd_length _ _
  generalize hM1 : upd s.last (layAt (a + 1) (layN cs)) = M1 at hlay hlaid hl1
  -- behind the Live head
  have hl2 : (upd M1 [⟨(a : Int), pageH (liveH (q + 1) cs)⟩]).length = s.last.length := by rw [upd_length]; exact hl1
  have live2 : LiveD a z (q + 1) cs (upd M1 [⟨(a : Int), pageH (liveH (q + 1) cs)⟩]) (upd s.last cs) := by
    refine ⟨by rw [hl2, upd_length], ⟨q + 1, by omega, by omega, upd_one_at (by omega) _⟩, fun i hi => ?_, fun i hi hc => ?_⟩
    · rw [upd_one_other (by omega)]; exact hlaid i hi
    · rw [upd_one_other (by omega), hlay i (by omega), upd_other _ _ _ hc]
  generalize hM2 : upd M1 [⟨(a : Int), pageH (liveH (q + 1) cs)⟩] = M2 at hl2 live2
  have same3 : Same a z (upd M2 cs) (upd s.last cs) := fun i hi => by
    by_cases hc : ∃ c ∈ cs, c.no.toNat = i
    · exact upd_in cs _ _ i hl2 hc
    · have hc' : ∀ c ∈ cs, c.no.toNat ≠ i := fun x hx e => hc ⟨x, hx, e⟩
      rw [upd_other _ _ _ hc']
      exact live2.same i hi hc'
  have live3 : LiveD a z (q + 1) cs (upd M2 cs) (upd s.last cs) := by
    obtain ⟨p, p0, p1, hp⟩ := live2.head
    exact ⟨by rw [upd_length, upd_length]; exact hl2, ⟨p, p0, p1, by rw [upd_other _ _ _ (hin a (by omega))]; exact hp⟩, fun i hi => by rw [upd_other _ _ _ (hin _ (by omega))]; exact live2.laid i hi, fun i hi _ => same3 i hi⟩
  have head3 : (upd M2 cs).getD a [] = pageH (liveH (q + 1) cs) := by
    rw [upd_other _ _ _ (hin a (by omega)), ← hM2, upd_one_at (by omega)]
  have hl3 : (upd M2 cs).length = s.last.length := by rw [upd_length]; exact hl2
  have q0 : Quiet a z q s.last s.last := ⟨rfl, by rw [hq]; exact page_low hq0 (by show q < _; omega) (Int.le_refl _), by rw [hq]; exact quietH_quiet hq0 (by omega), fun _ _ => rfl⟩
  rcases runs_spec (steps a q cs) s h (fun l hl => by
      unfold steps at hl
      simp only [List.mem_cons, List.not_mem_nil, or_false] at hl
      rcases hl with rfl | rfl | rfl | rfl
      · exact layAt_val (layN_pages fun c hc => (hm.val c hc).2) (by rw [layN_length]; omega)
      · exact val_one (by omega) _
      · exact hm.val
      · exact val_one (by omega) _) with ⟨a1, a2, a3, a4⟩ | ⟨a1, a2, a3, j, hj, a4⟩
  · left
    have e4 : updAll s.last (steps a q cs) = upd (upd M2 cs) [⟨(a : Int), pageH (quietH (q + 2))⟩] := by rw [← hM2, ← hM1]; rfl
    rw [e4] at a4
    have hh : (runs s (steps a q cs)).1.last.getD a [] = pageH (quietH (q + 2)) := by rw [a4, upd_one_at (by omega)]
    refine ⟨a1, a2, ⟨by rw [a4, upd_length, upd_length, upd_length]; exact hl2, ?_, ?_, ?_⟩, hh, a3⟩
    · rw [hh]; exact page_low (by show 0 ≤ q + 2; omega) (by show q + 2 < _; omega) (Int.le_refl _)
    · rw [hh]; exact quietH_quiet (by omega) (by omega)
    · rw [a4]
      intro i hi
      rw [upd_one_other (by omega)]
      exact same3 i hi
  · right
    refine ⟨a1, a2, a3, fun keep => ?_⟩
    have hj4 : j = 0 ∨ j = 1 ∨ j = 2 ∨ j = 3 := by unfold steps at hj; simp at hj; omega
    rcases hj4 with rfl | rfl | rfl | rfl
    · left
      have ht : Trn s.last (layAt (a + 1) (layN cs)) (Dk.crash (runs s (steps a q cs)).1 keep).last := a4 keep
      have hoth : ∀ i, i < a + 1 ∨ a + z ≤ i → (Dk.crash (runs s (steps a q cs)).1 keep).last.getD i [] = s.last.getD i [] := fun i hi => ht.other (i := i) (fun c hc => by have := hlm c hc; omega)
      refine ⟨ht.len, ?_, ?_, fun i hi => hoth i (by omega)⟩
      · rw [hoth a (by omega)]; exact q0.low.mono (by omega)
      · rw [hoth a (by omega)]; exact q0.quiet
    · have ht : Trn M1 [⟨(a : Int), pageH (liveH (q + 1) cs)⟩] (Dk.crash (runs s (steps a q cs)).1 keep).last := by
        have := a4 keep
        rw [show updAll s.last ((steps a q cs).take 1) = M1 by rw [← hM1]; rfl] at this
        exact this
      have hoth : ∀ i, i ≠ a → (Dk.crash (runs s (steps a q cs)).1 keep).last.getD i [] = M1.getD i [] := fun i hi => ht.other (i := i) (fun c hc => by rw [List.mem_singleton] at hc; subst hc; show ((a : Int)).toNat ≠ i; omega)
      have h1' := ht.one
      have e0 : (⟨(a : Int), pageH (liveH (q + 1) cs)⟩ : Chg).no.toNat = a := Int.toNat_natCast a
      rw [e0, hlay a (by omega)] at h1'
      have hsame : Same a z (Dk.crash (runs s (steps a q cs)).1 keep).last s.last := fun i hi => by rw [hoth i (by omega)]; exact hlay i (by omega)
      have hlen := ht.len.trans hl1
      have old : (Dk.crash (runs s (steps a q cs)).1 keep).last.getD a [] = s.last.getD a [] → Quiet a z (q + 2) (Dk.crash (runs s (steps a q cs)).1 keep).last s.last := fun e =>
        ⟨hlen, by rw [e]; exact q0.low.mono (by omega), by rw [e]; exact q0.quiet, hsame⟩
      rcases h1' with e | ⟨b, e⟩
      · exact Or.inl (old e)
      · obtain ⟨c1, c2⟩ := torn_cases (B' := q + 2) (h := liveH (q + 1) cs) q0.low (by omega) (by omega) (by show 0 ≤ q + 1; omega) (by show q + 1 ≤ q + 2; omega) (by rw [hq, page_back _ hq0 (by show q < _; omega)]; show q < q + 1; omega) b
        rw [← e] at c1 c2
        rcases c2 with p | p | p
        · exact Or.inl (old p)
        · right; right
          refine ⟨by rw [hlen, upd_length], ⟨q + 1, by omega, by omega, p⟩, fun i hi => ?_, fun i hi hc => ?_⟩
          · rw [hoth _ (by omega)]; exact hlaid i hi
          · rw [hsame i hi, upd_other _ _ _ hc]
        · exact Or.inl ⟨hlen, c1, p, hsame⟩
    · right; right
      have ht : Trn M2 cs (Dk.crash (runs s (steps a q cs)).1 keep).last := by
        have := a4 keep
        rw [show updAll s.last ((steps a q cs).take 2) = M2 by rw [← hM2, ← hM1]; rfl] at this
        exact this
      obtain ⟨p, p0, p1, hp⟩ := live2.head
      refine ⟨ht.len.trans live2.len, ⟨p, p0, by omega, ?_⟩, fun i hi => ?_, fun i hi hc => ?_⟩
      · rw [ht.other (hin a (by omega))]; exact hp
      · rw [ht.other (hin _ (by omega))]; exact live2.laid i hi
      · rw [ht.other hc]; exact live2.same i hi hc
    · right
      have ht : Trn (upd M2 cs) [⟨(a : Int), pageH (quietH (q + 2))⟩] (Dk.crash (runs s (steps a q cs)).1 keep).last := by
        have := a4 keep
        rw [show updAll s.last ((steps a q cs).take 3) = upd M2 cs by rw [← hM2, ← hM1]; rfl] at this
        exact this
      have := live_torn live3 same3 hfit (by omega) (by omega) (by omega) (by rw [head3, page_back _ (by show 0 ≤ q + 1; omega) (by show q + 1 < _; omega)]; show q + 1 < q + 2; omega) ht
      rw [show q + 1 + 1 = q + 2 by omega] at this
      exact this
end Go.Proofs.YtppbiohjhnoagaaGreat.Jn
