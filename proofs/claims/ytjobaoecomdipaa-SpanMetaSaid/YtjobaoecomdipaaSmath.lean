/-
  Plain mathematics of a file's pages: by which way each is found, how many pages bytes begin, the pages of numbers of a file. Nothing of the program is in it.
-/
namespace Go.Proofs.Ytjobaoecomdipaa.Sp

/-- is there such a page? -/
def okB (i : Int) : Bool := decide (0 ≤ i ∧ i < 1060)
def dep (i : Int) : Int := if 0 ≤ i ∧ i < 1060 then (if i < 4 then 0 else if i < 36 then 1 else 2) else 0
def out (i : Int) : Int := if 36 ≤ i ∧ i < 1060 then (i - 36) / 32 else 0
def inn (i : Int) : Int := if 0 ≤ i ∧ i < 1060 then (if i < 4 then i else if i < 36 then i - 4 else (i - 36) % 32) else 0
theorem no_page {i : Int} (h : i < 0 ∨ 1060 ≤ i) : okB i = false ∧ dep i = 0 ∧ out i = 0 ∧ inn i = 0 := by
  refine ⟨?_, ?_, ?_, ?_⟩
  · unfold okB; rw [decide_eq_false_iff_not]; omega
  · unfold dep; rw [if_neg (by omega)]
  · unfold out; rw [if_neg (by omega)]
  · unfold inn; rw [if_neg (by omega)]
theorem page0 {i : Int} (h0 : 0 ≤ i) (h1 : i < 4) : okB i = true ∧ dep i = 0 ∧ out i = 0 ∧ inn i = i := by
  refine ⟨?_, ?_, ?_, ?_⟩
  · unfold okB; rw [decide_eq_true_eq]; omega
  · unfold dep; rw [if_pos (by omega), if_pos h1]
  · unfold out; rw [if_neg (by omega)]
  · unfold inn; rw [if_pos (by omega), if_pos h1]
theorem page1 {i : Int} (h0 : 4 ≤ i) (h1 : i < 36) : okB i = true ∧ dep i = 1 ∧ out i = 0 ∧ inn i = i - 4 := by
  refine ⟨?_, ?_, ?_, ?_⟩
  · unfold okB; rw [decide_eq_true_eq]; omega
  · unfold dep; rw [if_pos (by omega), if_neg (by omega), if_pos h1]
  · unfold out; rw [if_neg (by omega)]
  · unfold inn; rw [if_pos (by omega), if_neg (by omega), if_pos h1]
theorem page2 {i : Int} (h0 : 36 ≤ i) (h1 : i < 1060) : okB i = true ∧ dep i = 2 ∧ out i = (i - 36) / 32 ∧ inn i = (i - 36) % 32 := by
  refine ⟨?_, ?_, ?_, ?_⟩
  · unfold okB; rw [decide_eq_true_eq]; omega
  · unfold dep; rw [if_pos (by omega), if_neg (by omega), if_neg (by omega)]
  · unfold out; rw [if_pos (by omega)]
  · unfold inn; rw [if_pos (by omega), if_neg (by omega), if_neg (by omega)]
/-- the four kinds of pages -/
theorem kinds (i : Int) : (i < 0 ∨ 1060 ≤ i) ∨ (0 ≤ i ∧ i < 4) ∨ (4 ≤ i ∧ i < 36) ∨ (36 ≤ i ∧ i < 1060) := by omega

/-- how many pages bytes begin -/
def pgs (s : Int) : Int := if s ≤ 0 then 0 else (s - 1) / 64 + 1

/-- does a way lead to a page, and to which? -/
def idxB (d o n : Int) : Bool := decide ((d = 0 ∧ o = 0 ∧ 0 ≤ n ∧ n < 4) ∨ (d = 1 ∧ o = 0 ∧ 0 ≤ n ∧ n < 32) ∨ (d = 2 ∧ 0 ≤ o ∧ o < 32 ∧ 0 ≤ n ∧ n < 32))
def idx (d o n : Int) : Int := if idxB d o n = true then (if d = 0 then n else if d = 1 then 4 + n else 36 + o * 32 + n) else 0
theorem idx_where (i : Int) (h : okB i = true) : idxB (dep i) (out i) (inn i) = true ∧ idx (dep i) (out i) (inn i) = i := by
  have hb : 0 ≤ i ∧ i < 1060 := of_decide_eq_true h
  rcases kinds i with c | ⟨c1, c2⟩ | ⟨c1, c2⟩ | ⟨c1, c2⟩
  · omega
  · obtain ⟨_, e1, e2, e3⟩ := page0 c1 c2
    have hB : idxB (dep i) (out i) (inn i) = true := by unfold idxB; rw [decide_eq_true_eq, e1, e2, e3]; omega
    refine ⟨hB, ?_⟩
    unfold idx
    rw [if_pos hB, e1, e3]; rfl
  · obtain ⟨_, e1, e2, e3⟩ := page1 c1 c2
    have hB : idxB (dep i) (out i) (inn i) = true := by unfold idxB; rw [decide_eq_true_eq, e1, e2, e3]; omega
    refine ⟨hB, ?_⟩
    unfold idx
    rw [if_pos hB, e1, e3, if_neg (by omega), if_pos rfl]; omega
  · obtain ⟨_, e1, e2, e3⟩ := page2 c1 c2
    have hB : idxB (dep i) (out i) (inn i) = true := by unfold idxB; rw [decide_eq_true_eq, e1, e2, e3]; omega
    refine ⟨hB, ?_⟩
    unfold idx
    rw [if_pos hB, e1, e2, e3, if_neg (by omega), if_neg (by omega)]; omega
theorem where_idx (d o n : Int) (h : idxB d o n = true) : okB (idx d o n) = true ∧ dep (idx d o n) = d ∧ out (idx d o n) = o ∧ inn (idx d o n) = n := by
  have hb := of_decide_eq_true h
  have e : idx d o n = (if d = 0 then n else if d = 1 then 4 + n else 36 + o * 32 + n) := by unfold idx; rw [if_pos h]
  rw [e]
  rcases hb with ⟨rfl, rfl, h0, h1⟩ | ⟨rfl, rfl, h0, h1⟩ | ⟨rfl, h0, h1, h2, h3⟩
  · rw [if_pos rfl]
    exact page0 h0 h1
  · rw [if_neg (by omega), if_pos rfl]
    obtain ⟨a, b, c, e⟩ := page1 (i := 4 + n) (by omega) (by omega)
    exact ⟨a, b, c, by rw [e]; omega⟩
  · rw [if_neg (by omega), if_neg (by omega)]
    obtain ⟨a, b, c, e⟩ := page2 (i := 36 + o * 32 + n) (by omega) (by omega)
    exact ⟨a, b, by rw [c]; omega, by rw [e]; omega⟩
/-- a way that leads nowhere is no page's -/
theorem no_way {d o n : Int} (h : idxB d o n = false) (i : Int) (hi : okB i = true) : ¬ (dep i = d ∧ out i = o ∧ inn i = n) := by
  rintro ⟨rfl, rfl, rfl⟩
  rw [(idx_where i hi).1] at h
  cases h

/-! ### the pages of numbers -/
/-- which pages of numbers there are: Ind, Dind, those that Dind tells -/
structure St where
  a : Bool
  b : Bool
  ls : List Int
def St.none : St := ⟨false, false, []⟩
def St.has (s : St) (k : Int) : Bool := if k = -2 then s.a else if k = -1 then s.b else s.ls.contains k
def St.cnt (s : St) : Nat := s.a.toNat + s.b.toNat + s.ls.length
def St.put (s : St) (k : Int) : St := if k = -2 then { s with a := true } else if k = -1 then { s with b := true } else if s.ls.contains k then s else { s with ls := s.ls ++ [k] }
theorem has_put (s : St) (k j : Int) : (s.put k).has j = (j == k || s.has j) := by
  unfold St.put
  by_cases h2 : k = -2
  · subst h2
    rw [if_pos rfl]
    unfold St.has
    by_cases e : j = -2
    · subst e; simp
    · rw [if_neg e, if_neg e, show (j == -2) = false by simpa using e]; rfl
  · rw [if_neg h2]
    by_cases h1 : k = -1
    · subst h1
      rw [if_pos rfl]
      unfold St.has
      by_cases e : j = -2
      · subst e; simp
      · rw [if_neg e, if_neg e]
        by_cases f : j = -1
        · subst f; simp
        · rw [if_neg f, if_neg f, show (j == -1) = false by simpa using f]; rfl
    · rw [if_neg h1]
      by_cases hc : s.ls.contains k = true
      · rw [if_pos hc]
        by_cases e : j = k
        · subst e
          unfold St.has
          rw [if_neg h2, if_neg h1, hc]; simp
        · rw [show (j == k) = false by simpa using e]; rfl
      · rw [if_neg hc]
        unfold St.has
        by_cases e : j = -2
        · subst e
          have : ((-2 : Int) == k) = false := by rw [beq_eq_false_iff_ne]; omega
          rw [if_pos rfl, if_pos rfl, this]; rfl
        · rw [if_neg e, if_neg e]
          by_cases f : j = -1
          · subst f
            have : ((-1 : Int) == k) = false := by rw [beq_eq_false_iff_ne]; omega
            rw [if_pos rfl, if_pos rfl, this]; rfl
          · rw [if_neg f, if_neg f]
            simp only [List.contains_eq_mem, List.mem_append, List.mem_singleton, Bool.decide_or]
            rw [Bool.or_comm]; rfl
theorem cnt_put (s : St) (k : Int) : (s.put k).cnt = if s.has k = true then s.cnt else s.cnt + 1 := by
  unfold St.put St.has
  by_cases h2 : k = -2
  · rw [if_pos h2, if_pos h2]
    unfold St.cnt
    cases s.a <;> simp <;> omega
  · rw [if_neg h2, if_neg h2]
    by_cases h1 : k = -1
    · rw [if_pos h1, if_pos h1]
      unfold St.cnt
      cases s.b <;> simp <;> omega
    · rw [if_neg h1, if_neg h1]
      by_cases hc : s.ls.contains k = true
      · rw [if_pos hc, if_pos hc]
      · rw [if_neg hc, if_neg hc]
        unfold St.cnt
        simp; omega
/-- the pages of numbers that lead to a page -/
def leads (d o : Int) : List Int := if d = 1 then [-2] else if d = 2 then [-1, o] else []
theorem leads_len (d o : Int) : (leads d o).length ≤ 2 := by
  unfold leads
  split
  · simp
  · split <;> simp
def St.puts (s : St) (ks : List Int) : St := ks.foldl St.put s
def St.step (s : St) (i : Int) : St := if okB i = true then s.puts (leads (dep i) (out i)) else s
def run (l : List Int) : St := l.foldl St.step St.none
/-- how many pages of numbers a file has -/
def meta_ (l : List Int) : Nat := (run l).cnt
theorem puts_take (s : St) (ks : List Int) (j : Nat) (k : Int) (h : ks[j]? = some k) : s.puts (ks.take (j + 1)) = (s.puts (ks.take j)).put k := by
  obtain ⟨hj, rfl⟩ := List.getElem?_eq_some_iff.1 h
  unfold St.puts
  rw [List.take_succ_eq_append_getElem hj, List.foldl_append]; rfl
theorem run_take (l : List Int) (j : Nat) (k : Int) (h : l[j]? = some k) : run (l.take (j + 1)) = (run (l.take j)).step k := by
  obtain ⟨hj, rfl⟩ := List.getElem?_eq_some_iff.1 h
  unfold run
  rw [List.take_succ_eq_append_getElem hj, List.foldl_append]; rfl
/-! what is told by Dind is a place there, and so there are no more than there are pages -/
theorem put_len (s : St) (k : Int) : (s.put k).ls.length ≤ s.ls.length + 1 := by
  unfold St.put
  split
  · exact Nat.le_succ _
  · split
    · exact Nat.le_succ _
    · split
      · exact Nat.le_succ _
      · simp
theorem puts_len (ks : List Int) : ∀ s : St, (s.puts ks).ls.length ≤ s.ls.length + ks.length := by
  induction ks with
  | nil => intro s; exact Nat.le_refl _
  | cons k r ih =>
    intro s
    have h1 := ih (s.put k)
    have h2 := put_len s k
    show ((s.put k).puts r).ls.length ≤ _
    rw [List.length_cons]; omega
theorem step_len (s : St) (i : Int) : (s.step i).ls.length ≤ s.ls.length + 2 := by
  unfold St.step
  split
  · exact Nat.le_trans (puts_len _ s) (Nat.add_le_add_left (leads_len _ _) _)
  · omega
theorem run_len (l : List Int) : (run l).ls.length ≤ 2 * l.length := by
  have key : ∀ (l : List Int) (s : St), (l.foldl St.step s).ls.length ≤ s.ls.length + 2 * l.length := by
    intro l
    induction l with
    | nil => intro s; exact Nat.le_refl _
    | cons i r ih =>
      intro s
      have h1 := ih (s.step i)
      have h2 := step_len s i
      rw [List.foldl_cons, List.length_cons]; omega
  have := key l St.none
  unfold run
  simpa [St.none] using this
theorem cnt_bd (s : St) : s.cnt ≤ s.ls.length + 2 := by
  unfold St.cnt
  cases s.a <;> cases s.b <;> simp <;> omega
/-- a step by its kind -/
theorem step_no (s : St) (i : Int) (h : okB i = false) : s.step i = s := by unfold St.step; rw [h]; rfl
theorem step_0 (s : St) (i : Int) (h : dep i = 0) : s.step i = s := by
  unfold St.step
  split
  · rw [h]; rfl
  · rfl
theorem step_1 (s : St) (i : Int) (ho : okB i = true) (h : dep i = 1) : s.step i = { s with a := true } := by
  unfold St.step
  rw [if_pos ho, h]; rfl
theorem out_ge (i : Int) : 0 ≤ out i := by
  unfold out; split <;> omega
theorem step_2 (s : St) (i : Int) (ho : okB i = true) (h : dep i = 2) : s.step i = { s with b := true, ls := if s.ls.contains (out i) then s.ls else s.ls ++ [out i] } := by
  have hg := out_ge i
  unfold St.step
  rw [if_pos ho, h]
  show (s.put (-1)).put (out i) = _
  have e1 : s.put (-1) = { s with b := true } := by unfold St.put; rw [if_neg (by omega), if_pos rfl]
  rw [e1]
  unfold St.put
  rw [if_neg (by omega), if_neg (by omega)]
  by_cases hc : s.ls.contains (out i) = true
  · rw [if_pos hc, if_pos hc]
  · rw [if_neg hc, if_neg hc]
end Go.Proofs.Ytjobaoecomdipaa.Sp
