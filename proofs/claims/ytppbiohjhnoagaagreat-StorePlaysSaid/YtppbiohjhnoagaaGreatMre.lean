/-
  The document's own store: plain mathematics of its lists; in memory; at and put.
-/
import Derived.Test.YtppbiohjhnoagaaGreatMrc
import Derived.Test.YtppbiohjhnoagaaGreatMsd
import Derived.Test.YtppbiohjhnoagaaGreatMrd
namespace Go.Proofs.YtppbiohjhnoagaaGreat
open Go.RowKit
open Dk (zeros zeros_length)
open Jn (Chg)

/-! ### mathematics -/
def pst (c : Chg) (o : List Chg × Bool) (x : Chg) : List Chg × Bool :=
  let o1 := if o.2 = false ∧ c.no ≤ x.no then (o.1 ++ [c], true) else o
  if x.no ≠ c.no then (o1.1 ++ [x], o1.2) else o1
def pfin (c : Chg) (o : List Chg × Bool) : List Chg := if o.2 = false then o.1 ++ [c] else o.1
def putL (cs : List Chg) (c : Chg) : List Chg := pfin c (cs.foldl (pst c) ([], false))
theorem pst_rest (c : Chg) : ∀ (L : List Chg) (o : List Chg), (∀ x ∈ L, x.no ≠ c.no) → L.foldl (pst c) (o, true) = (o ++ L, true)
  | [], o, _ => by simp
  | x :: r, o, h => by
    rw [List.foldl_cons]
    have e : pst c (o, true) x = (o ++ [x], true) := by
      unfold pst
      simp [h x (by simp)]
    rw [e, pst_rest c r _ (fun y hy => h y (by simp [hy]))]
    simp
theorem pst_above (c : Chg) (L : List Chg) (o : List Chg) (h : ∀ x ∈ L, c.no < x.no) (hp : L.Pairwise (fun x y => x.no < y.no)) : pfin c (L.foldl (pst c) (o, false)) = o ++ c :: L := by
  cases L with
  | nil => simp [pfin]
  | cons x r =>
    have hx := h x (by simp)
    rw [List.foldl_cons]
    have e : pst c (o, false) x = (o ++ [c] ++ [x], true) := by
      unfold pst
      rw [if_pos (show x.no ≠ c.no by omega), if_pos ⟨rfl, by omega⟩]
    rw [e, pst_rest c r _ (fun y hy => by have := h y (by simp [hy]); omega)]
    simp [pfin]
theorem put_from (p : List UInt8) : ∀ (c : Pgs) (i m : Nat) (o : List Chg), m < c.length → pfin ⟨((i + m : Nat) : Int), p⟩ ((chgsFrom i c).foldl (pst ⟨((i + m : Nat) : Int), p⟩) (o, false)) = o ++ chgsFrom i (c.set m (some p))
  | [], i, m, o, h => by simp at h
  | none :: r, i, 0, o, _ => by
    rw [Nat.add_zero, chgsFrom, List.set_cons_zero, chgsFrom]
    exact pst_above _ _ _ (fun x hx => by
      obtain ⟨k, h1, _⟩ := (chgsFrom_mem r (i + 1) x).1 hx
      show (i : Int) < x.no
      omega) (chgsFrom_pw r (i + 1))
  | some q :: r, i, 0, o, _ => by
    rw [Nat.add_zero, chgsFrom, List.set_cons_zero, chgsFrom, List.foldl_cons]
    have e : pst ⟨(i : Int), p⟩ (o, false) ⟨(i : Int), q⟩ = (o ++ [⟨(i : Int), p⟩], true) := by
      unfold pst
      simp
    rw [e, pst_rest _ _ _ (fun x hx => by
      obtain ⟨k, h1, _⟩ := (chgsFrom_mem r (i + 1) x).1 hx
      show x.no ≠ (i : Int)
      omega)]
    simp [pfin]
  | none :: r, i, m + 1, o, h => by
    rw [chgsFrom, List.set_cons_succ, chgsFrom, show i + (m + 1) = i + 1 + m by omega]
    exact put_from p r (i + 1) m o (by simpa using h)
  | some q :: r, i, m + 1, o, h => by
    rw [chgsFrom, List.set_cons_succ, chgsFrom, List.foldl_cons]
    have e : pst ⟨((i + (m + 1) : Nat) : Int), p⟩ (o, false) ⟨(i : Int), q⟩ = (o ++ [⟨(i : Int), q⟩], false) := by
      unfold pst
      rw [if_pos (by show (i : Int) ≠ ((i + (m + 1) : Nat) : Int); omega), if_neg (by show ¬ (_ ∧ ((i + (m + 1) : Nat) : Int) ≤ (i : Int)); omega)]
    rw [e, show i + (m + 1) = i + 1 + m by omega, put_from p r (i + 1) m _ (by simpa using h)]
    simp
theorem put_chgs (c : Pgs) (m : Nat) (p : List UInt8) (h : m < c.length) : putL (chgs c) ⟨(m : Int), p⟩ = chgs (c.set m (some p)) := by
  have := put_from p c 0 m [] h
  rw [Nat.zero_add] at this
  unfold putL chgs
  rw [this]; rfl
/-- all changes, one behind the other -/
def setP (g : Pgs) (xs : List Chg) : Pgs := xs.foldl (fun C c => C.set c.no.toNat (some c.page)) g
theorem setP_length (xs : List Chg) : ∀ g, (setP g xs).length = g.length := by
  induction xs with
  | nil => intro g; rfl
  | cons x r ih => intro g; unfold setP at ih ⊢; rw [List.foldl_cons, ih, List.length_set]
theorem setP_other (xs : List Chg) : ∀ (g : Pgs) (i : Nat), (∀ x ∈ xs, x.no.toNat ≠ i) → (setP g xs).getD i none = g.getD i none := by
  induction xs with
  | nil => intro g i _; rfl
  | cons x r ih =>
    intro g i h
    have := ih (g.set x.no.toNat (some x.page)) i (fun y hy => h y (by simp [hy]))
    unfold setP at this ⊢
    rw [List.foldl_cons, this, List.getD_eq_getElem?_getD, List.getElem?_set_ne (h x (by simp)), ← List.getD_eq_getElem?_getD]
theorem setP_at (xs : List Chg) : ∀ (g : Pgs) (c : Chg), xs.Pairwise (fun x y => x.no < y.no) → (∀ x ∈ xs, 0 ≤ x.no) → c ∈ xs → c.no.toNat < g.length → (setP g xs).getD c.no.toNat none = some c.page := by
  induction xs with
  | nil => intro g c _ _ h; simp at h
  | cons x r ih =>
    intro g c hp h0 hc hl
    have hp' := List.pairwise_cons.1 hp
    rcases List.mem_cons.1 hc with rfl | hc
    · have := setP_other r (g.set c.no.toNat (some c.page)) c.no.toNat (fun y hy => by
        have h1 := hp'.1 y hy
        have h2 := h0 y (by simp [hy])
        have h3 := h0 c (by simp)
        omega)
      unfold setP at this ⊢
      rw [List.foldl_cons, this, List.getD_eq_getElem?_getD, List.getElem?_set_self hl]; rfl
    · have := ih (g.set x.no.toNat (some x.page)) c hp'.2 (fun y hy => h0 y (by simp [hy])) hc (by rw [List.length_set]; exact hl)
      unfold setP at this ⊢
      rw [List.foldl_cons, this]
theorem setP_join (g t : Pgs) (h : g.length = t.length) : setP g (chgs t) = joinP g t := by
  refine pgs_ext (by rw [setP_length, joinP_length]) (fun i hi => ?_)
  rw [setP_length] at hi
  rw [joinP_at _ _ _ hi]
  cases e : t.getD i none with
  | some p =>
    have hm : (⟨(i : Int), p⟩ : Chg) ∈ chgs t := chgs_mem.2 ⟨i, rfl, e⟩
    have := setP_at (chgs t) g ⟨(i : Int), p⟩ (chgs_pw t) (fun x hx => by obtain ⟨k, hk, _⟩ := chgs_mem.1 hx; omega) hm (by show ((i : Int)).toNat < _; omega)
    exact this
  | none =>
    refine (setP_other _ _ _ (fun x hx q => ?_)).trans rfl
    obtain ⟨k, hk, hk2⟩ := chgs_mem.1 hx
    have : k = i := by omega
    subst this
    rw [e] at hk2
    cases hk2
theorem joinP_no (t : Pgs) (n : Nat) (h : t.length = n) : joinP (noPgs n) t = t := by
  refine pgs_ext (by rw [joinP_length, h]; unfold noPgs; simp) (fun i hi => ?_)
  rw [joinP_length] at hi
  rw [joinP_at _ _ _ hi, noPgs_at]
  cases t.getD i none <;> rfl
theorem chgs_no (n : Nat) : chgs (noPgs n) = [] := List.eq_nil_of_length_eq_zero (by rw [chgs_length, cntO_no])

/-! ### at -/
def RatEnd (cs : List Chg) (i : Int) (w : World) (e : Ending) (w' : World) : Prop := ∃ m : Int, e = .returned (.int .i64 m) ∧ w = w' ∧ ((m = -1 ∧ ∀ x ∈ cs, x.no ≠ i) ∨ ∃ (k : Nat) (x : Chg), m = (k : Int) ∧ cs[k]? = some x ∧ x.no = i)
set_option maxRecDepth 100000 in
set_option maxHeartbeats 2000000 in
theorem rat_any {w : World} (P : Option Addr) (c : Nat) (cs : List Chg) (hrow : ChAt w P [] cs) (hl : cs.length ≤ 1000) (i : Int) :
    Calls Tryz.prog 32 #[.slice P cs.length c, .int .i64 i] w (RatEnd cs i w) := by
  have HR := Lib.hid hrow
  clear hrow
  obtain ⟨n, hn⟩ : ∃ n, cs.length = n := ⟨_, rfl⟩
  have HN := Lib.hid hn
  rw [hn] at hl ⊢
  clear hn
  go_enter Tryz.func32, Tryz.ntmps32
  go_wp2_with fail
  go_loopw [5] (fun v wr => ∃ k : Nat, k ≤ n ∧ v = .int .i64 k ∧ wr = w ∧ ∀ (t : Nat) (x : Chg), t < k → cs[t]? = some x → x.no ≠ i) (fun v _ => n - (intOf v).toNat)
  case atStart => exact ⟨0, Nat.zero_le _, rfl, rfl, fun t x h => by omega⟩
  case round =>
    obtain ⟨k, hk, rfl, rfl, hno⟩ := hrel
    have HNO := Lib.hid hno
    clear hno
    by_cases hlt : k < n
    · obtain ⟨x, hx⟩ : ∃ x, cs[k]? = some x := ⟨_, List.getElem?_eq_getElem (by rw [HN.out]; exact hlt)⟩
      obtain ⟨b, off, rfl, _, _, hc⟩ := HR.out (by rw [HN.out]; omega)
      have hcell := (chg_cells (hc k x hx)).1
      have HX := Lib.hid hx
      clear hc hx
      have hlt' : (k : Int) < (n : Int) := by omega
      by_cases he : x.no = i
      · have HE := Lib.hid he
        rw [he] at hcell
        clear he
        go_wp2_with fail
        go_ret
        exact ⟨(k : Int), rfl, rfl, Or.inr ⟨k, x, rfl, HX.out, HE.out⟩⟩
      · have hne : (x.no == i) = false := by simpa using he
        have HE := Lib.hid he
        clear he
        go_wp2_with fail
        go_roundw
        case rel =>
          refine ⟨k + 1, by omega, by go_num, by first | rfl | trivial, fun t y ht hy => ?_⟩
          by_cases e : t = k
          · subst e
            rw [HX.out] at hy
            injection hy with hy
            subst hy
            exact HE.out
          · exact HNO.out t y (by omega) hy
        case measure => simp [intOf]; omega
    · obtain rfl : k = n := by omega
      have hkk : ¬ ((k : Int) < (k : Int)) := by omega
      go_wp2_with fail
      go_ret
      refine ⟨-1, rfl, rfl, Or.inl ⟨rfl, fun x hx => ?_⟩⟩
      obtain ⟨t, ht, e⟩ := List.getElem_of_mem hx
      exact HNO.out t x (by rw [← HN.out]; exact ht) (by rw [List.getElem?_eq_getElem ht, e])
end Go.Proofs.YtppbiohjhnoagaaGreat

/-
  The contract of the document's own put of a change into a list.
-/
namespace Go.Proofs.YtppbiohjhnoagaaGreat
open Go.RowKit
open Dk (zeros zeros_length)
open Jn (Chg)

theorem pst_len (c : Chg) (cs : List Chg) (k : Nat) : ((cs.take k).foldl (pst c) ([], false)).1.length ≤ k + 1 := by
  have : ∀ (L : List Chg) (o : List Chg × Bool), (L.foldl (pst c) o).1.length + (if (L.foldl (pst c) o).2 = false then 1 else 0) ≤ o.1.length + (if o.2 = false then 1 else 0) + L.length := by
    intro L
    induction L with
    | nil => intro o; exact Nat.le_refl _
    | cons x r ih =>
      intro o
      rw [List.foldl_cons]
      refine Nat.le_trans (ih _) ?_
      have : (pst c o x).1.length + (if (pst c o x).2 = false then 1 else 0) ≤ o.1.length + (if o.2 = false then 1 else 0) + 1 := by
        obtain ⟨o1, d⟩ := o
        unfold pst
        cases d with
        | true =>
          simp only [Bool.true_eq_false, false_and, if_false]
          split <;> simp
        | false =>
          simp only [true_and]
          split <;> split <;> simp
      rw [List.length_cons]
      omega
  have h := this (cs.take k) ([], false)
  rw [List.length_take] at h
  simp at h
  split at h <;> omega
theorem pst_pages (c : Chg) (hc : c.page.length = 64) : ∀ (L : List Chg) (o : List Chg × Bool), (∀ x ∈ L, x.page.length = 64) → (∀ x ∈ o.1, x.page.length = 64) → ∀ x ∈ (L.foldl (pst c) o).1, x.page.length = 64
  | [], o, _, h => h
  | y :: r, o, hL, h => by
    rw [List.foldl_cons]
    refine pst_pages c hc r _ (fun x hx => hL x (by simp [hx])) ?_
    have hy := hL y (by simp)
    intro x hx
    unfold pst at hx
    simp only at hx
    split at hx
    · split at hx
      · simp at hx
        rcases hx with hx | rfl | rfl
        · exact h x hx
        · exact hc
        · exact hy
      · simp at hx
        rcases hx with hx | rfl
        · exact h x hx
        · exact hy
    · split at hx
      · simp at hx
        rcases hx with hx | rfl
        · exact h x hx
        · exact hc
      · exact h x hx
def RputEnd (cs : List Chg) (c : Chg) (w : World) (e : Ending) (w' : World) : Prop := ∃ (P' : Option Addr) (c' : Nat), e = .returned (.slice P' (putL cs c).length c') ∧ (∀ L : List Nat, (∀ x ∈ L, x < w.heap.size) → ChAt w' P' L (putL cs c)) ∧ Below w.heap.size w w'
set_option maxRecDepth 100000 in
theorem wpList_app_rchg' {ops : Array Oper} {rest : List Oper} {o : Oper} {a : Act} {Q : Exit → Act → World → Prop} {w W : World} {B : Nat} {cs : List Chg} {v : Value} {b : Nat} {c : Chg} (m : Nat) (hm : cs.length = m) (h : OwnG 83 65 chgVals w B cs v W) (hp : c.page.length = 64) (hl : m ≤ 1000) (hr : W.rangeAt b 0 (chgVals c))
    (hgd : o.guard = none) (s x : Operand) (ho : o.op = .call { callee := .builtin .append, args := #[s, x], argTypes := #[51, 51] }) (hs : a.eval s = v) (hx : a.eval x = .slice (some ⟨b, 0, none⟩) 1 1)
    (hn : ∀ A cap W', OwnG 83 65 chgVals w B (cs ++ [c]) (.slice A (m + 1) cap) W' → wpList Tryz.prog ops Q rest (a.put o.dst (.slice A (m + 1) cap)) W') : wpList Tryz.prog ops Q (o :: rest) a W := by
  subst hm
  exact wpList_app_rchg h hp hl hr hgd s x ho hs hx hn
set_option maxRecDepth 100000 in
set_option maxHeartbeats 4000000 in
theorem rput6_any {w : World} (P : Option Addr) (c0 : Nat) (cs : List Chg) (hrow : ChAt w P [] cs) (hp : ∀ x ∈ cs, x.page.length = 64) (hl : cs.length ≤ 900) (c : Chg) (hc : c.page.length = 64) :
    Calls Tryz.prog 34 #[.slice P cs.length c0, chgV c] w (RputEnd cs c w) := by
  have HR := Lib.hid (hrow.below ((Below.refl _ _).alloc (Nat.le_refl _) (.cells (chgVals c).toArray 83)))
  have HV0 : Hid (ChVar (w.alloc (.cells (chgVals c).toArray 83)) w.heap.size c) := Lib.hid (rowAt_new w (chgVals c) 83)
  have HPG := Lib.hid hp
  have HC := Lib.hid hc
  have HB1 : Hid (Below w.heap.size w (w.alloc (.cells (chgVals c).toArray 83))) := Lib.hid ((Below.refl _ _).alloc (Nat.le_refl _) _)
  have HS1 : Hid (w.heap.size ≤ (w.alloc (.cells (chgVals c).toArray 83)).heap.size) := Lib.hid (by simp)
  clear hrow hp hc
  obtain ⟨n, hn⟩ : ∃ n, cs.length = n := ⟨_, rfl⟩
  have HN := Lib.hid hn
  rw [hn] at hl ⊢
  clear hn
  unfold chgV
  go_enter Tryz.func34, Tryz.ntmps34
  go_wp2_with fail
  have HSZ : Hid ((w.alloc (.cells (chgVals c).toArray 83)).heap.size = w.heap.size + 1) := Lib.hid (by simp)
  generalize w.alloc (.cells (chgVals c).toArray 83) = w1 at HR HV0 HB1 HS1 HSZ ⊢
  generalize hvb : w.heap.size = V at HV0 HSZ ⊢
  have HVB := Lib.hid hvb
  clear hvb
  have HO0 : Hid (OwnG 83 65 chgVals w1 w1.heap.size ([] : List Chg) (.slice (some ⟨V + 1, 0, none⟩) 0 0) (w1.alloc (.cells #[] 83))) := Lib.hid (by
    have := OwnG.made 83 65 chgVals w1
    rwa [show (⟨w1.heap.size, 0, none⟩ : Addr) = ⟨V + 1, 0, none⟩ by rw [HSZ.out]] at this)
  go_loopw [5, 6, 7] (fun v d i wr => ∃ (Q : Option Addr) (q k : Nat), k ≤ n ∧ v = .slice Q ((cs.take k).foldl (pst c) ([], false)).1.length q ∧ d = .bool ((cs.take k).foldl (pst c) ([], false)).2 ∧ i = .int .i64 k ∧ OwnG 83 65 chgVals w1 w1.heap.size ((cs.take k).foldl (pst c) ([], false)).1 v wr) (fun _ _ i _ => n - (intOf i).toNat)
  case atStart => exact ⟨_, _, 0, Nat.zero_le _, rfl, rfl, rfl, HO0.out⟩
  case round =>
    obtain ⟨Q, q, k, hk, rfl, rfl, rfl, hown⟩ := hrel
    have HOW := Lib.hid hown
    have HLE := Lib.hid (pst_len c cs k)
    have HV := Lib.hid (RowAt.below HV0.out hown.bel (RowAt.lt HV0.out))
    clear hown HO0
    by_cases hlt : k < n
    · obtain ⟨x, hx⟩ : ∃ x, cs[k]? = some x := ⟨_, List.getElem?_eq_getElem (by rw [HN.out]; exact hlt)⟩
      obtain ⟨b, off, rfl, hb, _, hcc⟩ := HR.out (by rw [HN.out]; omega)
      have HXR : Hid (w1.rangeAt b (off + k * 65) (chgVals x) ∧ b < w1.heap.size) := Lib.hid ⟨hcc k x hx, hb⟩
      have HXL := Lib.hid (HPG.out x (List.mem_of_getElem? hx))
      have HTK : Hid ((cs.take (k + 1)).foldl (pst c) ([], false) = pst c ((cs.take k).foldl (pst c) ([], false)) x) := Lib.hid (by rw [take_more _ k x hx, List.foldl_append]; rfl)
      have hno := (chg_cells (range_below HXR.out.1 HOW.out.bel HXR.out.2)).1
      have hvn := ChVar.no HV.out
      clear hx hcc hb
      have hlt' : (k : Int) < (n : Int) := by omega
      have hk1 : k < 1000 := by omega
      generalize hO : (cs.take k).foldl (pst c) ([], false) = O at HOW HLE HTK ⊢
      clear hO
      obtain ⟨o, d⟩ := O
      simp only at HOW HLE ⊢
      have HOL : Hid (o.length ≤ 1000) := Lib.hid (by have := HLE.out; omega)
      have HOL2 : Hid (o.length + 1 ≤ 1000) := Lib.hid (by have := HLE.out; omega)
      cases d with
      | false =>
        by_cases hge : c.no ≤ x.no
        · by_cases heq : x.no = c.no
          · have HPS : Hid (pst c (o, false) x = (o ++ [c], true)) := Lib.hid (by unfold pst; rw [if_neg (show ¬ (x.no ≠ c.no) from fun q => q heq), if_pos ⟨rfl, hge⟩])
            rw [HPS.out] at HTK
            rw [heq] at hno
            go_wp2_with fail
            go_quiet (fail)
            have HQ1 := Lib.hid (HOW.out.call (W' := wr.drewN nq) ⟨rfl, rfl, rfl, Nat.le_refl _, fun _ _ => rfl⟩)
            generalize wr.drewN nq = wq1 at HQ1 ⊢
            
            clear hno hvn
            have HV1 := Lib.hid (RowAt.below HV0.out HQ1.out.bel (RowAt.lt HV0.out))
            go_wp2_with (first
              | ((with_reducible refine wpList_load_rchg (RowAt.range HV1.out) HC.out rfl (.tmp 3) rfl ?_ ?_); (exact rfl))
              | ((with_reducible refine wpList_buildRchg1 c HC.out (.tmp 28) rfl rfl rfl ?_); have HO2a := Lib.hid (HQ1.out.call (W' := wq1.alloc (.cells (chgVals c).toArray 83)) ((Below.refl _ _).alloc (Nat.le_refl _) _)); have HR2 : Hid ((wq1.alloc (.cells (chgVals c).toArray 83)).rangeAt wq1.heap.size 0 (chgVals c)) := Lib.hid (rowAt_new wq1 (chgVals c) 83).range; generalize wq1.alloc (.cells (chgVals c).toArray 83) = wa2 at HO2a HR2 ⊢; generalize wq1.heap.size = Ca2 at HR2 ⊢)
              | ((with_reducible refine wpList_app_rchg' _ rfl HO2a.out HC.out HOL.out HR2.out rfl (.tmp 27) (.tmp 29) rfl ?_ ?_ ?_); (exact rfl); (exact rfl); intro P2 c2 wb2 hob; have HO2 := Lib.hid hob; clear hob))
            
            have hno := (chg_cells (range_below HXR.out.1 HO2.out.bel HXR.out.2)).1
            rw [heq] at hno
            have HV3 := Lib.hid (RowAt.below HV0.out HO2.out.bel (RowAt.lt HV0.out))
            have hvn := ChVar.no HV3.out
            go_wp2_with fail
            go_quiet (fail)
            have HQ4 := Lib.hid (HO2.out.call (W' := wb2.drewN nq) ⟨rfl, rfl, rfl, Nat.le_refl _, fun _ _ => rfl⟩)
            generalize wb2.drewN nq = wq4 at HQ4 ⊢
            
            clear hno hvn
            go_wp2_with fail
            go_roundw
            case rel => exact ⟨P2, c2, k + 1, by omega, by rw [HTK.out] <;> simp, by rw [HTK.out], by go_num, by rw [HTK.out]; exact HQ4.out⟩
            case measure => simp [intOf]; omega
          · have hne : x.no ≠ c.no := heq
            have HPS : Hid (pst c (o, false) x = (o ++ [c] ++ [x], true)) := Lib.hid (by unfold pst; rw [if_pos (show x.no ≠ c.no from hne), if_pos ⟨rfl, hge⟩])
            rw [HPS.out] at HTK
            have hne1 : (x.no == c.no) = false := by simpa using hne
            have hne2 : (x.no != c.no) = true := by simpa using hne
            go_wp2_with fail
            go_quiet (fail)
            have HQ1 := Lib.hid (HOW.out.call (W' := wr.drewN nq) ⟨rfl, rfl, rfl, Nat.le_refl _, fun _ _ => rfl⟩)
            generalize wr.drewN nq = wq1 at HQ1 ⊢
            
            clear hno hvn
            have HV1 := Lib.hid (RowAt.below HV0.out HQ1.out.bel (RowAt.lt HV0.out))
            go_wp2_with (first
              | ((with_reducible refine wpList_load_rchg (RowAt.range HV1.out) HC.out rfl (.tmp 3) rfl ?_ ?_); (exact rfl))
              | ((with_reducible refine wpList_buildRchg1 c HC.out (.tmp 28) rfl rfl rfl ?_); have HO2a := Lib.hid (HQ1.out.call (W' := wq1.alloc (.cells (chgVals c).toArray 83)) ((Below.refl _ _).alloc (Nat.le_refl _) _)); have HR2 : Hid ((wq1.alloc (.cells (chgVals c).toArray 83)).rangeAt wq1.heap.size 0 (chgVals c)) := Lib.hid (rowAt_new wq1 (chgVals c) 83).range; generalize wq1.alloc (.cells (chgVals c).toArray 83) = wa2 at HO2a HR2 ⊢; generalize wq1.heap.size = Ca2 at HR2 ⊢)
              | ((with_reducible refine wpList_app_rchg' _ rfl HO2a.out HC.out HOL.out HR2.out rfl (.tmp 27) (.tmp 29) rfl ?_ ?_ ?_); (exact rfl); (exact rfl); intro P2 c2 wb2 hob; have HO2 := Lib.hid hob; clear hob))
            
            have hno := (chg_cells (range_below HXR.out.1 HO2.out.bel HXR.out.2)).1
            have HV3 := Lib.hid (RowAt.below HV0.out HO2.out.bel (RowAt.lt HV0.out))
            have hvn := ChVar.no HV3.out
            go_wp2_with fail
            go_quiet (fail)
            have HQ4 := Lib.hid (HO2.out.call (W' := wb2.drewN nq) ⟨rfl, rfl, rfl, Nat.le_refl _, fun _ _ => rfl⟩)
            generalize wb2.drewN nq = wq4 at HQ4 ⊢
            
            clear hno hvn
            go_wp2_with (first
              | ((with_reducible refine wpList_load_rchg (range_below HXR.out.1 HQ4.out.bel HXR.out.2) HXL.out rfl (.tmp 42) rfl ?_ ?_); (exact rfl))
              | ((with_reducible refine wpList_buildRchg1 x HXL.out (.tmp 43) rfl rfl rfl ?_); have HO5a := Lib.hid (HQ4.out.call (W' := wq4.alloc (.cells (chgVals x).toArray 83)) ((Below.refl _ _).alloc (Nat.le_refl _) _)); have HR5 : Hid ((wq4.alloc (.cells (chgVals x).toArray 83)).rangeAt wq4.heap.size 0 (chgVals x)) := Lib.hid (rowAt_new wq4 (chgVals x) 83).range; generalize wq4.alloc (.cells (chgVals x).toArray 83) = wa5 at HO5a HR5 ⊢; generalize wq4.heap.size = Ca5 at HR5 ⊢)
              | ((with_reducible refine wpList_app_rchg' (o.length + 1) (by simp) HO5a.out HXL.out HOL2.out HR5.out rfl (.tmp 39) (.tmp 44) rfl ?_ ?_ ?_); (exact rfl); (exact rfl); intro P5 c5 wb5 hob; have HO5 := Lib.hid hob; clear hob))
            
            go_roundw
            case rel => exact ⟨P5, c5, k + 1, by omega, by rw [HTK.out] <;> simp, by rw [HTK.out], by go_num, by rw [HTK.out]; exact HO5.out⟩
            case measure => simp [intOf]; omega
        · have hne : x.no ≠ c.no := by omega
          have HPS : Hid (pst c (o, false) x = (o ++ [x], false)) := Lib.hid (by unfold pst; rw [if_pos (show x.no ≠ c.no from hne), if_neg (show ¬ (_ ∧ c.no ≤ x.no) from fun q => hge q.2)])
          rw [HPS.out] at HTK
          have hne1 : (x.no == c.no) = false := by simpa using hne
          have hne2 : (x.no != c.no) = true := by simpa using hne
          have hge2 : decide (c.no ≤ x.no) = false := decide_eq_false hge
          go_wp2_with fail
          go_quiet (fail)
          have HQ1 := Lib.hid (HOW.out.call (W' := wr.drewN nq) ⟨rfl, rfl, rfl, Nat.le_refl _, fun _ _ => rfl⟩)
          generalize wr.drewN nq = wq1 at HQ1 ⊢
          
          clear hno hvn
          have hno := (chg_cells (range_below HXR.out.1 HQ1.out.bel HXR.out.2)).1
          have HV3 := Lib.hid (RowAt.below HV0.out HQ1.out.bel (RowAt.lt HV0.out))
          have hvn := ChVar.no HV3.out
          go_wp2_with fail
          go_quiet (fail)
          have HQ4 := Lib.hid (HQ1.out.call (W' := wq1.drewN nq) ⟨rfl, rfl, rfl, Nat.le_refl _, fun _ _ => rfl⟩)
          generalize wq1.drewN nq = wq4 at HQ4 ⊢
          
          clear hno hvn
          go_wp2_with (first
            | ((with_reducible refine wpList_load_rchg (range_below HXR.out.1 HQ4.out.bel HXR.out.2) HXL.out rfl (.tmp 42) rfl ?_ ?_); (exact rfl))
            | ((with_reducible refine wpList_buildRchg1 x HXL.out (.tmp 43) rfl rfl rfl ?_); have HO5a := Lib.hid (HQ4.out.call (W' := wq4.alloc (.cells (chgVals x).toArray 83)) ((Below.refl _ _).alloc (Nat.le_refl _) _)); have HR5 : Hid ((wq4.alloc (.cells (chgVals x).toArray 83)).rangeAt wq4.heap.size 0 (chgVals x)) := Lib.hid (rowAt_new wq4 (chgVals x) 83).range; generalize wq4.alloc (.cells (chgVals x).toArray 83) = wa5 at HO5a HR5 ⊢; generalize wq4.heap.size = Ca5 at HR5 ⊢)
            | ((with_reducible refine wpList_app_rchg' _ rfl HO5a.out HXL.out HOL.out HR5.out rfl (.tmp 39) (.tmp 44) rfl ?_ ?_ ?_); (exact rfl); (exact rfl); intro P5 c5 wb5 hob; have HO5 := Lib.hid hob; clear hob))
          
          go_roundw
          case rel => exact ⟨P5, c5, k + 1, by omega, by rw [HTK.out] <;> simp, by rw [HTK.out], by go_num, by rw [HTK.out]; exact HO5.out⟩
          case measure => simp [intOf]; omega
      | true =>
        by_cases heq : x.no = c.no
        · have HPS : Hid (pst c (o, true) x = (o, true)) := Lib.hid (by unfold pst; rw [if_neg (show ¬ (x.no ≠ c.no) from fun q => q heq), if_neg (by simp)])
          rw [HPS.out] at HTK
          rw [heq] at hno
          go_wp2_with fail
          go_quiet (fail)
          have HQ1 := Lib.hid (HOW.out.call (W' := wr.drewN nq) ⟨rfl, rfl, rfl, Nat.le_refl _, fun _ _ => rfl⟩)
          generalize wr.drewN nq = wq1 at HQ1 ⊢
          
          clear hno hvn
          have hno := (chg_cells (range_below HXR.out.1 HQ1.out.bel HXR.out.2)).1
          rw [heq] at hno
          have HV3 := Lib.hid (RowAt.below HV0.out HQ1.out.bel (RowAt.lt HV0.out))
          have hvn := ChVar.no HV3.out
          go_wp2_with fail
          go_quiet (fail)
          have HQ4 := Lib.hid (HQ1.out.call (W' := wq1.drewN nq) ⟨rfl, rfl, rfl, Nat.le_refl _, fun _ _ => rfl⟩)
          generalize wq1.drewN nq = wq4 at HQ4 ⊢
          
          clear hno hvn
          go_wp2_with fail
          go_roundw
          case rel => exact ⟨Q, q, k + 1, by omega, by rw [HTK.out] <;> simp, by rw [HTK.out], by go_num, by rw [HTK.out]; exact HQ4.out⟩
          case measure => simp [intOf]; omega
        · have hne : x.no ≠ c.no := heq
          have HPS : Hid (pst c (o, true) x = (o ++ [x], true)) := Lib.hid (by unfold pst; rw [if_pos (show x.no ≠ c.no from hne), if_neg (by simp)])
          rw [HPS.out] at HTK
          have hne1 : (x.no == c.no) = false := by simpa using hne
          have hne2 : (x.no != c.no) = true := by simpa using hne
          go_wp2_with fail
          go_quiet (fail)
          have HQ1 := Lib.hid (HOW.out.call (W' := wr.drewN nq) ⟨rfl, rfl, rfl, Nat.le_refl _, fun _ _ => rfl⟩)
          generalize wr.drewN nq = wq1 at HQ1 ⊢
          
          clear hno hvn
          have hno := (chg_cells (range_below HXR.out.1 HQ1.out.bel HXR.out.2)).1
          have HV3 := Lib.hid (RowAt.below HV0.out HQ1.out.bel (RowAt.lt HV0.out))
          have hvn := ChVar.no HV3.out
          go_wp2_with fail
          go_quiet (fail)
          have HQ4 := Lib.hid (HQ1.out.call (W' := wq1.drewN nq) ⟨rfl, rfl, rfl, Nat.le_refl _, fun _ _ => rfl⟩)
          generalize wq1.drewN nq = wq4 at HQ4 ⊢
          
          clear hno hvn
          go_wp2_with (first
            | ((with_reducible refine wpList_load_rchg (range_below HXR.out.1 HQ4.out.bel HXR.out.2) HXL.out rfl (.tmp 42) rfl ?_ ?_); (exact rfl))
            | ((with_reducible refine wpList_buildRchg1 x HXL.out (.tmp 43) rfl rfl rfl ?_); have HO5a := Lib.hid (HQ4.out.call (W' := wq4.alloc (.cells (chgVals x).toArray 83)) ((Below.refl _ _).alloc (Nat.le_refl _) _)); have HR5 : Hid ((wq4.alloc (.cells (chgVals x).toArray 83)).rangeAt wq4.heap.size 0 (chgVals x)) := Lib.hid (rowAt_new wq4 (chgVals x) 83).range; generalize wq4.alloc (.cells (chgVals x).toArray 83) = wa5 at HO5a HR5 ⊢; generalize wq4.heap.size = Ca5 at HR5 ⊢)
            | ((with_reducible refine wpList_app_rchg' _ rfl HO5a.out HXL.out HOL.out HR5.out rfl (.tmp 39) (.tmp 44) rfl ?_ ?_ ?_); (exact rfl); (exact rfl); intro P5 c5 wb5 hob; have HO5 := Lib.hid hob; clear hob))
          
          go_roundw
          case rel => exact ⟨P5, c5, k + 1, by omega, by rw [HTK.out] <;> simp, by rw [HTK.out], by go_num, by rw [HTK.out]; exact HO5.out⟩
          case measure => simp [intOf]; omega
    · obtain rfl : n = k := by omega
      have hkk : ¬ ((n : Int) < (n : Int)) := by omega
      have HTA : Hid (cs.take n = cs) := Lib.hid (List.take_of_length_le (by rw [HN.out]; exact Nat.le_refl _))
      rw [HTA.out] at HOW HLE ⊢
      have HPP := Lib.hid (pst_pages c HC.out cs ([], false) HPG.out (by simp))
      have HPU : Hid (∀ O, cs.foldl (pst c) ([], false) = O → putL cs c = pfin c O) := Lib.hid (fun O h => by unfold putL; rw [h])
      generalize hO : cs.foldl (pst c) ([], false) = O at HOW HLE HPP ⊢
      have HPV := Lib.hid (HPU.out O hO)
      clear hO HPU
      obtain ⟨o, d⟩ := O
      simp only at HOW HLE HPP ⊢
      have HOL : Hid (o.length ≤ 1000) := Lib.hid (by have := HLE.out; omega)
      have HOL2 : Hid (o.length + 1 ≤ 1000) := Lib.hid (by have := HLE.out; omega)
      have HLT : Hid (∀ L : List Nat, (∀ x ∈ L, x < V) → ∀ x ∈ L, x < w1.heap.size) := Lib.hid (fun L hL x hx => by have := hL x hx; have := HSZ.out; omega)
      cases d with
      | false =>
        have HPF : Hid (putL cs c = o ++ [c]) := Lib.hid HPV.out
        go_wp2_with (first
          | ((with_reducible refine wpList_load_rchg (RowAt.range HV.out) HC.out rfl (.tmp 3) rfl ?_ ?_); (exact rfl))
          | ((with_reducible refine wpList_buildRchg1 c HC.out (.tmp 49) rfl rfl rfl ?_); have HO2a := Lib.hid (HOW.out.call (W' := wr.alloc (.cells (chgVals c).toArray 83)) ((Below.refl _ _).alloc (Nat.le_refl _) _)); have HR2 : Hid ((wr.alloc (.cells (chgVals c).toArray 83)).rangeAt wr.heap.size 0 (chgVals c)) := Lib.hid (rowAt_new wr (chgVals c) 83).range; generalize wr.alloc (.cells (chgVals c).toArray 83) = wa2 at HO2a HR2 ⊢; generalize wr.heap.size = Ca2 at HR2 ⊢)
          | ((with_reducible refine wpList_app_rchg' _ rfl HO2a.out HC.out HOL.out HR2.out rfl (.tmp 48) (.tmp 50) rfl ?_ ?_ ?_); (exact rfl); (exact rfl); intro P2 c2 wb2 hob; have HO2 := Lib.hid hob; clear hob))
        go_wp2_with fail
        go_ret
        unfold RputEnd
        rw [HPF.out]
        refine ⟨P2, c2, by rw [List.length_append]; rfl, fun L hL => ?_, HB1.out.trans (HO2.out.bel.mono (by have := HSZ.out; have := HVB.out; omega))⟩
        exact HO2.out.slice (by rw [List.length_append]; rfl) (fun x hx => by
          rcases List.mem_append.1 hx with hx | hx
          · exact chgVals_length (HPP.out x hx)
          · rw [List.mem_singleton] at hx; subst hx; exact chgVals_length HC.out) (HLT.out L (by rw [← HVB.out]; exact hL))
      | true =>
        have HPF : Hid (putL cs c = o) := Lib.hid HPV.out
        go_wp2_with fail
        go_ret
        unfold RputEnd
        rw [HPF.out]
        refine ⟨Q, q, rfl, fun L hL => ?_, HB1.out.trans (HOW.out.bel.mono (by have := HSZ.out; have := HVB.out; omega))⟩
        exact HOW.out.slice rfl (fun x hx => chgVals_length (HPP.out x hx)) (HLT.out L (by rw [← HVB.out]; exact hL))
end Go.Proofs.YtppbiohjhnoagaaGreat

/-
  The document's own store in memory; the contracts of its may and Read.
-/
namespace Go.Proofs.YtppbiohjhnoagaaGreat
open Go.RowKit
open Dk (zeros zeros_length)
open Jn (Chg)

/-- a store's blocks: its own, its journal's, its disk's four -/
structure RBlk where
  v : Nat
  j : Nat
  r : Nat
  ra : Nat
  rb : Nat
  rc : Nat
  x : List Nat
def RBlk.all (b : RBlk) : List Nat := [b.v, b.j, b.r, b.ra, b.rb, b.rc]
/-- with the blocks of others, which its lists don't lie in -/
def RBlk.far (b : RBlk) : List Nat := b.all ++ b.x
def rsVals (b : RBlk) (P1 : Option Addr) (n1 c1 : Nat) (P2 : Option Addr) (n2 c2 : Nat) : List Value := [.pointer (some ⟨b.j, 0, none⟩), .slice P1 n1 c1, .slice P2 n2 c2]
structure RStAt (w : World) (b : RBlk) (s : Sto) : Prop where
  row : ∃ P1 c1 P2 c2, RowAt w b.v (rsVals b P1 (chgs s.step).length c1 P2 (chgs s.group).length c2) ∧ ChAt w P1 b.far (chgs s.step) ∧ ChAt w P2 b.far (chgs s.group)
  ja : ∃ q, JAt w b.j b.r s.a s.z q s.over ∧ (s.over = false → q = s.q + 1)
  disk : RefAt w b.r b.ra b.rb b.rc s.dk
  nd : b.all.Nodup
  ok : s.Ok
  z3 : 3 ≤ s.z
  z20 : s.z ≤ 20
  r2 : s.r = s.z - 2
  xs : ∀ k ∈ b.x, k < w.heap.size
  ap : ∀ k ∈ b.x, k ∉ b.all
theorem RBlk.ne {b : RBlk} (h : b.all.Nodup) : b.v ≠ b.j ∧ b.v ∉ [b.r, b.ra, b.rb, b.rc] ∧ b.j ∉ [b.r, b.ra, b.rb, b.rc] ∧ b.v ∉ [b.r, b.ra, b.rb, b.rc, b.j] := by
  unfold RBlk.all at h
  simp only [List.nodup_cons, List.mem_cons, List.not_mem_nil, or_false, not_or] at h
  obtain ⟨⟨h1, h2, h3, h4, h5⟩, ⟨h6, h7, h8, h9⟩, _⟩ := h
  simp only [List.mem_cons, List.not_mem_nil, or_false, not_or]
  exact ⟨h1, ⟨h2, h3, h4, h5⟩, ⟨h6, h7, h8, h9⟩, h2, h3, h4, h5, h1⟩
theorem RStAt.lt {w : World} {b : RBlk} {s : Sto} (h : RStAt w b s) : ∀ k ∈ b.all, k < w.heap.size := by
  intro k hk
  obtain ⟨q, hj, _⟩ := h.ja
  obtain ⟨_, _, _, _, hr, _⟩ := h.row
  unfold RBlk.all at hk
  simp only [List.mem_cons, List.not_mem_nil, or_false] at hk
  rcases hk with rfl | rfl | rfl | rfl | rfl | rfl
  · exact RowAt.lt hr
  · exact hj.lt
  · exact h.disk.rlt
  · exact h.disk.alt
  · exact h.disk.blt
  · exact h.disk.clt
theorem RStAt.below {w w' : World} {b : RBlk} {s : Sto} (h : RStAt w b s) (hb : Below w.heap.size w w') : RStAt w' b s := by
  obtain ⟨q, hj, hq⟩ := h.ja
  obtain ⟨P1, c1, P2, c2, hr, h1, h2⟩ := h.row
  exact ⟨⟨P1, c1, P2, c2, hr.below hb (RowAt.lt hr), h1.below hb, h2.below hb⟩, ⟨q, hj.below hb, hq⟩, h.disk.below hb, h.nd, h.ok, h.z3, h.z20, h.r2, fun k hk => Nat.lt_of_lt_of_le (h.xs k hk) hb.size, h.ap⟩
/-- what others do -/
theorem RStAt.others {w w' : World} {b : RBlk} {s : Sto} {L : List Nat} (h : RStAt w b s) (ho : Only L w w') (hL : ∀ k ∈ L, k ∈ b.x) : RStAt w' b s := by
  obtain ⟨q, hj, hq⟩ := h.ja
  obtain ⟨P1, c1, P2, c2, hr, h1, h2⟩ := h.row
  have hn : ∀ k ∈ b.all, k ∉ L := fun k hk e => h.ap k (hL k e) hk
  have hf : ∀ k ∈ L, k ∈ b.far := fun k hk => List.mem_append_right _ (hL k hk)
  exact ⟨⟨P1, c1, P2, c2, RowAt.only hr ho (hn _ (by simp [RBlk.all])), h1.only ho hf, h2.only ho hf⟩, ⟨q, hj.only ho (hn _ (by simp [RBlk.all])), hq⟩, h.disk.only ho (hn _ (by simp [RBlk.all])) (hn _ (by simp [RBlk.all])) (hn _ (by simp [RBlk.all])) (hn _ (by simp [RBlk.all])), h.nd, h.ok, h.z3, h.z20, h.r2, fun k hk => Nat.lt_of_lt_of_le (h.xs k hk) ho.size, h.ap⟩
theorem RStAt.ltf {w : World} {b : RBlk} {s : Sto} (h : RStAt w b s) : ∀ k ∈ b.far, k < w.heap.size := fun k hk => by
  rcases List.mem_append.1 hk with hk | hk
  · exact h.lt k hk
  · exact h.xs k hk
theorem RStAt.alloc {w : World} {b : RBlk} {s : Sto} (h : RStAt w b s) (o : Obj) : RStAt (w.alloc o) b s := h.below ((Below.refl _ _).alloc (Nat.le_refl _) _)
theorem below_drw (w : World) (n : Nat) : Below w.heap.size w (w.drewN n) := ⟨rfl, rfl, rfl, Nat.le_refl _, fun _ _ => rfl⟩

/-! ### where a page stands -/
theorem rat_some {w : World} (P : Option Addr) (n : Nat) (c : Pgs) (hrow : ChAt w P [] (chgs c)) (hl : (chgs c).length ≤ 1000) (k : Nat) {p : List UInt8} (hk : c.getD k none = some p) :
    Calls Tryz.prog 32 #[.slice P (chgs c).length n, .int .i64 (k : Int)] w fun e w' => ∃ t : Nat, e = .returned (.int .i64 (t : Int)) ∧ w = w' ∧ t < (chgs c).length ∧ (chgs c)[t]? = some ⟨(k : Int), p⟩ := by
  refine (rat_any P n (chgs c) hrow hl (k : Int)).mono ?_
  rintro e w' ⟨m, rfl, rfl, h⟩
  rcases h with ⟨_, h⟩ | ⟨t, x, rfl, h1, h2⟩
  · exact absurd rfl (h ⟨(k : Int), p⟩ (chgs_mem.2 ⟨k, rfl, hk⟩))
  · obtain ⟨k', h3, h4⟩ := chgs_mem.1 (List.mem_of_getElem? h1)
    have : k' = k := by omega
    subst this
    rw [hk] at h4
    injection h4 with h4
    have hx : x = ⟨(k' : Int), p⟩ := by cases x; simp at h2 h4 ⊢; exact ⟨h2, h4.symm⟩
    exact ⟨t, rfl, rfl, (List.getElem?_eq_some_iff.1 h1).1, by rw [h1, hx]⟩
theorem rat_none {w : World} (P : Option Addr) (n : Nat) (c : Pgs) (hrow : ChAt w P [] (chgs c)) (hl : (chgs c).length ≤ 1000) (k : Nat) (hk : c.getD k none = none) :
    Calls Tryz.prog 32 #[.slice P (chgs c).length n, .int .i64 (k : Int)] w fun e w' => e = .returned (.int .i64 (-1)) ∧ w = w' := by
  refine (rat_any P n (chgs c) hrow hl (k : Int)).mono ?_
  rintro e w' ⟨m, rfl, rfl, h⟩
  rcases h with ⟨rfl, _⟩ | ⟨t, x, rfl, h1, h2⟩
  · exact ⟨rfl, rfl⟩
  · obtain ⟨k', h3, h4⟩ := chgs_mem.1 (List.mem_of_getElem? h1)
    have : k' = k := by omega
    subst this
    rw [hk] at h4
    cases h4
theorem chgs_small {s : Sto} (h : s.Ok) : (chgs s.step).length ≤ 32 ∧ (chgs s.group).length ≤ 32 := by
  rw [chgs_length, chgs_length]
  have := h.scnt
  have := h.gcnt
  have := h.r32
  omega

/-! ### may -/
set_option maxRecDepth 100000 in
set_option maxHeartbeats 2000000 in
theorem rmay6_any {w : World} {b : RBlk} {s : Sto} (h : RStAt w b s) (i : Int) : Calls Tryz.prog 31 #[.pointer (some ⟨b.v, 0, none⟩), .int .i64 i] w fun e w' => e = .returned (.int .i64 (sreachE s i)) ∧ Below w.heap.size w w' := by
  obtain ⟨q, hj, _⟩ := h.ja
  obtain ⟨P1, c1, P2, c2, hr, _, _⟩ := h.row
  have v0 : w.cell? ⟨b.v, 0, none⟩ = some (.pointer (some ⟨b.j, 0, none⟩)) := RowAt.cell hr 0 _ rfl
  have j0 := hj.c0
  have j1 := hj.c1
  have j2 := hj.c2
  have j4 := hj.c4
  have d0 := h.disk.c0
  have hA' : (s.a : Int) ≤ 900 := by have := h.ok.a9; omega
  have hZ' : (s.z : Int) ≤ 900 := by have := h.ok.z9; omega
  have hsm := h.disk.ok.small
  clear h hj hr
  unfold sreachE
  generalize s.dk.last.length = n at d0 hsm ⊢
  generalize s.a = A at j1 hA' ⊢
  generalize s.z = Z at j2 hZ' ⊢
  cases ho : s.over with
  | true =>
    rw [ho] at j4
    go_enter Tryz.func31, Tryz.ntmps31
    go_wp2_with fail
    go_ret
    exact ⟨rfl, Below.refl _ _⟩
  | false =>
    rw [ho] at j4
    clear ho
    by_cases k1 : i < 0
    · skip
      have HE : Hid ((if false = true then (5 : Int) else if otherB n A Z i = true then 0 else 22) = 22) := Lib.hid (by rw [if_neg (by simp)]; unfold otherB; rw [if_neg (by rw [decide_eq_true_iff]; omega)])
      rw [HE.out]
      go_enter Tryz.func31, Tryz.ntmps31
      go_wp2_with fail
      go_quiet (fail)
      go_wp2
      go_ret
      exact ⟨rfl, ⟨rfl, rfl, rfl, Nat.le_refl _, fun _ _ => rfl⟩⟩
    · have k1' : decide (i < 0) = false := decide_eq_false k1
      by_cases k2 : (n : Int) ≤ i
      · skip
        have HE : Hid ((if false = true then (5 : Int) else if otherB n A Z i = true then 0 else 22) = 22) := Lib.hid (by rw [if_neg (by simp)]; unfold otherB; rw [if_neg (by rw [decide_eq_true_iff]; omega)])
        rw [HE.out]
        go_enter Tryz.func31, Tryz.ntmps31
        go_wp2_with fail
        go_quiet (fail)
        go_wp2
        go_ret
        exact ⟨rfl, ⟨rfl, rfl, rfl, Nat.le_refl _, fun _ _ => rfl⟩⟩
      · have k2' : decide ((n : Int) ≤ i) = false := decide_eq_false k2
        by_cases k3 : (A : Int) ≤ i
        · by_cases k4 : i < (A : Int) + (Z : Int)
          · skip
            have HE : Hid ((if false = true then (5 : Int) else if otherB n A Z i = true then 0 else 22) = 22) := Lib.hid (by rw [if_neg (by simp)]; unfold otherB; rw [if_neg (by rw [decide_eq_true_iff]; omega)])
            rw [HE.out]
            go_enter Tryz.func31, Tryz.ntmps31
            go_wp2_with fail
            go_quiet (fail)
            go_wp2
            go_ret
            exact ⟨rfl, ⟨rfl, rfl, rfl, Nat.le_refl _, fun _ _ => rfl⟩⟩
          · skip
            have k4' : decide (i < (A : Int) + (Z : Int)) = false := decide_eq_false k4
            have HE : Hid ((if false = true then (5 : Int) else if otherB n A Z i = true then 0 else 22) = 0) := Lib.hid (by rw [if_neg (by simp)]; unfold otherB; rw [if_pos (by rw [decide_eq_true_iff]; omega)])
            rw [HE.out]
            go_enter Tryz.func31, Tryz.ntmps31
            go_wp2_with fail
            go_quiet (fail)
            go_wp2
            go_ret
            exact ⟨rfl, ⟨rfl, rfl, rfl, Nat.le_refl _, fun _ _ => rfl⟩⟩
        · skip
          have k3' : decide ((A : Int) ≤ i) = false := decide_eq_false k3
          have HE : Hid ((if false = true then (5 : Int) else if otherB n A Z i = true then 0 else 22) = 0) := Lib.hid (by rw [if_neg (by simp)]; unfold otherB; rw [if_pos (by rw [decide_eq_true_iff]; omega)])
          rw [HE.out]
          go_enter Tryz.func31, Tryz.ntmps31
          go_wp2_with fail
          go_quiet (fail)
          go_wp2
          go_ret
          exact ⟨rfl, ⟨rfl, rfl, rfl, Nat.le_refl _, fun _ _ => rfl⟩⟩
end Go.Proofs.YtppbiohjhnoagaaGreat

/-
  The contracts of the document's own Read and Put of a store.
-/
namespace Go.Proofs.YtppbiohjhnoagaaGreat
open Go.RowKit
open Dk (zeros zeros_length)
open Jn (Chg)

theorem rat_idx {w : World} (P : Option Addr) (n : Nat) (c : Pgs) (hrow : ChAt w P [] (chgs c)) (hl : (chgs c).length ≤ 1000) (k t : Nat) {p : List UInt8} (hk : (chgs c)[t]? = some ⟨(k : Int), p⟩) :
    Calls Tryz.prog 32 #[.slice P (chgs c).length n, .int .i64 (k : Int)] w fun e w' => e = .returned (.int .i64 (t : Int)) ∧ w = w' := by
  refine (rat_any P n (chgs c) hrow hl (k : Int)).mono ?_
  rintro e w' ⟨m, rfl, rfl, h⟩
  rcases h with ⟨_, h⟩ | ⟨t', x, rfl, h1, h2⟩
  · exact absurd rfl (h _ (List.mem_of_getElem? hk))
  · have a1 := List.getElem?_eq_some_iff.1 hk
    have a2 := List.getElem?_eq_some_iff.1 h1
    have e1 : ((chgs c)[t]'a1.1).no = (k : Int) := by rw [a1.2]
    have e2 : ((chgs c)[t']'a2.1).no = (k : Int) := by rw [a2.2]; exact h2
    have : t' = t := by
      rcases Nat.lt_trichotomy t' t with g | g | g
      · have := List.pairwise_iff_getElem.1 (chgs_pw c) t' t a2.1 a1.1 g
        omega
      · exact g
      · have := List.pairwise_iff_getElem.1 (chgs_pw c) t t' a1.1 a2.1 g
        omega
    subst this
    exact ⟨rfl, rfl⟩
theorem chgs_idx {c : Pgs} {k : Nat} {p : List UInt8} (h : c.getD k none = some p) : ∃ t, t < (chgs c).length ∧ (chgs c)[t]? = some ⟨(k : Int), p⟩ := by
  obtain ⟨t, ht, e⟩ := List.getElem_of_mem (chgs_mem.2 ⟨k, rfl, h⟩ : (⟨(k : Int), p⟩ : Chg) ∈ chgs c)
  exact ⟨t, ht, by rw [List.getElem?_eq_getElem ht, e]⟩
set_option maxRecDepth 100000 in
theorem RowAt.setAt {w : World} {b : Nat} {vs : List Value} (h : RowAt w b vs) (i : Nat) (hi : i < vs.length) (v : Value) : RowAt (w.setCell ⟨b, i, none⟩ v) b (vs.set i v) where
  range := fun j u hu => by
    rw [Nat.zero_add]
    rw [List.getElem?_set] at hu
    by_cases e : i = j
    · subst e
      rw [if_pos rfl, if_pos hi] at hu
      injection hu with hu
      subst hu
      have := (h.free i hi).1
      rw [Nat.zero_add] at this
      exact World.cell?_setCell_same' _ _ _ this
    · rw [if_neg e] at hu
      rw [World.cell?_setCell_other _ _ _ _ (fun q => e (by injection q))]
      exact h.cell j u hu
  free := fun j hj => by
    rw [List.length_set] at hj
    have hf := h.free j hj
    rw [World.frozen?_setCell]
    refine ⟨?_, hf.2⟩
    rw [Nat.zero_add] at hf ⊢
    by_cases e : i = j
    · subst e
      rw [World.cell?_setCell_same' _ _ _ hf.1]; rfl
    · rw [World.cell?_setCell_other _ _ _ _ (fun q => e (by injection q))]; exact hf.1
theorem RStAt.setStep {w : World} {b : RBlk} {s : Sto} {P : Option Addr} {n : Nat} (h : RStAt w b s) {c : Pgs} (hch : ChAt w P b.far (chgs c)) (hok : Sto.Ok { s with step := c }) : RStAt (w.setCell ⟨b.v, 1, none⟩ (.slice P (chgs c).length n)) b { s with step := c } := by
  obtain ⟨q, hj, hq⟩ := h.ja
  obtain ⟨P1, c1, P2, c2, hr, h1, h2⟩ := h.row
  have ne := RBlk.ne h.nd
  have ho : Only [b.v] w (w.setCell ⟨b.v, 1, none⟩ (.slice P (chgs c).length n)) := (Only.refl [b.v] w).setCell (p := ⟨b.v, 1, none⟩) (by simp) _
  have hv : ∀ x ∈ [b.v], x ∈ b.far := by simp [RBlk.far, RBlk.all]
  refine ⟨⟨P, n, P2, c2, RowAt.setAt hr 1 (by unfold rsVals; simp) _, hch.only ho hv, h2.only ho hv⟩, ⟨q, hj.only ho (by simpa using Ne.symm ne.1), hq⟩, h.disk.only ho ?_ ?_ ?_ ?_, h.nd, hok, h.z3, h.z20, h.r2, fun k hk => Nat.lt_of_lt_of_le (h.xs k hk) ho.size, h.ap⟩
  all_goals
    intro e
    refine ne.2.1 ?_
    simp at e ⊢
    omega
theorem RStAt.setGroup {w : World} {b : RBlk} {s : Sto} {P : Option Addr} {n : Nat} (h : RStAt w b s) {c : Pgs} (hch : ChAt w P b.far (chgs c)) (hok : Sto.Ok { s with group := c }) : RStAt (w.setCell ⟨b.v, 2, none⟩ (.slice P (chgs c).length n)) b { s with group := c } := by
  obtain ⟨q, hj, hq⟩ := h.ja
  obtain ⟨P1, c1, P2, c2, hr, h1, h2⟩ := h.row
  have ne := RBlk.ne h.nd
  have ho : Only [b.v] w (w.setCell ⟨b.v, 2, none⟩ (.slice P (chgs c).length n)) := (Only.refl [b.v] w).setCell (p := ⟨b.v, 2, none⟩) (by simp) _
  have hv : ∀ x ∈ [b.v], x ∈ b.far := by simp [RBlk.far, RBlk.all]
  refine ⟨⟨P1, c1, P, n, RowAt.setAt hr 2 (by unfold rsVals; simp) _, h1.only ho hv, hch.only ho hv⟩, ⟨q, hj.only ho (by simpa using Ne.symm ne.1), hq⟩, h.disk.only ho ?_ ?_ ?_ ?_, h.nd, hok, h.z3, h.z20, h.r2, fun k hk => Nat.lt_of_lt_of_le (h.xs k hk) ho.size, h.ap⟩
  all_goals
    intro e
    refine ne.2.1 ?_
    simp at e ⊢
    omega
/-- behind the result's block -/
structure RrAt (w : World) (b : RBlk) (s : Sto) (p : List UInt8) (W : World) : Prop where
  page : PageAt W w.heap.size p
  st : RStAt W b s
  bel : Below w.heap.size w W
  lt : w.heap.size < W.heap.size
theorem RrAt.next {w : World} {b : RBlk} {s : Sto} {p : List UInt8} {W W' : World} (h : RrAt w b s p W) (hb : Below W.heap.size W W') : RrAt w b s p W' :=
  ⟨h.page.below hb h.lt, h.st.below hb, h.bel.trans (hb.mono h.bel.size), Nat.lt_of_lt_of_le h.lt hb.size⟩
theorem rrAt_start {w : World} {b : RBlk} {s : Sto} (h : RStAt w b s) {p : List UInt8} (hp : p.length = 64) : RrAt w b s p (w.alloc (.cells (byteVals p).toArray 38)) :=
  ⟨pageAt_new w p 38 hp, h.alloc _, (Below.refl _ _).alloc (Nat.le_refl _) _, by simp⟩
theorem rrAt_zero {w : World} {b : RBlk} {s : Sto} (h : RStAt w b s) : RrAt w b s zeros (w.alloc (.cells zeroCells 38)) :=
  ⟨pageAt_zeros w 38, h.alloc _, (Below.refl _ _).alloc (Nat.le_refl _) _, by simp⟩
/-- the two slices of a store -/
structure RsSl (W : World) (b : RBlk) (s : Sto) (P1 : Option Addr) (c1 : Nat) (P2 : Option Addr) (c2 : Nat) : Prop where
  row : RowAt W b.v (rsVals b P1 (chgs s.step).length c1 P2 (chgs s.group).length c2)
  step : ChAt W P1 b.far (chgs s.step)
  group : ChAt W P2 b.far (chgs s.group)
theorem RsSl.v0 {W : World} {b : RBlk} {s : Sto} {P1 : Option Addr} {c1 : Nat} {P2 : Option Addr} {c2 : Nat} (h : RsSl W b s P1 c1 P2 c2) : W.cell? ⟨b.v, 0, none⟩ = some (.pointer (some ⟨b.j, 0, none⟩)) := RowAt.cell h.row 0 _ rfl
theorem RsSl.v1 {W : World} {b : RBlk} {s : Sto} {P1 : Option Addr} {c1 : Nat} {P2 : Option Addr} {c2 : Nat} (h : RsSl W b s P1 c1 P2 c2) : W.cell? ⟨b.v, 1, none⟩ = some (.slice P1 (chgs s.step).length c1) := RowAt.cell h.row 1 _ rfl
theorem RsSl.v2 {W : World} {b : RBlk} {s : Sto} {P1 : Option Addr} {c1 : Nat} {P2 : Option Addr} {c2 : Nat} (h : RsSl W b s P1 c1 P2 c2) : W.cell? ⟨b.v, 2, none⟩ = some (.slice P2 (chgs s.group).length c2) := RowAt.cell h.row 2 _ rfl
theorem RStAt.sl {W : World} {b : RBlk} {s : Sto} (h : RStAt W b s) : ∃ P1 c1 P2 c2, RsSl W b s P1 c1 P2 c2 := by
  obtain ⟨P1, c1, P2, c2, h1, h2, h3⟩ := h.row
  exact ⟨P1, c1, P2, c2, h1, h2, h3⟩
theorem RsSl.below {W W' : World} {b : RBlk} {s : Sto} {P1 : Option Addr} {c1 : Nat} {P2 : Option Addr} {c2 : Nat} (h : RsSl W b s P1 c1 P2 c2) (hb : Below W.heap.size W W') : RsSl W' b s P1 c1 P2 c2 := ⟨h.row.below hb (RowAt.lt h.row), h.step.below hb, h.group.below hb⟩
set_option maxRecDepth 100000 in
theorem exec_buildRchg {o : Oper} {a : Act} {w : World} (c : Chg) (hp : c.page.length = 64) (x y : Operand) (ho : o.op = .build 83 #[(0, x), (1, y)]) (hx : a.eval x = .int .i64 c.no) (hy : a.eval y = pageV c.page) : (execOp a.eval o).run Tryz.prog w = .ok (.value (chgV c)) w := by
  have hb := built_rchg c.no c.page hp
  unfold execOp
  simp only [ho, List.map_toArray, List.map_cons, List.map_nil, hx, hy]
  have hr := run_build (P := Tryz.prog) w 83 #[(0, .int .i64 c.no), (1, pageV c.page)] _ hb
  simp only [Sem.run_bind, hr, Result.andThen_ok, Sem.run_pure]
  rfl
set_option maxRecDepth 100000 in
set_option maxHeartbeats 4000000 in
theorem rread6_any {w : World} {b : RBlk} {s : Sto} (h : RStAt w b s) (i : Int) : Calls Tryz.prog 13 #[.pointer (some ⟨b.v, 0, none⟩), .int .i64 i] w fun e w' => e = .returned (.tuple #[pageV (sreadP s i), .int .i64 (sreadE s i)]) ∧ Below w.heap.size w w' := by
  have HS0 := Lib.hid (rrAt_zero h)
  have HR := Lib.hid (rmay6_any HS0.out.st i)
  rw [zeroCells_def] at HR HS0
  have HSML := Lib.hid (chgs_small h.ok)
  by_cases c : sreachE s i = 0
  · obtain ⟨c1, c2⟩ := sreach_zero c
    have c3 := of_decide_eq_true c2
    obtain ⟨k, rfl⟩ := Int.eq_ofNat_of_zero_le c3.1
    rw [c] at HR
    cases ht : s.step.getD k none with
    | some p =>
      have HP : Hid (sreadP s (k : Int) = p) := Lib.hid (by unfold sreadP sheld; rw [if_pos c, Int.toNat_natCast, ht]; rfl)
      have HE : Hid (sreadE s (k : Int) = 0) := Lib.hid (by unfold sreadE sheld; rw [if_pos c, Int.toNat_natCast, ht]; rfl)
      have HN := Lib.hid (h.ok.spg k p ht).1
      obtain ⟨t, htl, htx⟩ := chgs_idx ht
      have HTX := Lib.hid htx
      rw [HP.out, HE.out]
      clear HP HE c c1 c2 c3 ht h htx
      go_enter Tryz.func13, Tryz.ntmps13
      go_wp2_with fail
      refine HR.out.mono ?_
      rintro e w1 ⟨rfl, hB1⟩
      have HS1 := Lib.hid (HS0.out.next hB1)
      clear HR HS0 hB1
      obtain ⟨P1, c1, P2, c2, hsl⟩ := HS1.out.st.sl
      have v1 := hsl.v1
      have HAT := Lib.hid (rat_idx P1 c1 s.step (hsl.step.mono (by simp)) (by have := HSML.out; omega) k t HTX.out)
      obtain ⟨bb, oo, rfl, _, _, hcc⟩ := hsl.step (by omega)
      have HPG := Lib.hid (chg_cells (hcc t _ HTX.out)).2
      clear hsl hcc
      have htl' : (t : Int) < ((chgs s.step).length : Int) := by omega
      generalize (chgs s.step).length = n1 at v1 HAT htl htl'
      go_wp2_with fail
      refine HAT.out.mono ?_
      rintro e w2 ⟨rfl, rfl⟩
      clear HAT
      go_wp2_with (first
        | ((with_reducible refine wpList_load_at HPG.out HN.out rfl (.tmp 30) rfl ?_ ?_); (exact rfl))
        | (with_reducible refine wpList_store_page HS1.out.page HN.out rfl (.tmp 4) (.tmp 31) rfl rfl rfl ?_))
      exact bodyPost_ret (results_page_int _ 4 5 rfl _ (HS1.out.page.put _ HN.out) rfl) rfl ⟨rfl, below_setCells _ (Nat.le_refl _) _ _ _ HS1.out.bel⟩
    | none =>
      cases hg : s.group.getD k none with
      | some p =>
        have HP : Hid (sreadP s (k : Int) = p) := Lib.hid (by unfold sreadP sheld; rw [if_pos c, Int.toNat_natCast, ht, hg]; rfl)
        have HE : Hid (sreadE s (k : Int) = 0) := Lib.hid (by unfold sreadE sheld; rw [if_pos c, Int.toNat_natCast, ht, hg]; rfl)
        have HN := Lib.hid (h.ok.gpg k p hg).1
        obtain ⟨t, htl, htx⟩ := chgs_idx hg
        have HTX := Lib.hid htx
        have HT := Lib.hid ht
        rw [HP.out, HE.out]
        clear HP HE c c1 c2 c3 ht hg h htx
        go_enter Tryz.func13, Tryz.ntmps13
        go_wp2_with fail
        refine HR.out.mono ?_
        rintro e w1 ⟨rfl, hB1⟩
        have HS1 := Lib.hid (HS0.out.next hB1)
        clear HR HS0 hB1
        obtain ⟨P1, c1, P2, c2, hsl⟩ := HS1.out.st.sl
        have v1 := hsl.v1
        have v2 := hsl.v2
        have HA1 := Lib.hid (rat_none P1 c1 s.step (hsl.step.mono (by simp)) (by have := HSML.out; omega) k HT.out)
        have HAT := Lib.hid (rat_idx P2 c2 s.group (hsl.group.mono (by simp)) (by have := HSML.out; omega) k t HTX.out)
        obtain ⟨bb, oo, rfl, _, _, hcc⟩ := hsl.group (by omega)
        have HPG := Lib.hid (chg_cells (hcc t _ HTX.out)).2
        clear hsl hcc
        have htl' : (t : Int) < ((chgs s.group).length : Int) := by omega
        generalize (chgs s.group).length = n2 at v2 HAT htl htl'
        generalize (chgs s.step).length = n1 at v1 HA1
        go_wp2_with fail
        refine HA1.out.mono ?_
        rintro e w2 ⟨rfl, rfl⟩
        clear HA1
        go_wp2_with fail
        refine HAT.out.mono ?_
        rintro e w2 ⟨rfl, rfl⟩
        clear HAT
        go_wp2_with (first
          | ((with_reducible refine wpList_load_at HPG.out HN.out rfl (.tmp 46) rfl ?_ ?_); (exact rfl))
          | (with_reducible refine wpList_store_page HS1.out.page HN.out rfl (.tmp 4) (.tmp 47) rfl rfl rfl ?_))
        exact bodyPost_ret (results_page_int _ 4 5 rfl _ (HS1.out.page.put _ HN.out) rfl) rfl ⟨rfl, below_setCells _ (Nat.le_refl _) _ _ _ HS1.out.bel⟩
      | none =>
        have HP : Hid (sreadP s (k : Int) = Dk.readP s.dk (k : Int)) := Lib.hid (by unfold sreadP sheld; rw [if_pos c, Int.toNat_natCast, ht, hg]; rfl)
        have HE : Hid (sreadE s (k : Int) = Dk.reachE s.dk (k : Int)) := Lib.hid (by unfold sreadE sheld; rw [if_pos c, Int.toNat_natCast, ht, hg]; rfl)
        have HN := Lib.hid (Dk.readP_len h.disk.ok (k : Int))
        have HT := Lib.hid ht
        have HGG := Lib.hid hg
        have HRD := Lib.hid (fun (W : World) (hW : RrAt w b s zeros W) => rread_any hW.st.disk (k : Int))
        rw [HP.out, HE.out]
        clear HP HE c c1 c2 c3 ht hg h
        generalize Dk.readP s.dk (k : Int) = p at HN HRD ⊢
        generalize Dk.reachE s.dk (k : Int) = E at HRD ⊢
        go_enter Tryz.func13, Tryz.ntmps13
        go_wp2_with fail
        refine HR.out.mono ?_
        rintro e w1 ⟨rfl, hB1⟩
        have HS1 := Lib.hid (HS0.out.next hB1)
        clear HR HS0 hB1
        obtain ⟨P1, c1, P2, c2, hsl⟩ := HS1.out.st.sl
        obtain ⟨q, hj, _⟩ := HS1.out.st.ja
        have v0 := hsl.v0
        have v1 := hsl.v1
        have v2 := hsl.v2
        have j0 := hj.c0
        have HA1 := Lib.hid (rat_none P1 c1 s.step (hsl.step.mono (by simp)) (by have := HSML.out; omega) k HT.out)
        have HA2 := Lib.hid (rat_none P2 c2 s.group (hsl.group.mono (by simp)) (by have := HSML.out; omega) k HGG.out)
        clear hsl hj
        generalize (chgs s.group).length = n2 at v2 HA2
        generalize (chgs s.step).length = n1 at v1 HA1
        go_wp2_with fail
        refine HA1.out.mono ?_
        rintro e w2 ⟨rfl, rfl⟩
        clear HA1
        go_wp2_with fail
        refine HA2.out.mono ?_
        rintro e w2 ⟨rfl, rfl⟩
        clear HA2
        go_wp2_with fail
        refine (HRD.out _ HS1.out).mono ?_
        rintro e W4 ⟨rfl, hB4⟩
        have HS4 := Lib.hid (HS1.out.next hB4)
        clear hB4 v0 v1 v2 j0
        go_wp2_with (with_reducible refine wpList_store_page HS4.out.page HN.out rfl (.tmp 4) (.tmp 57) rfl rfl rfl ?_)
        exact bodyPost_ret (results_page_int _ 4 5 rfl _ (HS4.out.page.put _ HN.out) rfl) rfl ⟨rfl, below_setCells _ (Nat.le_refl _) _ _ _ HS4.out.bel⟩
  · have HP : Hid (sreadP s i = zeros) := Lib.hid (by unfold sreadP; rw [if_neg c])
    have HE : Hid (sreadE s i = sreachE s i) := Lib.hid (by unfold sreadE; rw [if_neg c])
    rw [HP.out, HE.out]
    have hne : (sreachE s i == 0) = false := by simpa using c
    have hne2 : (sreachE s i != 0) = true := by simpa using c
    generalize sreachE s i = E at HR hne hne2 ⊢
    clear c h HP HE
    go_enter Tryz.func13, Tryz.ntmps13
    go_wp2_with fail
    refine HR.out.mono ?_
    rintro e w1 ⟨rfl, hB1⟩
    have HS1 := Lib.hid (HS0.out.next hB1)
    clear HR HS0 hB1
    go_wp2_with ((with_reducible refine wpList_store_page HS1.out.page zeros_length rfl (.tmp 4) (.tmp 14) rfl rfl ?_ ?_); (exact rfl))
    exact bodyPost_ret (results_page_int _ 4 5 rfl _ (HS1.out.page.put _ zeros_length) rfl) rfl ⟨rfl, below_setCells _ (Nat.le_refl _) _ _ _ HS1.out.bel⟩

end Go.Proofs.YtppbiohjhnoagaaGreat
