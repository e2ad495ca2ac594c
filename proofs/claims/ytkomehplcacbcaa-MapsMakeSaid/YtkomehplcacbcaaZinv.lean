/-
  A set of maps beside the document's: what each call makes of them.
-/
import Derived.Test.YtkomehplcacbcaaZmake
namespace Go.Proofs.Ytkomehplcacbcaa
open Go.ChangeShapes Go.WideShapes Go.ChangeAt Go.RowKit Go.Maps

structure Dt where
  lru : Bool
  room : Nat
  l : List Z.En
def Dt.ok (d : Dt) : Prop := d.l.length ≤ d.room ∧ 1 ≤ d.room ∧ d.room ≤ 8
def Dt.put (d : Dt) (x : Z.En) : Dt := ⟨d.lru, d.room, Z.putI d.lru d.room d.l x⟩
def Dt.code (d : Dt) (x : Z.En) : Int := Z.putC d.lru d.room d.l x
def Dt.clr (d : Dt) : Dt := ⟨d.lru, d.room, []⟩
def Dt.p (d : Dt) (b : Nat) (sv : Value) : Mp := ⟨62, kd d.lru, b, sv, d.room, d.l⟩
def Dt.r (d : Dt) (b : Nat) (sv : Value) : Mp := ⟨67, .bool d.lru, b, sv, d.room, d.l⟩
theorem Dt.ok_put {d : Dt} (h : d.ok) (x : Z.En) : (d.put x).ok := ⟨Z.putI_len h.1 h.2.1, h.2.1, h.2.2⟩
structure InvM (w : World) (base n : Nat) (v u : Value) (bs cs : List Nat) (ms : List Mp) (W : World) : Prop where
  all : Ms base (fun k => v.ownBlock = some k ∨ u.ownBlock = some k) ms W
  st : W.ownsRow base 34 1 v n (ptrs bs)
  rt : W.ownsRow base 32 1 u n (ptrs cs)
  bel : Below w.heap.size w W
  low : w.heap.size ≤ base
  hi : base ≤ W.heap.size
structure Data (n : Nat) (bs cs : List Nat) (ms : List Mp) (dp dr : List Dt) : Prop where
  pl : dp.length = n
  rl : dr.length = n
  p : ∀ (i : Nat) (d : Dt), dp[i]? = some d → ∃ sv, ms[i]? = some (d.p (bs.getD i 0) sv)
  r : ∀ (i : Nat) (d : Dt), dr[i]? = some d → ∃ sv, ms[n + i]? = some (d.r (cs.getD i 0) sv)
section
variable {w : World} {base n : Nat} {v u : Value} {bs cs : List Nat} {ms : List Mp} {dp dr : List Dt}
theorem InvM.call {W W' : World} (h : InvM w base n v u bs cs ms W) (hb : Below W.heap.size W W') : InvM w base n v u bs cs ms W' :=
  ⟨h.all.call hb, owns_below h.st hb, owns_below h.rt hb, h.bel.trans (hb.mono h.bel.size), h.low, Nat.le_trans h.hi hb.size⟩
theorem InvM.turn {W W' : World} (h : InvM w base n v u bs cs ms W) (i : Nat) (m : Mp) (hm : ms[i]? = some m) {sv' : Value} {l' : List Z.En} (hto : MpTo m.et m.hd W base m.b m.sv m.room l' W' sv') :
    InvM w base n v u bs cs (ms.set i ⟨m.et, m.hd, m.b, sv', m.room, l'⟩) W' := by
  have hoff := h.all.off i m hm
  have hlow : ∀ k, m.foot k → base ≤ k := fun k hk => (MpAt.foot (h.all.each i m hm) hk).1
  exact ⟨h.all.turn i m hm hto, own_but h.st hto.but (fun g hg hf => hoff g hf (Or.inl hg)), own_but h.rt hto.but (fun g hg hf => hoff g hf (Or.inr hg)),
    h.bel.trans (hto.but.below h.bel.size (fun x hx => Nat.le_trans h.low (hlow x hx))), h.low, Nat.le_trans h.hi hto.but.size⟩
theorem Data.setP (h : Data n bs cs ms dp dr) {i : Nat} {d d' : Dt} (hd : dp[i]? = some d) (hr : d'.lru = d.lru) (hr2 : d'.room = d.room) {m : Mp} (hm : ms[i]? = some m) (sv' : Value) (hmm : ∃ sv, m = d.p (bs.getD i 0) sv) :
    Data n bs cs (ms.set i ⟨m.et, m.hd, m.b, sv', m.room, d'.l⟩) (dp.set i d') dr := by
  have hi : i < n := by rw [← h.pl]; exact (List.getElem?_eq_some_iff.1 hd).1
  have him := (List.getElem?_eq_some_iff.1 hm).1
  obtain ⟨sv, rfl⟩ := hmm
  refine ⟨by rw [List.length_set]; exact h.pl, h.rl, fun j q hq => ?_, fun j q hq => ?_⟩
  · by_cases e : i = j
    · subst e
      rw [List.getElem?_set_self (by rw [h.pl]; exact hi)] at hq
      injection hq with hq
      subst hq
      refine ⟨sv', ?_⟩
      rw [List.getElem?_set_self him]
      unfold Dt.p
      rw [hr, hr2]
    · rw [List.getElem?_set_ne e] at hq ⊢
      exact h.p j q hq
  · rw [List.getElem?_set_ne (by omega)]
    exact h.r j q hq
theorem Data.setR (h : Data n bs cs ms dp dr) {i : Nat} {d d' : Dt} (hd : dr[i]? = some d) (hr : d'.lru = d.lru) (hr2 : d'.room = d.room) {m : Mp} (hm : ms[n + i]? = some m) (sv' : Value) (hmm : ∃ sv, m = d.r (cs.getD i 0) sv) :
    Data n bs cs (ms.set (n + i) ⟨m.et, m.hd, m.b, sv', m.room, d'.l⟩) dp (dr.set i d') := by
  have hi : i < n := by rw [← h.rl]; exact (List.getElem?_eq_some_iff.1 hd).1
  have him := (List.getElem?_eq_some_iff.1 hm).1
  obtain ⟨sv, rfl⟩ := hmm
  refine ⟨h.pl, by rw [List.length_set]; exact h.rl, fun j q hq => ?_, fun j q hq => ?_⟩
  · have hj : j < n := by rw [← h.pl]; exact (List.getElem?_eq_some_iff.1 hq).1
    rw [List.getElem?_set_ne (by omega)]
    exact h.p j q hq
  · by_cases e : i = j
    · subst e
      rw [List.getElem?_set_self (by rw [h.rl]; exact hi)] at hq
      injection hq with hq
      subst hq
      refine ⟨sv', ?_⟩
      rw [List.getElem?_set_self him]
      unfold Dt.r
      rw [hr, hr2]
    · rw [List.getElem?_set_ne (by omega)]
      rw [List.getElem?_set_ne e] at hq
      exact h.r j q hq
/-- the maps of both sides, whatever lies where -/
def Inv (w : World) (base n : Nat) (v u : Value) (bs cs : List Nat) (dp dr : List Dt) (W : World) : Prop := ∃ ms, InvM w base n v u bs cs ms W ∧ Data n bs cs ms dp dr
theorem Inv.call {W W' : World} (h : Inv w base n v u bs cs dp dr W) (hb : Below W.heap.size W W') : Inv w base n v u bs cs dp dr W' := by
  obtain ⟨ms, h1, h2⟩ := h
  exact ⟨ms, h1.call hb, h2⟩
theorem inv_put {W : World} (h : Inv w base n v u bs cs dp dr W) {i : Nat} {d : Dt} (hd : dp[i]? = some d) (hok : d.ok) (x : Z.En) :
    Calls Try.prog 10 #[.pointer (some ⟨bs.getD i 0, 0, none⟩), .int .i64 x.key, .agg #[.int .i64 x.a, .int .i64 x.b, .int .i64 x.c, .int .i64 x.d]] W fun e w' => e = .returned (.int .i64 (d.code x)) ∧ Inv w base n v u bs cs (dp.set i (d.put x)) dr w' := by
  obtain ⟨ms, h1, h2⟩ := h
  obtain ⟨sv, hm⟩ := h2.p i d hd
  exact (put_any d.lru base (bs.getD i 0) sv d.room d.l x W (h1.all.each i _ hm) hok.1 hok.2.1 (by have := hok.2.2; omega) h1.hi).mono fun e w' ⟨g1, sv', g2⟩ =>
    ⟨g1, _, h1.turn i _ hm g2, h2.setP (d' := d.put x) hd rfl rfl hm sv' ⟨sv, rfl⟩⟩
theorem inv_rput {W : World} (h : Inv w base n v u bs cs dp dr W) {i : Nat} {d : Dt} (hd : dr[i]? = some d) (hok : d.ok) (x : Z.En) :
    Calls Try.prog 11 #[.pointer (some ⟨cs.getD i 0, 0, none⟩), .int .i64 x.key, .agg #[.int .i64 x.a, .int .i64 x.b, .int .i64 x.c, .int .i64 x.d]] W fun e w' => e = .returned (.int .i64 (d.code x)) ∧ Inv w base n v u bs cs dp (dr.set i (d.put x)) w' := by
  obtain ⟨ms, h1, h2⟩ := h
  obtain ⟨sv, hm⟩ := h2.r i d hd
  exact (rput_any d.lru base (cs.getD i 0) sv d.room d.l x W (h1.all.each (n + i) _ hm) hok.1 hok.2.1 (by have := hok.2.2; omega) h1.hi).mono fun e w' ⟨g1, sv', g2⟩ =>
    ⟨g1, _, h1.turn (n + i) _ hm g2, h2.setR (d' := d.put x) hd rfl rfl hm sv' ⟨sv, rfl⟩⟩
theorem inv_clear {W : World} (h : Inv w base n v u bs cs dp dr W) {i : Nat} {d : Dt} (hd : dp[i]? = some d) :
    Calls Try.prog 17 #[.pointer (some ⟨bs.getD i 0, 0, none⟩)] W fun e w' => e = .returned (.tuple #[]) ∧ Inv w base n v u bs cs (dp.set i d.clr) dr w' := by
  obtain ⟨ms, h1, h2⟩ := h
  obtain ⟨sv, hm⟩ := h2.p i d hd
  exact (clear_any (kd d.lru) base (bs.getD i 0) sv d.room d.l W (h1.all.each i _ hm)).mono fun e w' ⟨g1, sv', g2⟩ =>
    ⟨g1, _, h1.turn i _ hm g2, h2.setP (d' := d.clr) hd rfl rfl hm sv' ⟨sv, rfl⟩⟩
theorem inv_len {W : World} (h : Inv w base n v u bs cs dp dr W) {i : Nat} {d : Dt} (hd : dp[i]? = some d) :
    Calls Try.prog 22 #[.pointer (some ⟨bs.getD i 0, 0, none⟩)] W fun e w' => e = .returned (.int .i64 (d.l.length : Int)) ∧ Below W.heap.size W w' := by
  obtain ⟨ms, h1, h2⟩ := h
  obtain ⟨sv, hm⟩ := h2.p i d hd
  exact len_any (kd d.lru) base (bs.getD i 0) sv d.room d.l W (h1.all.each i _ hm)
theorem inv_all {W : World} (h : Inv w base n v u bs cs dp dr W) {i : Nat} {d : Dt} (hd : dp[i]? = some d) (hok : d.ok) :
    Calls Try.prog 14 #[.pointer (some ⟨bs.getD i 0, 0, none⟩)] W fun e w' => ∃ A c, e = .returned (.slice A d.l.length c) ∧ EnsAt w' A d.l.length d.l ∧ Below W.heap.size W w' := by
  obtain ⟨ms, h1, h2⟩ := h
  obtain ⟨sv, hm⟩ := h2.p i d hd
  exact all_any (kd d.lru) base (bs.getD i 0) sv d.room d.l W (h1.all.each i _ hm) (by have := hok.1; have := hok.2.2; omega)
theorem inv_ptr {W : World} (h : Inv w base n v u bs cs dp dr W) {i : Nat} (hi : i < n) : ∃ g c, v = .slice (some ⟨g, 0, none⟩) n c ∧ n ≤ c ∧ W.cell? ⟨g, i, none⟩ = some (.pointer (some ⟨bs.getD i 0, 0, none⟩)) := by
  obtain ⟨ms, h1, h2⟩ := h
  obtain ⟨g, c, e1, e2, _, e3⟩ := own_pget h1.st hi
  exact ⟨g, c, e1, e2, e3⟩
theorem inv_rptr {W : World} (h : Inv w base n v u bs cs dp dr W) {i : Nat} (hi : i < n) : ∃ g c, u = .slice (some ⟨g, 0, none⟩) n c ∧ n ≤ c ∧ W.cell? ⟨g, i, none⟩ = some (.pointer (some ⟨cs.getD i 0, 0, none⟩)) := by
  obtain ⟨ms, h1, h2⟩ := h
  obtain ⟨g, c, e1, e2, _, e3⟩ := own_pget h1.rt hi
  exact ⟨g, c, e1, e2, e3⟩
end
/-! ### At, Entries, Clear of a set -/
theorem at_out (A : Option Addr) (n c : Nat) (i : Int) (w : World) (h : i < 0 ∨ (n : Int) ≤ i) : Calls Try.prog 9 #[.slice A n c, .int .i64 i] w fun e w' => e = .returned (.pointer none) ∧ w = w' := by
  by_cases h1 : i < 0
  · clear h
    go_enter Try.func9, Try.ntmps9
    go_wp2
    refine bodyPost_ret (results_tmp rfl _ _ _) rfl ⟨rfl, rfl⟩
  · have h2 : (n : Int) ≤ i := by omega
    clear h
    go_enter Try.func9, Try.ntmps9
    go_wp2
    refine bodyPost_ret (results_tmp rfl _ _ _) rfl ⟨rfl, rfl⟩
theorem at_in (g n c i b : Nat) (w : World) (hi : i < n) (hc : w.cell? ⟨g, i, none⟩ = some (.pointer (some ⟨b, 0, none⟩))) : Calls Try.prog 9 #[.slice (some ⟨g, 0, none⟩) n c, .int .i64 (i : Int)] w fun e w' => e = .returned (.pointer (some ⟨b, 0, none⟩)) ∧ w = w' := by
  have h0 : ¬ ((i : Int) < 0) := by omega
  have h1 : ¬ ((n : Int) ≤ (i : Int)) := by omega
  have h2 : (i : Int) < (n : Int) := by omega
  have h3 : (0 : Int) ≤ (i : Int) := by omega
  clear hi
  go_enter Try.func9, Try.ntmps9
  go_wp2
  go_ret
  exact ⟨rfl, rfl⟩
def sumK (ds : List Dt) (k : Nat) : Nat := ((ds.take k).map (fun d => d.l.length)).sum
theorem sumK_succ {ds : List Dt} {k : Nat} {d : Dt} (h : ds[k]? = some d) : sumK ds (k + 1) = sumK ds k + d.l.length := by
  obtain ⟨hk, e⟩ := List.getElem?_eq_some_iff.1 h
  unfold sumK
  rw [List.take_succ_eq_append_getElem hk, List.map_append, List.sum_append, e]
  simp
theorem sumK_le {ds : List Dt} (h : ∀ d ∈ ds, d.ok) : ∀ k, sumK ds k ≤ 8 * k
  | 0 => by simp [sumK]
  | k + 1 => by
    have ih := sumK_le h k
    by_cases hk : k < ds.length
    · rw [sumK_succ (List.getElem?_eq_getElem hk)]
      have h8 := h _ (List.getElem_mem hk)
      have := h8.1
      have := h8.2.2
      omega
    · unfold sumK at ih ⊢
      rw [List.take_of_length_le (by omega)] at ih ⊢
      omega
def clrK (ds : List Dt) (k : Nat) : List Dt := (ds.take k).map Dt.clr ++ ds.drop k
theorem clrK_zero (ds : List Dt) : clrK ds 0 = ds := by simp [clrK]
theorem clrK_at {ds : List Dt} {k : Nat} {d : Dt} (h : ds[k]? = some d) : (clrK ds k)[k]? = some d ∧ (clrK ds k).set k d.clr = clrK ds (k + 1) := by
  obtain ⟨hk, e⟩ := List.getElem?_eq_some_iff.1 h
  have hl : ((ds.take k).map Dt.clr).length = k := by rw [List.length_map, List.length_take]; omega
  constructor
  · unfold clrK
    rw [List.getElem?_append_right (by omega), hl, Nat.sub_self, List.getElem?_drop]
    exact h
  · unfold clrK
    rw [List.set_append_right _ _ (by omega), hl, Nat.sub_self, List.drop_eq_getElem_cons hk, List.set_cons_zero, List.take_succ_eq_append_getElem hk, e, List.map_append]
    simp
theorem clrK_len (ds : List Dt) (k : Nat) : (clrK ds k).length = ds.length := by
  unfold clrK
  rw [List.length_append, List.length_map, List.length_take, List.length_drop]
  omega
theorem clrK_sum (ds : List Dt) (n : Nat) (hn : ds.length = n) : ∀ k, sumK (clrK ds n) k = 0 := by
  intro k
  have e : clrK ds n = ds.map Dt.clr := by
    unfold clrK
    rw [← hn, List.take_length, List.drop_length, List.append_nil]
  rw [e]
  unfold sumK
  rw [← List.map_take, List.map_map]
  induction (ds.take k) with
  | nil => rfl
  | cons d t ih => rw [List.map_cons, List.sum_cons, ih]; rfl
theorem clrK_ok {ds : List Dt} (h : ∀ d ∈ ds, d.ok) (k : Nat) : ∀ d ∈ clrK ds k, d.ok := by
  intro d hd
  unfold clrK at hd
  rcases List.mem_append.1 hd with h1 | h1
  · obtain ⟨q, hq, rfl⟩ := List.mem_map.1 h1
    have := h q (List.mem_of_mem_take hq)
    exact ⟨Nat.zero_le _, this.2.1, this.2.2⟩
  · exact h d (List.mem_of_mem_drop h1)
section
variable {w : World} {base n : Nat} {v u : Value} {bs cs : List Nat} {dp dr : List Dt}
set_option maxHeartbeats 1000000 in
theorem entries_any {W : World} (h : Inv w base n v u bs cs dp dr W) (hl : dp.length = n) (hok : ∀ d ∈ dp, d.ok) (hn : n ≤ 4) :
    Calls Try.prog 15 #[v] W fun e w' => e = .returned (.int .i64 (sumK dp n : Int)) ∧ Below W.heap.size W w' := by
  obtain ⟨A, c, hv⟩ : ∃ A c, v = .slice A n c := by
    obtain ⟨ms, h1, _⟩ := h
    exact owns_slice h1.st
  have H := Lib.hid h
  have HV := Lib.hid hv
  have HOK := Lib.hid hok
  have HL := Lib.hid hl
  rw [hv]
  clear h hv hok hl
  go_enter Try.func15, Try.ntmps15
  go_wp2
  go_loopw [3, 5, 8] (fun s _ i wr => ∃ k : Nat, k ≤ n ∧ i = .int .i64 (k : Int) ∧ s = .int .i64 (sumK dp k : Int) ∧ Hid (Below W.heap.size W wr)) (fun _ _ i _ => n - (intOf i).toNat)
  case atStart => exact ⟨0, Nat.zero_le _, rfl, rfl, Lib.hid (Below.refl _ _)⟩
  case round =>
    obtain ⟨k, hk, rfl, rfl, HB⟩ := hrel
    by_cases hlt : k < n
    · have I2 := H.out.call HB.out
      obtain ⟨g, c', e1, _, hc⟩ := inv_ptr I2 hlt
      rw [HV.out] at e1
      injection e1 with e1 _ e3
      subst e1 e3
      have hd : dp[k]? = some (dp[k]'(by rw [HL.out]; exact hlt)) := List.getElem?_eq_getElem _
      generalize dp[k]'(by rw [HL.out]; exact hlt) = d at hd
      have HP := Lib.hid (inv_len I2 hd)
      have HS := Lib.hid (sumK_succ hd)
      have h8 := HOK.out d (List.mem_of_getElem? hd)
      have hb1 := sumK_le HOK.out k
      have hw : IntKind.i64.wrap ((sumK dp k : Int) + (d.l.length : Int)) = ((sumK dp (k + 1) : Nat) : Int) := by rw [HS.out, IntKind.wrap_i64]; have := h8.1; have := h8.2.2; omega
      have hk0 : (0 : Int) ≤ (k : Int) := by omega
      have hk1 : (k : Int) < (n : Int) := by omega
      clear hd I2 h8 hb1
      go_wp2_with (go_at_call 22; refine (HP.out).mono ?_; rintro e w2 ⟨rfl, hb⟩; replace HB := Lib.hid (HB.out.trans (hb.mono HB.out.size)); clear hb)
      go_roundw
      case rel => exact ⟨k + 1, by omega, by go_num, rfl, HB⟩
      case measure => (simp [intOf] <;> omega)
    · obtain rfl : k = n := by omega
      clear hlt
      go_wp2
      go_ret
      exact ⟨rfl, HB.out⟩
set_option maxHeartbeats 1000000 in
theorem clear_set {W : World} (h : Inv w base n v u bs cs dp dr W) (hl : dp.length = n) (hn : n ≤ 4) :
    Calls Try.prog 16 #[v] W fun e w' => e = .returned (.tuple #[]) ∧ Inv w base n v u bs cs (clrK dp n) dr w' := by
  obtain ⟨A, c, hv⟩ : ∃ A c, v = .slice A n c := by
    obtain ⟨ms, h1, _⟩ := h
    exact owns_slice h1.st
  have H0 : Hid (Inv w base n v u bs cs (clrK dp 0) dr W) := Lib.hid (by rw [clrK_zero]; exact h)
  have HV := Lib.hid hv
  have HL := Lib.hid hl
  rw [show (#[v] : Array Value) = #[.slice A n c] by rw [hv]]
  clear h hv hl
  go_enter Try.func16, Try.ntmps16
  go_wp2
  go_loopw [3, 6] (fun _ i wr => ∃ k : Nat, k ≤ n ∧ i = .int .i64 (k : Int) ∧ Hid (Inv w base n v u bs cs (clrK dp k) dr wr)) (fun _ i _ => n - (intOf i).toNat)
  case atStart => exact ⟨0, Nat.zero_le _, rfl, H0⟩
  case round =>
    clear H0
    obtain ⟨k, hk, rfl, H⟩ := hrel
    by_cases hlt : k < n
    · obtain ⟨g, c', e1, _, hc⟩ := inv_ptr H.out hlt
      rw [HV.out] at e1
      injection e1 with e1 _ e3
      subst e1 e3
      have hd : dp[k]? = some (dp[k]'(by rw [HL.out]; exact hlt)) := List.getElem?_eq_getElem _
      generalize dp[k]'(by rw [HL.out]; exact hlt) = d at hd
      obtain ⟨hd1, hd2⟩ := clrK_at hd
      have HP0 := inv_clear H.out hd1
      rw [hd2] at HP0
      have HP := Lib.hid HP0
      have hk0 : (0 : Int) ≤ (k : Int) := by omega
      have hk1 : (k : Int) < (n : Int) := by omega
      clear hd hd1 hd2 HP0
      go_wp2_with (go_at_call 17; refine (HP.out).mono ?_; rintro e w2 ⟨rfl, hi⟩; replace H := Lib.hid hi; clear hi)
      go_roundw
      case rel => exact ⟨k + 1, by omega, by go_num, H⟩
      case measure => (simp [intOf] <;> omega)
    · obtain rfl : k = n := by omega
      clear hlt
      go_wp2
      go_end0
      exact ⟨rfl, H.out⟩
end
end Go.Proofs.Ytkomehplcacbcaa
