/-
  The document's New, At.
-/
import Derived.Test.YthngbakbiocadaaMd
import Derived.BigQuiet

namespace Go.Proofs.Ythngbakbiocadaa
set_option maxRecDepth 100000
open Go.RowKit Go.Maps

theorem rnew_at (w : World) (hd : Value) (room base : Nat) (t : TypeId) (hb : base ≤ w.heap.size) : MpAt 59 hd (w.alloc (.cells #[hd, .int .i64 (room : Int), .slice none 0 0] t)) base w.heap.size (.slice none 0 0) room [] where
  row := rowAt_new w [hd, .int .i64 (room : Int), .slice none 0 0] t
  own := ⟨rfl, Or.inl ⟨rfl, rfl⟩⟩
  ne := by simp [Value.ownBlock]
  ge := hb
def RMade (lru : Bool) (room : Nat) (w : World) (e : Ending) (w' : World) : Prop := e = .returned (.pointer (some ⟨w.heap.size, 0, none⟩)) ∧ (∀ base, base ≤ w.heap.size → MpAt 59 (.bool lru) w' base w.heap.size (.slice none 0 0) room []) ∧ Below w.heap.size w w'
theorem rmade (lru : Bool) (room : Nat) (w : World) (t : TypeId) : RMade lru room w (.returned (.pointer (some ⟨w.heap.size, 0, none⟩))) (w.alloc (.cells #[.bool lru, .int .i64 (room : Int), .slice none 0 0] t)) :=
  ⟨rfl, fun base hb => rnew_at w (.bool lru) room base t hb, (Below.refl _ _).alloc (Nat.le_refl _) _⟩
theorem rnew_lru (room : Nat) (w : World) (h1 : 1 ≤ room) (h2 : room ≤ 8) : Calls Try.prog 23 #[.int .i64 2, .int .i64 (room : Int)] w (RMade true room w) := by
  have a1 : ¬ ((room : Int) < 1) := by omega
  have a2 : ¬ ((8 : Int) < (room : Int)) := by omega
  have HM := Lib.hid (rmade true room w 55)
  clear h1 h2
  go_enter Try.func23, Try.ntmps23
  go_wp2
  go_ret
  exact HM.out
theorem rnew_hash (room : Nat) (w : World) (h1 : 1 ≤ room) (h2 : room ≤ 8) : Calls Try.prog 23 #[.int .i64 1, .int .i64 (room : Int)] w (RMade false room w) := by
  have a1 : ¬ ((room : Int) < 1) := by omega
  have a2 : ¬ ((8 : Int) < (room : Int)) := by omega
  have HM := Lib.hid (rmade false room w 55)
  clear h1 h2
  go_enter Try.func23, Try.ntmps23
  go_wp2
  go_ret
  exact HM.out
theorem rnew_no (kind room : Int) (w : World) (h : ¬ ((kind = 1 ∨ kind = 2) ∧ 1 ≤ room ∧ room ≤ 8)) : Calls Try.prog 23 #[.int .i64 kind, .int .i64 room] w fun e w' => e = .returned (.pointer none) ∧ Below w.heap.size w w' := by
  by_cases h1 : kind = 1
  · subst h1
    by_cases hr : room < 1
    · clear h
      go_enter Try.func23, Try.ntmps23
      go_wp2
      go_ret
      exact ⟨rfl, Below.refl _ _⟩
    · have hr2 : 8 < room := by omega
      clear h
      go_enter Try.func23, Try.ntmps23
      go_wp2
      go_ret
      exact ⟨rfl, Below.refl _ _⟩
  · by_cases h2 : kind = 2
    · subst h2
      by_cases hr : room < 1
      · clear h
        go_enter Try.func23, Try.ntmps23
        go_wp2
        go_ret
        exact ⟨rfl, Below.refl _ _⟩
      · have hr2 : 8 < room := by omega
        clear h
        go_enter Try.func23, Try.ntmps23
        go_wp2
        go_ret
        exact ⟨rfl, Below.refl _ _⟩
    · have g1 : (kind != 1) = true := by simpa using h1
      have g2 : (kind != 2) = true := by simpa using h2
      clear h
      go_enter Try.func23, Try.ntmps23
      go_wp2
      go_ret
      exact ⟨rfl, Below.refl _ _⟩
set_option maxHeartbeats 1000000 in
theorem rat_any (hd : Value) (base b : Nat) (sv : Value) (room : Nat) (l : List Z.En) (key : Int) (w : World) (h : MpAt 59 hd w base b sv room l) (hn : l.length ≤ 1000) :
    Calls Try.prog 36 #[.pointer (some ⟨b, 0, none⟩), .int .i64 key] w fun e w' => e = .returned (.int .i64 (Z.posI key l)) ∧ w = w' := by
  obtain ⟨A, c, rfl⟩ := owns_slice h.own
  have hc2 := h.row.cell 2 _ rfl
  have H := Lib.hid h
  clear h
  go_enter Try.func36, Try.ntmps36
  go_wp2
  go_loop [5] (fun i => ∃ k : Nat, k ≤ l.length ∧ i = .int .i64 (k : Int) ∧ Hid (∀ j y, j < k → l[j]? = some y → y.key ≠ key)) (fun i => l.length - (intOf i).toNat)
  case atStart => exact ⟨0, Nat.zero_le _, rfl, Lib.hid (fun j y hj => absurd hj (Nat.not_lt_zero _))⟩
  case round =>
    obtain ⟨k, hk, rfl, HA⟩ := hrel
    by_cases hlt : k < l.length
    · obtain ⟨x, hx⟩ : ∃ x, l[k]? = some x := ⟨_, List.getElem?_eq_getElem hlt⟩
      obtain ⟨g, cap, hsv, _, _, _, hgl, hrg⟩ := own_range H.out.own hx
      injection hsv with hsv _ _
      subst hsv
      have hc := hrg 0 _ rfl
      rw [Nat.add_zero] at hc
      have HX := Lib.hid hx
      have hk0 : (0 : Int) ≤ (k : Int) := by omega
      have hk1 : (k : Int) < (l.length : Int) := by omega
      clear hx hrg
      by_cases hkey : x.key = key
      · have HR : Hid (Z.posI key l = (k : Int)) := Lib.hid (by unfold Z.posI; rw [Z.pos_of HX.out hkey HA.out])
        have hkb : (x.key == key) = true := by simpa using hkey
        go_wp2
        go_ret
        exact ⟨ret_int HR.out.symm, rfl⟩
      · have HM : Hid (∀ j y, j < k + 1 → l[j]? = some y → y.key ≠ key) := Lib.hid (fun j y hj hy => by
          by_cases e : j = k
          · subst e
            rw [HX.out] at hy
            injection hy with hy
            subst hy
            exact hkey
          · exact HA.out j y (by omega) hy)
        have hkb : (x.key == key) = false := by simpa using hkey
        go_wp2
        go_round
        case rel => exact ⟨k + 1, by omega, by go_num, HM⟩
        case measure => (simp [intOf] <;> omega)
    · have HR : Hid (Z.posI key l = -1) := Lib.hid (by
        unfold Z.posI
        rw [Z.pos_nil (fun e he => by
          obtain ⟨i, hi, rfl⟩ := List.getElem_of_mem he
          exact HA.out i _ (by omega) (List.getElem?_eq_getElem hi))])
      have hk1 : (l.length : Int) ≤ (k : Int) := by omega
      go_wp2
      go_ret
      exact ⟨ret_int HR.out.symm, rfl⟩
end Go.Proofs.Ythngbakbiocadaa

/-
  The document's entries without one.
-/
namespace Go.Proofs.Ythngbakbiocadaa
set_option maxRecDepth 100000
open Go.RowKit Go.Maps

theorem erase_app (l : List Z.En) (i : Nat) : l.take i ++ l.drop (i + 1) = l.eraseIdx i := (List.eraseIdx_eq_take_drop_succ l i).symm
theorem nil_app (l : List Z.En) : [] ++ l = l := rfl
set_option maxRecDepth 100000 in
set_option maxHeartbeats 2000000 in
theorem rwithout_any (hd : Value) (base b : Nat) (sv : Value) (room : Nat) (l : List Z.En) (i : Nat) (w : World) (h : MpAt 59 hd w base b sv room l) (hi : i < l.length) (hn : l.length ≤ 1000) :
    Calls Try.prog 37 #[.pointer (some ⟨b, 0, none⟩), .int .i64 (i : Int)] w fun e w' => ∃ v, e = .returned v ∧ w'.ownsRow w.heap.size 59 5 v (l.eraseIdx i).length (cellsE (l.eraseIdx i)) ∧ Below w.heap.size w w' := by
  obtain ⟨x, hx⟩ : ∃ x, l[i]? = some x := ⟨_, List.getElem?_eq_getElem hi⟩
  obtain ⟨g, cap, hsv, hnc, hcm, hbg, hgl, _⟩ := own_range h.own hx
  subst hsv
  obtain ⟨wx, hwx⟩ : ∃ wx, wx = w.drew := ⟨_, rfl⟩
  have hdr : Below wx.heap.size wx w.drew := by rw [hwx]; exact Below.refl _ _
  have hback : Below w.heap.size w wx := by rw [hwx]; exact (Below.refl _ _).drew
  have hsz : wx.heap.size = w.heap.size := by rw [hwx]; rfl
  have HM := Lib.hid (h.step hback)
  have hAo := cells_behind (HM.out.own) (i + 1) (by omega)
  obtain ⟨A, hA, hAg, hcb⟩ := hAo
  have HCA := Lib.hid (cells_ahead HM.out.own i (by omega))
  have HCB := Lib.hid hcb
  have HG : Hid (g < wx.heap.size) := Lib.hid (by omega)
  have HAG : Hid (A.block < wx.heap.size) := Lib.hid (by omega)
  have HI := Lib.hid hi
  have HL := Lib.hid hn
  have HT : Hid ((l.take i).length = i) := Lib.hid (by rw [List.length_take]; omega)
  have HD : Hid ((l.drop (i + 1)).length = l.length - (i + 1)) := Lib.hid (by rw [List.length_drop])
  have HBK := Lib.hid hback
  have HSZ := Lib.hid hsz
  have HDR := Lib.hid hdr
  have hi0 : (0 : Int) ≤ (i : Int) := by omega
  have hi1 : (i : Int) < (l.length : Int) := by omega
  have hic : i ≤ cap := by omega
  have hic1 : i + 1 ≤ cap := by omega
  have hin1 : i + 1 ≤ l.length := by omega
  have hw : IntKind.i64.wrap ((i : Int) + 1) = (i : Int) + 1 := by rw [IntKind.wrap_i64]; omega
  have hj0 : (0 : Int) ≤ (i : Int) + 1 := by omega
  have hj1 : (i : Int) + 1 ≤ (l.length : Int) := by omega
  have hcz : cap ≤ 9223372036854775807 := by unfold maxLen at hcm; omega
  clear h hx hnc hcm hbg hgl hwx hdr hback hsz hcb hAg hi hn
  go_enter Try.func37, Try.ntmps37
  go_upto_region 1 with fail
  refine wp_region_linm (RkS hd wx base b (.slice (some ⟨g, 0, none⟩) l.length cap) room l (l.eraseIdx i) ⟨0, 0, 0, 0, 0⟩) (rkMay [4, 11]) (fun i => i == 0 || i == 7 || i == 15 || i == 16) (fun qi => [undef, (.pointer (some ⟨b, 0, none⟩)), (.pointer (some ⟨b, 0, none⟩)), .pointer (some ⟨b, 2, none⟩), (.slice (some ⟨g, 0, none⟩) l.length cap), .int .i64 (i : Int), .slice (some ⟨g, 0, none⟩) i cap, undef, (.pointer (some ⟨b, 0, none⟩)), (.pointer (some ⟨b, 0, none⟩)), .pointer (some ⟨b, 2, none⟩), (.slice (some ⟨g, 0, none⟩) l.length cap), .int .i64 (i : Int), .int .i64 ((i : Int) + 1), .slice (some A) (l.length - (i + 1)) (cap - (i + 1)), undef, undef].getD qi undef) (RK.p none none) (by kernel_rfl) (by kernel_rfl) (⟨HDR.out, fun v xs h => (by cases h), fun g h => (by cases h)⟩) (fun _ => rfl) ?_
  refine linm_step (i := 1) (d := some 6) (v := (.pointer (some ⟨b, 0, none⟩))) rfl rfl (by kernel_rfl) (by kernel_rfl) rfl rfl (ordm_value (by kernel_rfl) ?_) ?_
  · (intro _ w' _ _; go_simp)
  (try simp only [Act.put, List.setIfInBounds_toArray, List.set_cons_zero, List.set_cons_succ])
  refine linm_step (i := 2) (d := some 7) (v := (.pointer (some ⟨b, 0, none⟩))) rfl rfl (by kernel_rfl) (by kernel_rfl) rfl rfl (ordm_value (by kernel_rfl) ?_) ?_
  · (intro _ w' _ _; go_simp)
  (try simp only [Act.put, List.setIfInBounds_toArray, List.set_cons_zero, List.set_cons_succ])
  refine linm_step (i := 3) (d := some 8) (v := .pointer (some ⟨b, 2, none⟩)) rfl rfl (by kernel_rfl) (by kernel_rfl) rfl rfl (ordm_value (by kernel_rfl) ?_) ?_
  · (intro _ w' _ _; go_simp)
  (try simp only [Act.put, List.setIfInBounds_toArray, List.set_cons_zero, List.set_cons_succ])
  refine linm_step (i := 4) (d := some 9) (v := .slice (some ⟨g, 0, none⟩) l.length cap) rfl rfl (by kernel_rfl) (by kernel_rfl) rfl rfl (ordm_value (by kernel_rfl) (fun s w' hm hS => rk_load HM.out (L := [4, 11]) (k := 4) (by simp) hm hS (.tmp 8) rfl rfl)) ?_
  (try simp only [Act.put, List.setIfInBounds_toArray, List.set_cons_zero, List.set_cons_succ])
  refine linm_step (i := 5) (d := some 10) (v := .int .i64 (i : Int)) rfl rfl (by kernel_rfl) (by kernel_rfl) rfl rfl (ordm_value (by kernel_rfl) ?_) ?_
  · (intro _ w' _ _; go_simp)
  (try simp only [Act.put, List.setIfInBounds_toArray, List.set_cons_zero, List.set_cons_succ])
  refine linm_step (i := 6) (d := some 11) (v := .slice (some ⟨g, 0, none⟩) i cap) rfl rfl (by kernel_rfl) (by kernel_rfl) rfl rfl (ordm_value (by kernel_rfl) ?_) ?_
  · (intro _ w' _ _; go_simp)
  (try simp only [Act.put, List.setIfInBounds_toArray, List.set_cons_zero, List.set_cons_succ])
  refine linm_step (i := 8) (d := some 13) (v := (.pointer (some ⟨b, 0, none⟩))) rfl rfl (by kernel_rfl) (by kernel_rfl) rfl rfl (ordm_value (by kernel_rfl) ?_) ?_
  · (intro _ w' _ _; go_simp)
  (try simp only [Act.put, List.setIfInBounds_toArray, List.set_cons_zero, List.set_cons_succ])
  refine linm_step (i := 9) (d := some 14) (v := (.pointer (some ⟨b, 0, none⟩))) rfl rfl (by kernel_rfl) (by kernel_rfl) rfl rfl (ordm_value (by kernel_rfl) ?_) ?_
  · (intro _ w' _ _; go_simp)
  (try simp only [Act.put, List.setIfInBounds_toArray, List.set_cons_zero, List.set_cons_succ])
  refine linm_step (i := 10) (d := some 15) (v := .pointer (some ⟨b, 2, none⟩)) rfl rfl (by kernel_rfl) (by kernel_rfl) rfl rfl (ordm_value (by kernel_rfl) ?_) ?_
  · (intro _ w' _ _; go_simp)
  (try simp only [Act.put, List.setIfInBounds_toArray, List.set_cons_zero, List.set_cons_succ])
  refine linm_step (i := 11) (d := some 16) (v := .slice (some ⟨g, 0, none⟩) l.length cap) rfl rfl (by kernel_rfl) (by kernel_rfl) rfl rfl (ordm_value (by kernel_rfl) (fun s w' hm hS => rk_load HM.out (L := [4, 11]) (k := 11) (by simp) hm hS (.tmp 15) rfl rfl)) ?_
  (try simp only [Act.put, List.setIfInBounds_toArray, List.set_cons_zero, List.set_cons_succ])
  refine linm_step (i := 12) (d := some 17) (v := .int .i64 (i : Int)) rfl rfl (by kernel_rfl) (by kernel_rfl) rfl rfl (ordm_value (by kernel_rfl) ?_) ?_
  · (intro _ w' _ _; go_simp)
  (try simp only [Act.put, List.setIfInBounds_toArray, List.set_cons_zero, List.set_cons_succ])
  refine linm_step (i := 13) (d := some 18) (v := .int .i64 ((i : Int) + 1)) rfl rfl (by kernel_rfl) (by kernel_rfl) rfl rfl (ordm_value (by kernel_rfl) ?_) ?_
  · (intro _ w' _ _; go_simp)
  (try simp only [Act.put, List.setIfInBounds_toArray, List.set_cons_zero, List.set_cons_succ])
  refine linm_step (i := 14) (d := some 19) (v := .slice (some A) (l.length - (i + 1)) (cap - (i + 1))) rfl rfl (by kernel_rfl) (by kernel_rfl) rfl rfl (ordm_value (by kernel_rfl) ?_) ?_
  · (intro _ w' _ _; go_simp)
  (try simp only [Act.put, List.setIfInBounds_toArray, List.set_cons_zero, List.set_cons_succ])
  refine linm_sole 0 (di := some 5) (fun u s => s = RK.p (some (u, [])) none) (by kernel_rfl) rfl rfl rfl (rkMay_no (fun u s' hu => ⟨_, _, hu⟩)) (by kernel_rfl) (fun W hS => rk_empty hS (by go_simp)) ?_
  rintro v1 s' rfl
  (try simp only [Act.put, List.setIfInBounds_toArray, List.set_cons_zero, List.set_cons_succ])
  refine linm_sole 7 (di := some 12) (fun u s => s = RK.p (some (u, [] ++ l.take i)) none) (by kernel_rfl) rfl rfl rfl (rkMay_no (fun u s' hu => ⟨_, _, hu⟩)) (by kernel_rfl) (fun W hS => rk_append (ys := l.take i) hS (.tmp 5) (.tmp 11) rfl rfl ⟨g, 0, none⟩ i cap rfl HT.out (cells_step HCA.out hS.1 HG.out) (by have := HI.out; have := HL.out; simp; omega)) ?_
  rintro v2 s' rfl
  (try simp only [Act.put, List.setIfInBounds_toArray, List.set_cons_zero, List.set_cons_succ])
  refine linm_sole 15 (di := some 20) (fun u s => s = RK.p (some (u, [] ++ l.take i ++ l.drop (i + 1))) none) (by kernel_rfl) rfl rfl rfl (rkMay_no (fun u s' hu => ⟨_, _, hu⟩)) (by kernel_rfl) (fun W hS => rk_append (ys := l.drop (i + 1)) hS (.tmp 12) (.tmp 19) rfl rfl A (l.length - (i + 1)) (cap - (i + 1)) rfl HD.out (cells_step HCB.out hS.1 HAG.out) (by have := HI.out; have := HL.out; simp; omega)) ?_
  rintro v3 s' rfl
  (try simp only [Act.put, List.setIfInBounds_toArray, List.set_cons_zero, List.set_cons_succ])
  refine linm_sole 16 (di := some 4) (fun u s => u = v3 ∧ s = RK.p (some (v3, [] ++ l.take i ++ l.drop (i + 1))) none) (by kernel_rfl) rfl rfl rfl (rkMay_no (fun u s' hu => ⟨_, _, hu.2⟩)) (by kernel_rfl) (fun W hS => gives_value (v := v3) (by go_simp) ⟨_, ⟨rfl, rfl⟩, hS⟩) ?_
  rintro u s' ⟨rfl, rfl⟩
  (try simp only [Act.put, List.setIfInBounds_toArray, List.set_cons_zero, List.set_cons_succ])
  refine linm_done (by kernel_rfl) ?_
  intro W hS
  have S := Lib.hid hS
  clear hS
  go_wp2
  go_ret
  obtain ⟨h1, h2, _⟩ := S.out
  have h3 := h2 _ _ rfl
  rw [List.nil_append, erase_app, HSZ.out] at h3
  exact ⟨u, rfl, h3, HBK.out.trans (h1.mono HBK.out.size)⟩
end Go.Proofs.Ythngbakbiocadaa

/-
  More of the kinds of worlds of the document's Put: all entries appended, the entries without one.
-/
namespace Go.Proofs.Ythngbakbiocadaa
set_option maxRecDepth 100000
open Go.RowKit Go.Maps
section
variable {hd : Value} {wx : World} {base b : Nat} {sv : Value} {room : Nat} {l l' : List Z.En} {e : Z.En}
theorem rk_all {a : Act} {op : Oper} {W : World} {v : Value} {yy : Option Nat} (h0 : MpAt 59 hd wx base b sv room l) (hn : l.length ≤ 1000) (h : RkS hd wx base b sv room l l' e (.p (some (v, [])) yy) W) (p q : Operand)
    (ho : op.op = .call { callee := .builtin .append, args := #[p, q], argTypes := #[49, 49] }) (hp : a.eval p = v) (hq : a.eval q = sv) :
    Gives Try.prog (execOp a.eval op) W fun u w' => ∃ s', s' = RK.p (some (u, [] ++ l)) yy ∧ RkS hd wx base b sv room l l' e s' w' := by
  rcases h0.own.2 with ⟨e1, e2⟩ | ⟨g, cap, cur, e1, _⟩
  · have hl : l = [] := List.eq_nil_of_length_eq_zero e2
    subst hl
    exact rk_nothing h p q ho hp (hq.trans e1)
  · refine rk_append (ys := l) h p q ho hp ⟨g, 0, none⟩ l.length cap (hq.trans e1) rfl ?_ (by simp; omega)
    have hb := h.1
    exact cells_step (fun j u hu => h0.own.cells (by rw [e1]; rfl) j u hu) hb (by have := (h0.own.lt g (by rw [e1]; rfl)).2; exact this)
theorem rk_without {a : Act} {op : Oper} {W : World} {yy : Option Nat} {xs : List Z.En} {f : FuncId} {args : Array Value} (h : RkS hd wx base b sv room l l' e (.p none yy) W) (hop : (execOp a.eval op).run Try.prog W = .ok (.enter f args) W)
    (hc : Calls Try.prog f args W fun e w' => ∃ v, e = .returned v ∧ w'.ownsRow W.heap.size 59 5 v xs.length (cellsE xs) ∧ Below W.heap.size W w') :
    Gives Try.prog (execOp a.eval op) W fun u w' => ∃ s', s' = RK.p (some (u, xs)) yy ∧ RkS hd wx base b sv room l l' e s' w' := by
  obtain ⟨h1, _, h3⟩ := h
  refine gives_call hop (hc.mono fun e w' ⟨v, he, hown, hb⟩ => ⟨v, he, _, rfl, h1.trans (hb.mono h1.size), fun u zs hx => ?_, fun g hg => ?_⟩)
  · injection hx with hx
    injection hx with e1 e2
    subst e1 e2
    exact own_le hown h1.size
  · obtain ⟨g1, g2, g3, _⟩ := h3 g hg
    refine ⟨g1, Nat.lt_of_lt_of_le g2 hb.size, cells_step g3 hb g2, fun u zs hx => ?_⟩
    injection hx with hx
    injection hx with e1 e2
    subst e1
    intro hv
    have := (hown.lt _ hv).1
    omega
end
theorem cellsE_sing (e : Z.En) : cellsE [e] = enL e := by unfold cellsE; simp
theorem set_parts {l : List Z.En} {i : Nat} (h : i < l.length) (e : Z.En) : [] ++ l.take i ++ [e] ++ l.drop (i + 1) = l.set i e := by
  rw [List.set_eq_take_append_cons_drop, if_pos h]; simp
end Go.Proofs.Ythngbakbiocadaa

/-
  The document's Put of a key that is there, in a Hash.
-/
namespace Go.Proofs.Ythngbakbiocadaa
set_option maxRecDepth 100000
open Go.RowKit Go.Maps

set_option maxRecDepth 100000 in
set_option maxHeartbeats 4000000 in
theorem rput_there_hash (base b : Nat) (sv : Value) (room : Nat) (l : List Z.En) (x : Z.En) (i : Nat) (hp : Z.pos x.key l = some i) (w : World) (h : MpAt 59 (.bool false) w base b sv room l) (hn : l.length ≤ 1000) (hbase : base ≤ w.heap.size) :
    Calls Try.prog 26 #[.pointer (some ⟨b, 0, none⟩), .int .i64 x.key, .agg #[.int .i64 x.a, .int .i64 x.b, .int .i64 x.c, .int .i64 x.d]] w fun e w' => e = .returned (.int .i64 0) ∧ ∃ sv', MpTo 59 (.bool false) w base b sv room (l.set i x) w' sv' := by
  have S0 : Hid (InS 59 (.bool false) w base b sv room l w.heap.size (wordsL x) (w.alloc (.cells #[.int .i64 x.a, .int .i64 x.b, .int .i64 x.c, .int .i64 x.d] 57)) sv) := Lib.hid ⟨MpTo.self h ((Below.refl _ _).alloc (Nat.le_refl _) _), rowAt_new w (wordsL x) _, by rw [wordsL_length]; omega, fun hf => by (have := (h.foot hf).2; omega), Nat.le_refl _⟩
  have HF := Lib.hid (fun w => rat_any (.bool false) base b sv room l x.key w)
  have HBS := Lib.hid hbase
  have HL := Lib.hid hn
  obtain ⟨y, hy, hky, _⟩ := Z.pos_some hp
  have hi : i < l.length := (List.getElem?_eq_some_iff.1 hy).1
  have HP : Hid (Z.posI x.key l = (i : Int)) := Lib.hid (by unfold Z.posI; rw [hp])
  obtain ⟨g, cap, hsv, hnc, hcm, _, hgl, _⟩ := own_range h.own hy
  subst hsv
  have HI := Lib.hid hi
  have hi0 : (0 : Int) ≤ (i : Int) := by omega
  have hi1 : (i : Int) < (l.length : Int) := by omega
  have hic : i ≤ cap := by omega
  have hic1 : i + 1 ≤ cap := by omega
  have hin1 : i + 1 ≤ l.length := by omega
  have hw : IntKind.i64.wrap ((i : Int) + 1) = (i : Int) + 1 := by rw [IntKind.wrap_i64]; omega
  have hj0 : (0 : Int) ≤ (i : Int) + 1 := by omega
  have hj1 : (i : Int) + 1 ≤ (l.length : Int) := by omega
  have hcz : cap ≤ 9223372036854775807 := by unfold maxLen at hcm; omega
  have HT : Hid ((l.take i).length = i) := Lib.hid (by rw [List.length_take]; omega)
  have HD : Hid ((l.drop (i + 1)).length = l.length - (i + 1)) := Lib.hid (by rw [List.length_drop])
  clear h hp hy hky hi hbase hn hnc hcm
  go_enter Try.func26, Try.ntmps26
  go_upto_region 1 with fail
  generalize w.alloc (.cells #[.int .i64 x.a, .int .i64 x.b, .int .i64 x.c, .int .i64 x.d] 57) = W1 at S0 ⊢
  have hc0 : W1.cell? ⟨b, 0, none⟩ = some (.bool false) := S0.out.way.at_.row.cell 0 _ rfl
  have hc1 : W1.cell? ⟨b, 1, none⟩ = some (.int .i64 (room : Int)) := S0.out.way.at_.row.cell 1 _ rfl
  have hc2 : W1.cell? ⟨b, 2, none⟩ = some (.slice (some ⟨g, 0, none⟩) l.length cap) := S0.out.way.at_.row.cell 2 _ rfl
  go_upto_region 3 with (go_at_call 36; refine (HF.out _ S0.out.way.at_ HL.out).mono ?_; rw [HP.out]; rintro e w2 ⟨rfl, rfl⟩)
  clear hc0 hc1 hc2
  obtain ⟨wx, hwx⟩ : ∃ wx, wx = W1.drew := ⟨_, rfl⟩
  have S1 := Lib.hid (S0.out.call (Below.refl _ _).drew)
  have hdr : Below wx.heap.size wx W1.drew := by rw [hwx]; exact Below.refl _ _
  rw [← hwx] at S1
  have HDR := Lib.hid hdr
  have HM := Lib.hid S1.out.way.at_
  have HR := Lib.hid S1.out.row
  have HFAR := Lib.hid S1.out.far
  have HBW : Hid (base ≤ wx.heap.size) := Lib.hid (Nat.le_trans HBS.out S1.out.way.but.size)
  generalize w.heap.size = B at S1 HR HFAR ⊢
  clear hwx hdr
  have hAo := cells_behind (HM.out.own) (i + 1) hin1
  obtain ⟨A, hA, hAg, hcb⟩ := hAo
  have HCA := Lib.hid (cells_ahead HM.out.own i (by omega))
  have HCB := Lib.hid hcb
  have HG : Hid (g < wx.heap.size) := Lib.hid (HM.out.own.lt g rfl).2
  have HAG : Hid (A.block < wx.heap.size) := Lib.hid (by rw [hAg]; exact HG.out)
  clear hcb hAg hgl
  refine wp_region_linm (RkS (.bool false) wx base b (.slice (some ⟨g, 0, none⟩) l.length cap) room l (l.set i x) x) (rkMay [5, 17]) (fun i => i == 1 || i == 8 || i == 12 || i == 13 || i == 21 || i == 24) (fun qi => [(.pointer (some ⟨b, 0, none⟩)), undef, (.pointer (some ⟨b, 0, none⟩)), (.pointer (some ⟨b, 0, none⟩)), .pointer (some ⟨b, 2, none⟩), (.slice (some ⟨g, 0, none⟩) l.length cap), .int .i64 (i : Int), .slice (some ⟨g, 0, none⟩) i cap, undef, .int .i64 x.key, .agg (wordsL x).toArray, .agg (enL x).toArray, undef, undef, (.pointer (some ⟨b, 0, none⟩)), (.pointer (some ⟨b, 0, none⟩)), .pointer (some ⟨b, 2, none⟩), (.slice (some ⟨g, 0, none⟩) l.length cap), .int .i64 (i : Int), .int .i64 ((i : Int) + 1), .slice (some A) (l.length - (i + 1)) (cap - (i + 1)), undef, (.pointer (some ⟨b, 0, none⟩)), .pointer (some ⟨b, 2, none⟩), undef].getD qi undef) (RK.p none none) (by kernel_rfl) (by kernel_rfl) (⟨HDR.out, fun v xs h => (by cases h), fun g h => (by cases h)⟩) (fun _ => rfl) ?_
  refine linm_step (i := 0) (d := some 20) (v := (.pointer (some ⟨b, 0, none⟩))) rfl rfl (by kernel_rfl) (by kernel_rfl) rfl rfl (ordm_value (by kernel_rfl) ?_) ?_
  · (intro _ w' _ _; go_simp)
  (try simp only [Act.put, List.setIfInBounds_toArray, List.set_cons_zero, List.set_cons_succ])
  refine linm_step (i := 2) (d := some 22) (v := (.pointer (some ⟨b, 0, none⟩))) rfl rfl (by kernel_rfl) (by kernel_rfl) rfl rfl (ordm_value (by kernel_rfl) ?_) ?_
  · (intro _ w' _ _; go_simp)
  (try simp only [Act.put, List.setIfInBounds_toArray, List.set_cons_zero, List.set_cons_succ])
  refine linm_step (i := 3) (d := some 23) (v := (.pointer (some ⟨b, 0, none⟩))) rfl rfl (by kernel_rfl) (by kernel_rfl) rfl rfl (ordm_value (by kernel_rfl) ?_) ?_
  · (intro _ w' _ _; go_simp)
  (try simp only [Act.put, List.setIfInBounds_toArray, List.set_cons_zero, List.set_cons_succ])
  refine linm_step (i := 4) (d := some 24) (v := .pointer (some ⟨b, 2, none⟩)) rfl rfl (by kernel_rfl) (by kernel_rfl) rfl rfl (ordm_value (by kernel_rfl) ?_) ?_
  · (intro _ w' _ _; go_simp)
  (try simp only [Act.put, List.setIfInBounds_toArray, List.set_cons_zero, List.set_cons_succ])
  refine linm_step (i := 5) (d := some 25) (v := .slice (some ⟨g, 0, none⟩) l.length cap) rfl rfl (by kernel_rfl) (by kernel_rfl) rfl rfl (ordm_value (by kernel_rfl) (fun s w' hm hS => rk_load HM.out (L := [5, 17]) (k := 5) (by simp) hm hS (.tmp 24) rfl rfl)) ?_
  (try simp only [Act.put, List.setIfInBounds_toArray, List.set_cons_zero, List.set_cons_succ])
  refine linm_step (i := 6) (d := some 26) (v := .int .i64 (i : Int)) rfl rfl (by kernel_rfl) (by kernel_rfl) rfl rfl (ordm_value (by kernel_rfl) ?_) ?_
  · (intro _ w' _ _; go_simp)
  (try simp only [Act.put, List.setIfInBounds_toArray, List.set_cons_zero, List.set_cons_succ])
  refine linm_step (i := 7) (d := some 27) (v := .slice (some ⟨g, 0, none⟩) i cap) rfl rfl (by kernel_rfl) (by kernel_rfl) rfl rfl (ordm_value (by kernel_rfl) ?_) ?_
  · (intro _ w' _ _; go_simp)
  (try simp only [Act.put, List.setIfInBounds_toArray, List.set_cons_zero, List.set_cons_succ])
  refine linm_step (i := 9) (d := some 29) (v := .int .i64 x.key) rfl rfl (by kernel_rfl) (by kernel_rfl) rfl rfl (ordm_value (by kernel_rfl) ?_) ?_
  · (intro _ w' _ _; go_simp)
  (try simp only [Act.put, List.setIfInBounds_toArray, List.set_cons_zero, List.set_cons_succ])
  refine linm_step (i := 10) (d := some 30) (v := .agg (wordsL x).toArray) rfl rfl (by kernel_rfl) (by kernel_rfl) rfl rfl (ordm_value (by kernel_rfl) (fun s w' _ hS => run_ld_row rvalT (RkS.other HR.out HFAR.out hS) (wordsL_length x) (.tmp 5) rfl rfl)) ?_
  (try simp only [Act.put, List.setIfInBounds_toArray, List.set_cons_zero, List.set_cons_succ])
  refine linm_step (i := 11) (d := some 31) (v := .agg (enL x).toArray) rfl rfl (by kernel_rfl) (by kernel_rfl) rfl rfl (ordm_value (by kernel_rfl) ?_) ?_
  · (intro _ w' _ _; unfold enL wordsL; go_simp)
  (try simp only [Act.put, List.setIfInBounds_toArray, List.set_cons_zero, List.set_cons_succ])
  refine linm_step (i := 14) (d := some 34) (v := (.pointer (some ⟨b, 0, none⟩))) rfl rfl (by kernel_rfl) (by kernel_rfl) rfl rfl (ordm_value (by kernel_rfl) ?_) ?_
  · (intro _ w' _ _; go_simp)
  (try simp only [Act.put, List.setIfInBounds_toArray, List.set_cons_zero, List.set_cons_succ])
  refine linm_step (i := 15) (d := some 35) (v := (.pointer (some ⟨b, 0, none⟩))) rfl rfl (by kernel_rfl) (by kernel_rfl) rfl rfl (ordm_value (by kernel_rfl) ?_) ?_
  · (intro _ w' _ _; go_simp)
  (try simp only [Act.put, List.setIfInBounds_toArray, List.set_cons_zero, List.set_cons_succ])
  refine linm_step (i := 16) (d := some 36) (v := .pointer (some ⟨b, 2, none⟩)) rfl rfl (by kernel_rfl) (by kernel_rfl) rfl rfl (ordm_value (by kernel_rfl) ?_) ?_
  · (intro _ w' _ _; go_simp)
  (try simp only [Act.put, List.setIfInBounds_toArray, List.set_cons_zero, List.set_cons_succ])
  refine linm_step (i := 17) (d := some 37) (v := .slice (some ⟨g, 0, none⟩) l.length cap) rfl rfl (by kernel_rfl) (by kernel_rfl) rfl rfl (ordm_value (by kernel_rfl) (fun s w' hm hS => rk_load HM.out (L := [5, 17]) (k := 17) (by simp) hm hS (.tmp 36) rfl rfl)) ?_
  (try simp only [Act.put, List.setIfInBounds_toArray, List.set_cons_zero, List.set_cons_succ])
  refine linm_step (i := 18) (d := some 38) (v := .int .i64 (i : Int)) rfl rfl (by kernel_rfl) (by kernel_rfl) rfl rfl (ordm_value (by kernel_rfl) ?_) ?_
  · (intro _ w' _ _; go_simp)
  (try simp only [Act.put, List.setIfInBounds_toArray, List.set_cons_zero, List.set_cons_succ])
  refine linm_step (i := 19) (d := some 39) (v := .int .i64 ((i : Int) + 1)) rfl rfl (by kernel_rfl) (by kernel_rfl) rfl rfl (ordm_value (by kernel_rfl) ?_) ?_
  · (intro _ w' _ _; go_simp)
  (try simp only [Act.put, List.setIfInBounds_toArray, List.set_cons_zero, List.set_cons_succ])
  refine linm_step (i := 20) (d := some 40) (v := .slice (some A) (l.length - (i + 1)) (cap - (i + 1))) rfl rfl (by kernel_rfl) (by kernel_rfl) rfl rfl (ordm_value (by kernel_rfl) ?_) ?_
  · (intro _ w' _ _; go_simp)
  (try simp only [Act.put, List.setIfInBounds_toArray, List.set_cons_zero, List.set_cons_succ])
  refine linm_fork2 1 12 (di := some 21) (dj := some 32) (fun u s => s = RK.p (some (u, [])) none) (fun u s => ∃ g, u = .slice (some ⟨g, 0, none⟩) 1 1 ∧ s = RK.p none (some g)) (by kernel_rfl) (by decide) rfl rfl rfl rfl rfl rfl (rkMay_no (fun u s' hu => ⟨_, _, hu⟩)) (rkMay_no (fun u s' hu => by obtain ⟨g, _, h⟩ := hu; exact ⟨_, _, h⟩)) (by kernel_rfl) (fun W hS => rk_empty hS (by go_simp)) (by kernel_rfl) (fun W hS => rk_one hS (.tmp 31) rfl rfl) ?_ ?_
  · rintro v0 s' rfl
    (try simp only [Act.put, List.setIfInBounds_toArray, List.set_cons_zero, List.set_cons_succ])
    refine linm_fork2 8 12 (di := some 28) (dj := some 32) (fun u s => s = RK.p (some (u, [] ++ l.take i)) none) (fun u s => ∃ g, u = .slice (some ⟨g, 0, none⟩) 1 1 ∧ s = RK.p (some (v0, [])) (some g)) (by kernel_rfl) (by decide) rfl rfl rfl rfl rfl rfl (rkMay_no (fun u s' hu => ⟨_, _, hu⟩)) (rkMay_no (fun u s' hu => by obtain ⟨g, _, h⟩ := hu; exact ⟨_, _, h⟩)) (by kernel_rfl) (fun W hS => rk_append (ys := l.take i) hS (.tmp 21) (.tmp 27) rfl rfl ⟨g, 0, none⟩ i cap rfl HT.out (cells_step HCA.out hS.1 HG.out) (by have := HI.out; have := HL.out; simp; omega)) (by kernel_rfl) (fun W hS => rk_one hS (.tmp 31) rfl rfl) ?_ ?_
    · rintro v1 s' rfl
      (try simp only [Act.put, List.setIfInBounds_toArray, List.set_cons_zero, List.set_cons_succ])
      refine linm_sole 12 (di := some 32) (fun u s => ∃ g, u = .slice (some ⟨g, 0, none⟩) 1 1 ∧ s = RK.p (some (v1, [] ++ l.take i)) (some g)) (by kernel_rfl) rfl rfl rfl (rkMay_no (fun u s' hu => by obtain ⟨g, _, h⟩ := hu; exact ⟨_, _, h⟩)) (by kernel_rfl) (fun W hS => rk_one hS (.tmp 31) rfl rfl) ?_
      rintro _ s' ⟨g9, rfl, rfl⟩
      (try simp only [Act.put, List.setIfInBounds_toArray, List.set_cons_zero, List.set_cons_succ])
      refine linm_sole 13 (di := some 33) (fun u s => s = RK.p (some (u, [] ++ l.take i ++ [x])) (some g9)) (by kernel_rfl) rfl rfl rfl (rkMay_no (fun u s' hu => ⟨_, _, hu⟩)) (by kernel_rfl) (fun W hS => rk_append (ys := [x]) hS (.tmp 28) (.tmp 32) rfl rfl ⟨g9, 0, none⟩ 1 1 rfl rfl (by rw [cellsE_sing]; exact (hS.2.2 g9 rfl).2.2.1) (by have := HI.out; have := HL.out; simp; omega)) ?_
      rintro v2 s' rfl
      (try simp only [Act.put, List.setIfInBounds_toArray, List.set_cons_zero, List.set_cons_succ])
      refine linm_sole 21 (di := some 41) (fun u s => s = RK.p (some (u, [] ++ l.take i ++ [x] ++ l.drop (i + 1))) (some g9)) (by kernel_rfl) rfl rfl rfl (rkMay_no (fun u s' hu => ⟨_, _, hu⟩)) (by kernel_rfl) (fun W hS => rk_append (ys := l.drop (i + 1)) hS (.tmp 33) (.tmp 40) rfl rfl A (l.length - (i + 1)) (cap - (i + 1)) rfl HD.out (cells_step HCB.out hS.1 HAG.out) (by have := HI.out; have := HL.out; simp; omega)) ?_
      rintro v3 s' rfl
      (try simp only [Act.put, List.setIfInBounds_toArray, List.set_cons_zero, List.set_cons_succ])
      refine linm_step (i := 22) (d := some 42) (v := (.pointer (some ⟨b, 0, none⟩))) rfl rfl (by kernel_rfl) (by kernel_rfl) rfl rfl (ordm_value (by kernel_rfl) ?_) ?_
      · (intro _ w' _ _; go_simp)
      (try simp only [Act.put, List.setIfInBounds_toArray, List.set_cons_zero, List.set_cons_succ])
      refine linm_step (i := 23) (d := some 43) (v := .pointer (some ⟨b, 2, none⟩)) rfl rfl (by kernel_rfl) (by kernel_rfl) rfl rfl (ordm_value (by kernel_rfl) ?_) ?_
      · (intro _ w' _ _; go_simp)
      (try simp only [Act.put, List.setIfInBounds_toArray, List.set_cons_zero, List.set_cons_succ])
      refine linm_sole 24 (di := none) (fun _ s => s = RK.d v3) (by kernel_rfl) rfl rfl rfl (rkMay_last (by kernel_rfl)) (by kernel_rfl) (fun W hS => rk_store HM.out HBW.out hS (set_parts HI.out x) (.tmp 43) (.tmp 41) rfl rfl rfl) ?_
      rintro u s' rfl
      (try simp only [Act.put, List.setIfInBounds_toArray, List.set_cons_zero, List.set_cons_succ])
      refine linm_done (by kernel_rfl) ?_
      intro W hS
      have HF2 := Lib.hid (S1.out.way.trans (show MpTo 59 (.bool false) wx base b (.slice (some ⟨g, 0, none⟩) l.length cap) room (l.set i x) W v3 from hS))
      clear hS
      go_wp2
      refine bodyPost_ret (results_tmp rfl _ _ _) rfl ?_
      exact ⟨rfl, v3, HF2.out⟩
    · rintro _ s' ⟨g9, rfl, rfl⟩
      (try simp only [Act.put, List.setIfInBounds_toArray, List.set_cons_zero, List.set_cons_succ])
      refine linm_sole 8 (di := some 28) (fun u s => s = RK.p (some (u, [] ++ l.take i)) (some g9)) (by kernel_rfl) rfl rfl rfl (rkMay_no (fun u s' hu => ⟨_, _, hu⟩)) (by kernel_rfl) (fun W hS => rk_append (ys := l.take i) hS (.tmp 21) (.tmp 27) rfl rfl ⟨g, 0, none⟩ i cap rfl HT.out (cells_step HCA.out hS.1 HG.out) (by have := HI.out; have := HL.out; simp; omega)) ?_
      rintro v1 s' rfl
      (try simp only [Act.put, List.setIfInBounds_toArray, List.set_cons_zero, List.set_cons_succ])
      refine linm_sole 13 (di := some 33) (fun u s => s = RK.p (some (u, [] ++ l.take i ++ [x])) (some g9)) (by kernel_rfl) rfl rfl rfl (rkMay_no (fun u s' hu => ⟨_, _, hu⟩)) (by kernel_rfl) (fun W hS => rk_append (ys := [x]) hS (.tmp 28) (.tmp 32) rfl rfl ⟨g9, 0, none⟩ 1 1 rfl rfl (by rw [cellsE_sing]; exact (hS.2.2 g9 rfl).2.2.1) (by have := HI.out; have := HL.out; simp; omega)) ?_
      rintro v2 s' rfl
      (try simp only [Act.put, List.setIfInBounds_toArray, List.set_cons_zero, List.set_cons_succ])
      refine linm_sole 21 (di := some 41) (fun u s => s = RK.p (some (u, [] ++ l.take i ++ [x] ++ l.drop (i + 1))) (some g9)) (by kernel_rfl) rfl rfl rfl (rkMay_no (fun u s' hu => ⟨_, _, hu⟩)) (by kernel_rfl) (fun W hS => rk_append (ys := l.drop (i + 1)) hS (.tmp 33) (.tmp 40) rfl rfl A (l.length - (i + 1)) (cap - (i + 1)) rfl HD.out (cells_step HCB.out hS.1 HAG.out) (by have := HI.out; have := HL.out; simp; omega)) ?_
      rintro v3 s' rfl
      (try simp only [Act.put, List.setIfInBounds_toArray, List.set_cons_zero, List.set_cons_succ])
      refine linm_step (i := 22) (d := some 42) (v := (.pointer (some ⟨b, 0, none⟩))) rfl rfl (by kernel_rfl) (by kernel_rfl) rfl rfl (ordm_value (by kernel_rfl) ?_) ?_
      · (intro _ w' _ _; go_simp)
      (try simp only [Act.put, List.setIfInBounds_toArray, List.set_cons_zero, List.set_cons_succ])
      refine linm_step (i := 23) (d := some 43) (v := .pointer (some ⟨b, 2, none⟩)) rfl rfl (by kernel_rfl) (by kernel_rfl) rfl rfl (ordm_value (by kernel_rfl) ?_) ?_
      · (intro _ w' _ _; go_simp)
      (try simp only [Act.put, List.setIfInBounds_toArray, List.set_cons_zero, List.set_cons_succ])
      refine linm_sole 24 (di := none) (fun _ s => s = RK.d v3) (by kernel_rfl) rfl rfl rfl (rkMay_last (by kernel_rfl)) (by kernel_rfl) (fun W hS => rk_store HM.out HBW.out hS (set_parts HI.out x) (.tmp 43) (.tmp 41) rfl rfl rfl) ?_
      rintro u s' rfl
      (try simp only [Act.put, List.setIfInBounds_toArray, List.set_cons_zero, List.set_cons_succ])
      refine linm_done (by kernel_rfl) ?_
      intro W hS
      have HF2 := Lib.hid (S1.out.way.trans (show MpTo 59 (.bool false) wx base b (.slice (some ⟨g, 0, none⟩) l.length cap) room (l.set i x) W v3 from hS))
      clear hS
      go_wp2
      refine bodyPost_ret (results_tmp rfl _ _ _) rfl ?_
      exact ⟨rfl, v3, HF2.out⟩
  · rintro _ s' ⟨g9, rfl, rfl⟩
    (try simp only [Act.put, List.setIfInBounds_toArray, List.set_cons_zero, List.set_cons_succ])
    refine linm_sole 1 (di := some 21) (fun u s => s = RK.p (some (u, [])) (some g9)) (by kernel_rfl) rfl rfl rfl (rkMay_no (fun u s' hu => ⟨_, _, hu⟩)) (by kernel_rfl) (fun W hS => rk_empty hS (by go_simp)) ?_
    rintro v0 s' rfl
    (try simp only [Act.put, List.setIfInBounds_toArray, List.set_cons_zero, List.set_cons_succ])
    refine linm_sole 8 (di := some 28) (fun u s => s = RK.p (some (u, [] ++ l.take i)) (some g9)) (by kernel_rfl) rfl rfl rfl (rkMay_no (fun u s' hu => ⟨_, _, hu⟩)) (by kernel_rfl) (fun W hS => rk_append (ys := l.take i) hS (.tmp 21) (.tmp 27) rfl rfl ⟨g, 0, none⟩ i cap rfl HT.out (cells_step HCA.out hS.1 HG.out) (by have := HI.out; have := HL.out; simp; omega)) ?_
    rintro v1 s' rfl
    (try simp only [Act.put, List.setIfInBounds_toArray, List.set_cons_zero, List.set_cons_succ])
    refine linm_sole 13 (di := some 33) (fun u s => s = RK.p (some (u, [] ++ l.take i ++ [x])) (some g9)) (by kernel_rfl) rfl rfl rfl (rkMay_no (fun u s' hu => ⟨_, _, hu⟩)) (by kernel_rfl) (fun W hS => rk_append (ys := [x]) hS (.tmp 28) (.tmp 32) rfl rfl ⟨g9, 0, none⟩ 1 1 rfl rfl (by rw [cellsE_sing]; exact (hS.2.2 g9 rfl).2.2.1) (by have := HI.out; have := HL.out; simp; omega)) ?_
    rintro v2 s' rfl
    (try simp only [Act.put, List.setIfInBounds_toArray, List.set_cons_zero, List.set_cons_succ])
    refine linm_sole 21 (di := some 41) (fun u s => s = RK.p (some (u, [] ++ l.take i ++ [x] ++ l.drop (i + 1))) (some g9)) (by kernel_rfl) rfl rfl rfl (rkMay_no (fun u s' hu => ⟨_, _, hu⟩)) (by kernel_rfl) (fun W hS => rk_append (ys := l.drop (i + 1)) hS (.tmp 33) (.tmp 40) rfl rfl A (l.length - (i + 1)) (cap - (i + 1)) rfl HD.out (cells_step HCB.out hS.1 HAG.out) (by have := HI.out; have := HL.out; simp; omega)) ?_
    rintro v3 s' rfl
    (try simp only [Act.put, List.setIfInBounds_toArray, List.set_cons_zero, List.set_cons_succ])
    refine linm_step (i := 22) (d := some 42) (v := (.pointer (some ⟨b, 0, none⟩))) rfl rfl (by kernel_rfl) (by kernel_rfl) rfl rfl (ordm_value (by kernel_rfl) ?_) ?_
    · (intro _ w' _ _; go_simp)
    (try simp only [Act.put, List.setIfInBounds_toArray, List.set_cons_zero, List.set_cons_succ])
    refine linm_step (i := 23) (d := some 43) (v := .pointer (some ⟨b, 2, none⟩)) rfl rfl (by kernel_rfl) (by kernel_rfl) rfl rfl (ordm_value (by kernel_rfl) ?_) ?_
    · (intro _ w' _ _; go_simp)
    (try simp only [Act.put, List.setIfInBounds_toArray, List.set_cons_zero, List.set_cons_succ])
    refine linm_sole 24 (di := none) (fun _ s => s = RK.d v3) (by kernel_rfl) rfl rfl rfl (rkMay_last (by kernel_rfl)) (by kernel_rfl) (fun W hS => rk_store HM.out HBW.out hS (set_parts HI.out x) (.tmp 43) (.tmp 41) rfl rfl rfl) ?_
    rintro u s' rfl
    (try simp only [Act.put, List.setIfInBounds_toArray, List.set_cons_zero, List.set_cons_succ])
    refine linm_done (by kernel_rfl) ?_
    intro W hS
    have HF2 := Lib.hid (S1.out.way.trans (show MpTo 59 (.bool false) wx base b (.slice (some ⟨g, 0, none⟩) l.length cap) room (l.set i x) W v3 from hS))
    clear hS
    go_wp2
    refine bodyPost_ret (results_tmp rfl _ _ _) rfl ?_
    exact ⟨rfl, v3, HF2.out⟩
end Go.Proofs.Ythngbakbiocadaa

/-
  The document's Put of a key that is there, in an Lru.
-/
namespace Go.Proofs.Ythngbakbiocadaa
set_option maxRecDepth 100000
open Go.RowKit Go.Maps

set_option maxRecDepth 100000 in
set_option maxHeartbeats 4000000 in
theorem rput_there_lru (base b : Nat) (sv : Value) (room : Nat) (l : List Z.En) (x : Z.En) (i : Nat) (hp : Z.pos x.key l = some i) (w : World) (h : MpAt 59 (.bool true) w base b sv room l) (hn : l.length ≤ 1000) (hbase : base ≤ w.heap.size) :
    Calls Try.prog 26 #[.pointer (some ⟨b, 0, none⟩), .int .i64 x.key, .agg #[.int .i64 x.a, .int .i64 x.b, .int .i64 x.c, .int .i64 x.d]] w fun e w' => e = .returned (.int .i64 0) ∧ ∃ sv', MpTo 59 (.bool true) w base b sv room (l.eraseIdx i ++ [x]) w' sv' := by
  have S0 : Hid (InS 59 (.bool true) w base b sv room l w.heap.size (wordsL x) (w.alloc (.cells #[.int .i64 x.a, .int .i64 x.b, .int .i64 x.c, .int .i64 x.d] 57)) sv) := Lib.hid ⟨MpTo.self h ((Below.refl _ _).alloc (Nat.le_refl _) _), rowAt_new w (wordsL x) _, by rw [wordsL_length]; omega, fun hf => by (have := (h.foot hf).2; omega), Nat.le_refl _⟩
  have HF := Lib.hid (fun w => rat_any (.bool true) base b sv room l x.key w)
  have HBS := Lib.hid hbase
  have HL := Lib.hid hn
  obtain ⟨y, hy, hky, _⟩ := Z.pos_some hp
  have hi : i < l.length := (List.getElem?_eq_some_iff.1 hy).1
  have HP : Hid (Z.posI x.key l = (i : Int)) := Lib.hid (by unfold Z.posI; rw [hp])
  have HI := Lib.hid hi
  have hi0 : (0 : Int) ≤ (i : Int) := by omega
  have HLE : Hid ((l.eraseIdx i).length ≤ 1000) := Lib.hid (by rw [List.length_eraseIdx, if_pos hi]; omega)
  clear h hp hy hky hi hbase hn
  go_enter Try.func26, Try.ntmps26
  go_upto_region 1 with fail
  generalize w.alloc (.cells #[.int .i64 x.a, .int .i64 x.b, .int .i64 x.c, .int .i64 x.d] 57) = W1 at S0 ⊢
  have hc0 : W1.cell? ⟨b, 0, none⟩ = some (.bool true) := S0.out.way.at_.row.cell 0 _ rfl
  have hc1 : W1.cell? ⟨b, 1, none⟩ = some (.int .i64 (room : Int)) := S0.out.way.at_.row.cell 1 _ rfl
  have hc2 : W1.cell? ⟨b, 2, none⟩ = some sv := S0.out.way.at_.row.cell 2 _ rfl
  go_upto_region 6 with (go_at_call 36; refine (HF.out _ S0.out.way.at_ HL.out).mono ?_; rw [HP.out]; rintro e w2 ⟨rfl, rfl⟩)
  clear hc0 hc1 hc2
  obtain ⟨wx, hwx⟩ : ∃ wx, wx = W1.drew := ⟨_, rfl⟩
  have S1 := Lib.hid (S0.out.call (Below.refl _ _).drew)
  have hdr : Below wx.heap.size wx W1.drew := by rw [hwx]; exact Below.refl _ _
  rw [← hwx] at S1
  have HDR := Lib.hid hdr
  have HM := Lib.hid S1.out.way.at_
  have HR := Lib.hid S1.out.row
  have HFAR := Lib.hid S1.out.far
  have HBW : Hid (base ≤ wx.heap.size) := Lib.hid (Nat.le_trans HBS.out S1.out.way.but.size)
  generalize w.heap.size = B at S1 HR HFAR ⊢
  clear hwx hdr
  refine wp_region_linm (RkS (.bool true) wx base b sv room l (l.eraseIdx i ++ [x]) x) (rkMay []) (fun i => i == 3 || i == 7 || i == 8 || i == 11) (fun qi => [(.pointer (some ⟨b, 0, none⟩)), (.pointer (some ⟨b, 0, none⟩)), .int .i64 (i : Int), undef, .int .i64 x.key, .agg (wordsL x).toArray, .agg (enL x).toArray, undef, undef, (.pointer (some ⟨b, 0, none⟩)), .pointer (some ⟨b, 2, none⟩), undef].getD qi undef) (RK.p none none) (by kernel_rfl) (by kernel_rfl) (⟨HDR.out, fun v xs h => (by cases h), fun g h => (by cases h)⟩) (fun _ => rfl) ?_
  refine linm_step (i := 0) (d := some 46) (v := (.pointer (some ⟨b, 0, none⟩))) rfl rfl (by kernel_rfl) (by kernel_rfl) rfl rfl (ordm_value (by kernel_rfl) ?_) ?_
  · (intro _ w' _ _; go_simp)
  (try simp only [Act.put, List.setIfInBounds_toArray, List.set_cons_zero, List.set_cons_succ])
  refine linm_step (i := 1) (d := some 47) (v := (.pointer (some ⟨b, 0, none⟩))) rfl rfl (by kernel_rfl) (by kernel_rfl) rfl rfl (ordm_value (by kernel_rfl) ?_) ?_
  · (intro _ w' _ _; go_simp)
  (try simp only [Act.put, List.setIfInBounds_toArray, List.set_cons_zero, List.set_cons_succ])
  refine linm_step (i := 2) (d := some 48) (v := .int .i64 (i : Int)) rfl rfl (by kernel_rfl) (by kernel_rfl) rfl rfl (ordm_value (by kernel_rfl) ?_) ?_
  · (intro _ w' _ _; go_simp)
  (try simp only [Act.put, List.setIfInBounds_toArray, List.set_cons_zero, List.set_cons_succ])
  refine linm_step (i := 4) (d := some 50) (v := .int .i64 x.key) rfl rfl (by kernel_rfl) (by kernel_rfl) rfl rfl (ordm_value (by kernel_rfl) ?_) ?_
  · (intro _ w' _ _; go_simp)
  (try simp only [Act.put, List.setIfInBounds_toArray, List.set_cons_zero, List.set_cons_succ])
  refine linm_step (i := 5) (d := some 51) (v := .agg (wordsL x).toArray) rfl rfl (by kernel_rfl) (by kernel_rfl) rfl rfl (ordm_value (by kernel_rfl) (fun s w' _ hS => run_ld_row rvalT (RkS.other HR.out HFAR.out hS) (wordsL_length x) (.tmp 5) rfl rfl)) ?_
  (try simp only [Act.put, List.setIfInBounds_toArray, List.set_cons_zero, List.set_cons_succ])
  refine linm_step (i := 6) (d := some 52) (v := .agg (enL x).toArray) rfl rfl (by kernel_rfl) (by kernel_rfl) rfl rfl (ordm_value (by kernel_rfl) ?_) ?_
  · (intro _ w' _ _; unfold enL wordsL; go_simp)
  (try simp only [Act.put, List.setIfInBounds_toArray, List.set_cons_zero, List.set_cons_succ])
  refine linm_fork2 3 7 (di := some 49) (dj := some 53) (fun u s => s = RK.p (some (u, l.eraseIdx i)) none) (fun u s => ∃ g, u = .slice (some ⟨g, 0, none⟩) 1 1 ∧ s = RK.p none (some g)) (by kernel_rfl) (by decide) rfl rfl rfl rfl rfl rfl (rkMay_no (fun u s' hu => ⟨_, _, hu⟩)) (rkMay_no (fun u s' hu => by obtain ⟨g, _, h⟩ := hu; exact ⟨_, _, h⟩)) (by kernel_rfl) (fun W hS => rk_without (xs := l.eraseIdx i) (f := 37) (args := #[.pointer (some ⟨b, 0, none⟩), .int .i64 (i : Int)]) hS (by go_simp <;> rfl) (rwithout_any (.bool true) base b sv room l i W (HM.out.step hS.1) HI.out HL.out)) (by kernel_rfl) (fun W hS => rk_one hS (.tmp 52) rfl rfl) ?_ ?_
  · rintro v1 s' rfl
    (try simp only [Act.put, List.setIfInBounds_toArray, List.set_cons_zero, List.set_cons_succ])
    refine linm_sole 7 (di := some 53) (fun u s => ∃ g, u = .slice (some ⟨g, 0, none⟩) 1 1 ∧ s = RK.p (some (v1, l.eraseIdx i)) (some g)) (by kernel_rfl) rfl rfl rfl (rkMay_no (fun u s' hu => by obtain ⟨g, _, h⟩ := hu; exact ⟨_, _, h⟩)) (by kernel_rfl) (fun W hS => rk_one hS (.tmp 52) rfl rfl) ?_
    rintro _ s' ⟨g9, rfl, rfl⟩
    (try simp only [Act.put, List.setIfInBounds_toArray, List.set_cons_zero, List.set_cons_succ])
    refine linm_sole 8 (di := some 54) (fun u s => s = RK.p (some (u, l.eraseIdx i ++ [x])) (some g9)) (by kernel_rfl) rfl rfl rfl (rkMay_no (fun u s' hu => ⟨_, _, hu⟩)) (by kernel_rfl) (fun W hS => rk_append (ys := [x]) hS (.tmp 49) (.tmp 53) rfl rfl ⟨g9, 0, none⟩ 1 1 rfl rfl (by rw [cellsE_sing]; exact (hS.2.2 g9 rfl).2.2.1) (by have := HLE.out; omega)) ?_
    rintro v2 s' rfl
    (try simp only [Act.put, List.setIfInBounds_toArray, List.set_cons_zero, List.set_cons_succ])
    refine linm_step (i := 9) (d := some 55) (v := (.pointer (some ⟨b, 0, none⟩))) rfl rfl (by kernel_rfl) (by kernel_rfl) rfl rfl (ordm_value (by kernel_rfl) ?_) ?_
    · (intro _ w' _ _; go_simp)
    (try simp only [Act.put, List.setIfInBounds_toArray, List.set_cons_zero, List.set_cons_succ])
    refine linm_step (i := 10) (d := some 56) (v := .pointer (some ⟨b, 2, none⟩)) rfl rfl (by kernel_rfl) (by kernel_rfl) rfl rfl (ordm_value (by kernel_rfl) ?_) ?_
    · (intro _ w' _ _; go_simp)
    (try simp only [Act.put, List.setIfInBounds_toArray, List.set_cons_zero, List.set_cons_succ])
    refine linm_sole 11 (di := none) (fun _ s => s = RK.d v2) (by kernel_rfl) rfl rfl rfl (rkMay_last (by kernel_rfl)) (by kernel_rfl) (fun W hS => rk_store HM.out HBW.out hS rfl (.tmp 56) (.tmp 54) rfl rfl rfl) ?_
    rintro u s' rfl
    (try simp only [Act.put, List.setIfInBounds_toArray, List.set_cons_zero, List.set_cons_succ])
    refine linm_done (by kernel_rfl) ?_
    intro W hS
    have HF2 := Lib.hid (S1.out.way.trans (show MpTo 59 (.bool true) wx base b sv room (l.eraseIdx i ++ [x]) W v2 from hS))
    clear hS
    go_wp2
    refine bodyPost_ret (results_tmp rfl _ _ _) rfl ?_
    exact ⟨rfl, v2, HF2.out⟩
  · rintro _ s' ⟨g9, rfl, rfl⟩
    (try simp only [Act.put, List.setIfInBounds_toArray, List.set_cons_zero, List.set_cons_succ])
    refine linm_sole 3 (di := some 49) (fun u s => s = RK.p (some (u, l.eraseIdx i)) (some g9)) (by kernel_rfl) rfl rfl rfl (rkMay_no (fun u s' hu => ⟨_, _, hu⟩)) (by kernel_rfl) (fun W hS => rk_without (xs := l.eraseIdx i) (f := 37) (args := #[.pointer (some ⟨b, 0, none⟩), .int .i64 (i : Int)]) hS (by go_simp <;> rfl) (rwithout_any (.bool true) base b sv room l i W (HM.out.step hS.1) HI.out HL.out)) ?_
    rintro v1 s' rfl
    (try simp only [Act.put, List.setIfInBounds_toArray, List.set_cons_zero, List.set_cons_succ])
    refine linm_sole 8 (di := some 54) (fun u s => s = RK.p (some (u, l.eraseIdx i ++ [x])) (some g9)) (by kernel_rfl) rfl rfl rfl (rkMay_no (fun u s' hu => ⟨_, _, hu⟩)) (by kernel_rfl) (fun W hS => rk_append (ys := [x]) hS (.tmp 49) (.tmp 53) rfl rfl ⟨g9, 0, none⟩ 1 1 rfl rfl (by rw [cellsE_sing]; exact (hS.2.2 g9 rfl).2.2.1) (by have := HLE.out; omega)) ?_
    rintro v2 s' rfl
    (try simp only [Act.put, List.setIfInBounds_toArray, List.set_cons_zero, List.set_cons_succ])
    refine linm_step (i := 9) (d := some 55) (v := (.pointer (some ⟨b, 0, none⟩))) rfl rfl (by kernel_rfl) (by kernel_rfl) rfl rfl (ordm_value (by kernel_rfl) ?_) ?_
    · (intro _ w' _ _; go_simp)
    (try simp only [Act.put, List.setIfInBounds_toArray, List.set_cons_zero, List.set_cons_succ])
    refine linm_step (i := 10) (d := some 56) (v := .pointer (some ⟨b, 2, none⟩)) rfl rfl (by kernel_rfl) (by kernel_rfl) rfl rfl (ordm_value (by kernel_rfl) ?_) ?_
    · (intro _ w' _ _; go_simp)
    (try simp only [Act.put, List.setIfInBounds_toArray, List.set_cons_zero, List.set_cons_succ])
    refine linm_sole 11 (di := none) (fun _ s => s = RK.d v2) (by kernel_rfl) rfl rfl rfl (rkMay_last (by kernel_rfl)) (by kernel_rfl) (fun W hS => rk_store HM.out HBW.out hS rfl (.tmp 56) (.tmp 54) rfl rfl rfl) ?_
    rintro u s' rfl
    (try simp only [Act.put, List.setIfInBounds_toArray, List.set_cons_zero, List.set_cons_succ])
    refine linm_done (by kernel_rfl) ?_
    intro W hS
    have HF2 := Lib.hid (S1.out.way.trans (show MpTo 59 (.bool true) wx base b sv room (l.eraseIdx i ++ [x]) W v2 from hS))
    clear hS
    go_wp2
    refine bodyPost_ret (results_tmp rfl _ _ _) rfl ?_
    exact ⟨rfl, v2, HF2.out⟩
end Go.Proofs.Ythngbakbiocadaa
