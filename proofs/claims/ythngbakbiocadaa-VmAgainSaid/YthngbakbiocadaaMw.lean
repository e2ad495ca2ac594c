/-
  To the end.
-/
import Derived.Test.YthngbakbiocadaaMv
import Derived.Test.YthngbakbiocadaaMi

namespace Go.Proofs.Ythngbakbiocadaa
set_option maxRecDepth 100000
open Go.ChangeShapes Go.WideShapes Go.ChangeAt Go.RowKit Go.Maps
open V
def stepsW (R : Nat) (w : World) : Nat := match w.cell? ⟨R, 54, none⟩ with
  | some (.int _ n) => n.toNat
  | _ => 0
section
variable {E : Ev} {S : Nat → Prop} {s t : V.St} {W : World}
theorem stepsW_is (h : RunAt E S s W) : stepsW E.R W = s.steps := by
  unfold stepsW
  rw [h.cSteps]
  exact Int.toNat_natCast _
theorem end_why (hE : EvOk E) (h : RunAt E S s W) (y : Nat) (C1 C2 : Nat) (h1 : RowAt W C1 [.pointer (some ⟨E.R, 0, none⟩)]) (h2 : RowAt W C2 zeroO) (hne : C1 ≠ C2) (hO : ¬ Own E S C2) (hl : E.w0.heap.size ≤ C2) :
    CallsD Try.prog 41 #[.pointer (some ⟨C2, 0, none⟩), .pointer (some ⟨C1, 0, none⟩)] (.panicking [{ v := .iface 98 (.int .i64 (y : Int)), recovered := false }]) W fun e u' w' => e = .returned (.tuple #[]) ∧ u' = .panicking [{ v := .iface 98 (.int .i64 (y : Int)), recovered := true }] ∧ EndR s E.n W C2 2 (y : Int) 0 w' := by
  by_cases hc : E.c = E.n
  · exact end_why_eq hE hc h y C1 C2 h1 h2 hne hO hl
  · exact end_why_ne hE hc h y C1 C2 h1 h2 hne hO hl
theorem end_ver (hE : EvOk E) (h : RunAt E S s W) (y : Int) (C1 C2 : Nat) (h1 : RowAt W C1 [.pointer (some ⟨E.R, 0, none⟩)]) (h2 : RowAt W C2 zeroO) (hne : C1 ≠ C2) (hO : ¬ Own E S C2) (hl : E.w0.heap.size ≤ C2) :
    CallsD Try.prog 41 #[.pointer (some ⟨C2, 0, none⟩), .pointer (some ⟨C1, 0, none⟩)] (.panicking [{ v := .iface 97 (.int .i64 y), recovered := false }]) W fun e u' w' => e = .returned (.tuple #[]) ∧ u' = .panicking [{ v := .iface 97 (.int .i64 y), recovered := true }] ∧ EndR s E.n W C2 1 0 y w' := by
  by_cases hc : E.c = E.n
  · exact end_ver_eq hE hc h y C1 C2 h1 h2 hne hO hl
  · exact end_ver_ne hE hc h y C1 C2 h1 h2 hne hO hl
/-- what a run to its end leaves -/
def FinR (E : Ev) (S : Nat → Prop) (W : World) (f : V.Fin) (e : Ending) (w' : World) : Prop :=
  ∃ O k c, e = .returned (.agg #[.int .i64 (f.how : Int), .int .i64 (f.why : Int), .int .i64 f.verdict, .int .i64 (f.s.steps : Int), .slice O k c]) ∧ NumsAt w' O k (f.s.ctx.drop E.n) ∧ (∀ b off, O = some ⟨b, off, none⟩ → W.heap.size ≤ b ∧ b < w'.heap.size) ∧ RunTo E S W f.s w'
theorem step_on {K : V.Calc} {hi : Int → Bool} {h : Int} {l : List Y.In} {s t : V.St} (e : V.step K hi h l s = .on t) : s.steps < 64 ∧ t.steps = s.steps + 1 := by
  by_cases h64 : 64 ≤ s.steps
  · rw [V.step_fuel h64] at e; cases e
  · by_cases hat : s.at_ < 0
    · rw [V.step_below h64 hat] at e; cases e
    · cases hx : l[s.at_.toNat]? with
      | none => rw [V.step_out h64 hat hx] at e; cases e
      | some x =>
        rw [V.step_in h64 hat hx] at e
        have hP := V.exec_P K hi (V.steps_keeps s.steps) (V.steps_keepsD h s.steps) (x := x) (s := { s with at_ := s.at_ + 1 }) rfl
        cases hr : V.exec K hi h x { s with at_ := s.at_ + 1 } with
        | on u =>
          rw [hr] at e hP
          injection e with e
          rw [← e]
          have hu : u.steps = s.steps := hP
          exact ⟨by omega, by show u.steps + 1 = _; omega⟩
        | done v u => rw [hr] at e; cases e
        | flt y u => rw [hr] at e; cases e
set_option maxHeartbeats 4000000 in
theorem toEnd_any (hE : EvOk E) (h : RunAt E S s W) (hs : s.steps ≤ 64) : Calls Try.prog 29 #[.pointer (some ⟨E.R, 0, none⟩)] W (FinR E S W (V.run runK runHi E.h E.xs (65 - s.steps) s)) := by
  obtain ⟨fin, hfin⟩ : ∃ fin, Hid (V.run runK runHi E.h E.xs (65 - s.steps) s = fin) := ⟨_, Lib.hid rfl⟩
  rw [hfin.out]
  have hmf : ∀ (fn : Fn) (first cap : Array Value) (w : World), (Instr.makeFunc fn first cap).run Try.prog w = .ok (.func fn first cap) w := fun _ _ _ _ => rfl
  have R1 := Lib.hid ((rowAt_new W [.pointer (some ⟨E.R, 0, none⟩)] 96).alloc (.cells #[.int .i64 0, .int .i64 0, .int .i64 0, .int .i64 0, .slice none 0 0] 39))
  have R2 : Hid (RowAt ((W.alloc (.cells #[.pointer (some ⟨E.R, 0, none⟩)] 96)).alloc (.cells #[.int .i64 0, .int .i64 0, .int .i64 0, .int .i64 0, .slice none 0 0] 39)) (W.heap.size + 1) zeroO) := Lib.hid (by
    have := rowAt_new (W.alloc (.cells #[.pointer (some ⟨E.R, 0, none⟩)] 96)) [.int .i64 0, .int .i64 0, .int .i64 0, .int .i64 0, .slice none 0 0] 39
    rwa [World.size_alloc] at this)
  have HB := Lib.hid ((below_new W (.cells #[.pointer (some ⟨E.R, 0, none⟩)] 96)).trans ((below_new _ (.cells #[.int .i64 0, .int .i64 0, .int .i64 0, .int .i64 0, .slice none 0 0] 39)).mono (below_new W _).size))
  have HZ : Hid (((W.alloc (.cells #[.pointer (some ⟨E.R, 0, none⟩)] 96)).alloc (.cells #[.int .i64 0, .int .i64 0, .int .i64 0, .int .i64 0, .slice none 0 0] 39)).heap.size = W.heap.size + 2) := Lib.hid (by rw [World.size_alloc, World.size_alloc])
  have HH := Lib.hid h
  have HS := Lib.hid hs
  clear h hs
  go_enter_defers Try.func29, Try.ntmps29
  go_upto_region 1 with fail
  generalize World.alloc _ _ = W1 at R1 R2 HB HZ ⊢
  have HNO : Hid (∀ S', (∀ k, S' k → S k ∨ W1.heap.size ≤ k) → ¬ Own E S' W.heap.size ∧ ¬ Own E S' (W.heap.size + 1)) := Lib.hid (fun S' hS' => by
    have hz := HZ.out
    have hR := HH.out.Rlt
    have hF := HH.out.Flt
    constructor
    · rintro (hk | hk | hk)
      · rcases hS' _ hk with e | e
        · have := HH.out.st.lt e; omega
        · omega
      · omega
      · omega
    · rintro (hk | hk | hk)
      · rcases hS' _ hk with e | e
        · have := HH.out.st.lt e; omega
        · omega
      · omega
      · omega)
  have HL0 : Hid (E.w0.heap.size ≤ W.heap.size) := Lib.hid HH.out.low.size
  go_wp2
  go_loopw [4] (fun _ wr => ∃ s' : V.St, Hid (RunTo E S W1 s' wr) ∧ Hid (RowAt wr W.heap.size [.pointer (some ⟨E.R, 0, none⟩)]) ∧ Hid (RowAt wr (W.heap.size + 1) zeroO) ∧ Hid (s'.steps ≤ 64 ∧ V.run runK runHi E.h E.xs (65 - s'.steps) s' = fin)) (fun _ wr => 65 - stepsW E.R wr)
  case atStart => exact ⟨s, Lib.hid (RunTo.self (HH.out.step HB.out) (Below.refl _ _)), R1, R2, Lib.hid ⟨HS.out, hfin.out⟩⟩
  case round =>
    obtain ⟨s', HT, K1, K2, HV⟩ := hrel
    obtain ⟨S', h', hbut', hs'⟩ := HT.out
    have H' := Lib.hid h'
    have HBU := Lib.hid hbut'
    have HSS := Lib.hid hs'
    obtain ⟨hn1, hn2⟩ := HNO.out S' hs'
    have N1 := Lib.hid hn1
    have N2 := Lib.hid hn2
    have c1 := K1.out.cell 0 _ rfl
    have hst := stepsW_is h'
    have HM := Lib.hid hst
    have HP := Lib.hid (step_any hE h')
    have hv := HV.out.2
    have h64 := HV.out.1
    obtain ⟨n, hn⟩ : ∃ n, 65 - s'.steps = n + 1 := ⟨64 - s'.steps, by omega⟩
    rw [hn] at hv
    unfold V.run at hv
    clear h' hbut' hs' hn1 hn2 hst R1 R2
    have HW1 : Hid (W.heap.size ≤ W1.heap.size) := Lib.hid HB.out.size
    cases hr : V.step runK runHi E.h E.xs s' with
    | flt y t =>
      rw [hr] at hv HP
      have HF : Hid ((⟨2, y, 0, t⟩ : V.Fin) = fin) := Lib.hid hv
      clear hv hr hn h64
      go_wp2_with (go_at_call 43; (with_reducible refine (HP.out).mono ?_); rintro e w5 ⟨he, hto⟩; unfold whyE at he; subst he; have HT5 := Lib.hid hto; clear hto)
      obtain ⟨S5, h5, hb5, hs5⟩ := HT5.out
      have k1 := RunTo.row HT5.out K1.out N1.out
      have k2 : RowAt w5 (W.heap.size + 1) zeroO := RunTo.row (v := .int .i64 0) (vs := [.int .i64 0, .int .i64 0, .int .i64 0, .slice none 0 0]) HT5.out K2.out N2.out
      have n2 := (HNO.out S5 (fun k hk => by
        rcases hs5 k hk with e | e
        · exact HSS.out k e
        · exact Or.inr (Nat.le_trans HBU.out.size e))).2
      have hT1 : RunTo E S W1 t w5 := RunTo.trans HBU.out HSS.out HT5.out
      show Leaves _ _ _ _ _ _ _
      refine leaves_cons (f := 41) (args := #[.pointer (some ⟨W.heap.size + 1, 0, none⟩), .pointer (some ⟨W.heap.size, 0, none⟩)]) (by simp) (by simp [go_sem]) ?_
      refine (end_why hE h5 y W.heap.size (W.heap.size + 1) k1 k2 (by omega) n2 (by have := HL0.out; omega)).mono ?_
      rintro e u' w6 ⟨rfl, rfl, O, k, c, hrow, hnum, hfr, hbut⟩
      have e0 := hrow.cell 0 _ rfl
      have e1 := hrow.cell 1 _ rfl
      have e2 := hrow.cell 2 _ rfl
      have e3 := hrow.cell 3 _ rfl
      have e4 := hrow.cell 4 _ rfl
      simp [Leaves, settle, results, Try.results29, go_sem, e0, e1, e2, e3, e4]
      rw [← HF.out]
      have hsz : W.heap.size ≤ w5.heap.size := Nat.le_trans HW1.out hT1.size
      exact ⟨O, k, c, rfl, hnum, fun b off e => ⟨Nat.le_trans hsz (hfr b off e).1, (hfr b off e).2⟩, RunTo.write HH.out HB.out hT1 (Nat.le_succ _) (by rw [HZ.out]; omega) hbut⟩
    | done v t =>
      rw [hr] at hv HP
      have HF : Hid ((⟨1, 0, v, t⟩ : V.Fin) = fin) := Lib.hid hv
      clear hv hr hn h64
      go_wp2_with (go_at_call 43; (with_reducible refine (HP.out).mono ?_); rintro e w5 ⟨he, hto⟩; unfold verE at he; subst he; have HT5 := Lib.hid hto; clear hto)
      obtain ⟨S5, h5, hb5, hs5⟩ := HT5.out
      have k1 := RunTo.row HT5.out K1.out N1.out
      have k2 : RowAt w5 (W.heap.size + 1) zeroO := RunTo.row (v := .int .i64 0) (vs := [.int .i64 0, .int .i64 0, .int .i64 0, .slice none 0 0]) HT5.out K2.out N2.out
      have n2 := (HNO.out S5 (fun k hk => by
        rcases hs5 k hk with e | e
        · exact HSS.out k e
        · exact Or.inr (Nat.le_trans HBU.out.size e))).2
      have hT1 : RunTo E S W1 t w5 := RunTo.trans HBU.out HSS.out HT5.out
      show Leaves _ _ _ _ _ _ _
      refine leaves_cons (f := 41) (args := #[.pointer (some ⟨W.heap.size + 1, 0, none⟩), .pointer (some ⟨W.heap.size, 0, none⟩)]) (by simp) (by simp [go_sem]) ?_
      refine (end_ver hE h5 v W.heap.size (W.heap.size + 1) k1 k2 (by omega) n2 (by have := HL0.out; omega)).mono ?_
      rintro e u' w6 ⟨rfl, rfl, O, k, c, hrow, hnum, hfr, hbut⟩
      have e0 := hrow.cell 0 _ rfl
      have e1 := hrow.cell 1 _ rfl
      have e2 := hrow.cell 2 _ rfl
      have e3 := hrow.cell 3 _ rfl
      have e4 := hrow.cell 4 _ rfl
      simp [Leaves, settle, results, Try.results29, go_sem, e0, e1, e2, e3, e4]
      rw [← HF.out]
      have hsz : W.heap.size ≤ w5.heap.size := Nat.le_trans HW1.out hT1.size
      exact ⟨O, k, c, rfl, hnum, fun b off e => ⟨Nat.le_trans hsz (hfr b off e).1, (hfr b off e).2⟩, RunTo.write HH.out HB.out hT1 (Nat.le_succ _) (by rw [HZ.out]; omega) hbut⟩
    | on t =>
      rw [hr] at hv HP
      obtain ⟨hs1, hs2⟩ := step_on hr
      have HF : Hid (V.run runK runHi E.h E.xs (65 - t.steps) t = fin) := Lib.hid (by rw [show 65 - t.steps = n by omega]; exact hv)
      have HS1 : Hid (s'.steps < 64 ∧ t.steps = s'.steps + 1) := Lib.hid ⟨hs1, hs2⟩
      clear hv hr hn h64 hs1 hs2
      go_wp2_with (go_at_call 43; (with_reducible refine (HP.out).mono ?_); rintro e w5 ⟨rfl, hto⟩; have HT5 := Lib.hid hto; have K1' := Lib.hid (RunTo.row hto K1.out N1.out); have K2' : Hid (RowAt w5 (W.heap.size + 1) zeroO) := Lib.hid (RunTo.row (v := .int .i64 0) (vs := [.int .i64 0, .int .i64 0, .int .i64 0, .slice none 0 0]) hto K2.out N2.out); clear hto)
      go_roundw
      case rel => exact ⟨t, Lib.hid (RunTo.trans HBU.out HSS.out HT5.out), K1', K2', Lib.hid ⟨by have := HS1.out; omega, HF.out⟩⟩
      case measure =>
        obtain ⟨S5, h5, _, _⟩ := HT5.out
        rw [stepsW_is h5, HM.out]
        have := HS1.out
        omega
end
end Go.Proofs.Ythngbakbiocadaa

/-
  Run.
-/
namespace Go.Proofs.Ythngbakbiocadaa
set_option maxRecDepth 100000
open Go.ChangeShapes Go.WideShapes Go.ChangeAt Go.RowKit Go.Maps
open V
theorem rrT : RowT 82 55 := ⟨⟨_, Try.underlying82, rfl⟩, by kernel_rfl⟩
theorem zeroO_one : ∀ v ∈ ([.int .i64 0, .int .i64 0, .int .i64 0, .int .i64 0, .slice none 0 0] : List Value), v.oneCell' = true := by
  intro v hv
  simp only [List.mem_cons, List.not_mem_nil, or_false] at hv
  rcases hv with rfl | rfl | rfl | rfl | rfl <;> rfl
open Hk
set_option maxHeartbeats 2000000 in
theorem run_bad (h : Int) (A : Option Addr) (n c : Nat) (ctx : List Int) (v : Value) (B : Option Addr) (m d : Nat) (xs : List Y.In) (W : World) (hins : Yq.InsAt W B m xs) (hm : m ≤ 1000) (hn : ctx.length = n) (hok : okRun h ctx xs = false) :
    Calls Try.prog 10 #[.int .i64 h, v, .slice A n c, .slice B m d] W fun e w' => e = .returned (.tuple #[.agg #[.int .i64 0, .int .i64 0, .int .i64 0, .int .i64 0, .slice none 0 0], .int .i64 22]) ∧ Below W.heap.size W w' := by
  have HR := Lib.hid (fun w' (hb : Below W.heap.size W w') => Yq.right_any B m d xs w' (hins.step hb) (by unfold maxLen; omega))
  have HB := Lib.hid (below_new W (.cells #[.int .i64 0, .int .i64 0, .int .i64 0, .int .i64 0, .slice none 0 0] 39))
  obtain ⟨k, hk⟩ : ∃ k, Hk.knownF h = k := ⟨_, rfl⟩
  obtain ⟨i, hi⟩ : ∃ i, Hk.inF h = i := ⟨_, rfl⟩
  obtain ⟨a, ha⟩ : ∃ a, Y.all xs = a := ⟨_, rfl⟩
  unfold okRun at hok
  rw [hn, hk, hi, ha] at hok
  have HK := Lib.hid (fun w => known_any h w)
  have HI := Lib.hid (fun w => in_any h w)
  rw [hk] at HK
  rw [hi] at HI
  rw [ha] at HR
  have c0 := fun o => (rowAt_new W [.int .i64 0, .int .i64 0, .int .i64 0, .int .i64 0, .slice none 0 0] 39).cell 0 o
  have hOK := Lib.hid hok
  clear hk hi ha hins hm hn hok c0
  go_enter Try.func10, Try.ntmps10
  go_upto_region 1 with fail
  have R0 := Lib.hid (rowAt_new W [.int .i64 0, .int .i64 0, .int .i64 0, .int .i64 0, .slice none 0 0] 39)
  generalize World.alloc _ _ = W1 at HB R0 ⊢
  cases k with
  | false =>
    go_wp2_with (first
      | (go_at_call 8; refine (HK.out _).mono ?_; rintro e w2 ⟨rfl, rfl⟩)
      | ((with_reducible refine wpList_store_row outT R0.out rfl (vs := [.int .i64 0, .int .i64 0, .int .i64 0, .int .i64 0, .slice none 0 0]) rfl zeroO_one rfl (.tmp 8) (.tmp 26) rfl ?_ ?_ ?_); (exact rfl); (exact rfl)))
    exact bodyPost_ret (results_row2 outT _ 8 9 rfl _ (R0.out.put _ rfl) rfl rfl rfl) rfl ⟨rfl, below_setCells _ (Nat.le_refl _) _ _ _ HB.out⟩
  | true =>
    cases hd : decide ((n : Int) = i) with
    | false =>
      have hne : ¬ ((n : Int) = i) := by simpa using hd
      go_wp2_with (first
        | (go_at_call 8; refine (HK.out _).mono ?_; rintro e w2 ⟨rfl, rfl⟩)
        | (go_at_call 28; refine (HI.out _).mono ?_; rintro e w2 ⟨rfl, rfl⟩)
        | ((with_reducible refine wpList_store_row outT R0.out rfl (vs := [.int .i64 0, .int .i64 0, .int .i64 0, .int .i64 0, .slice none 0 0]) rfl zeroO_one rfl (.tmp 8) (.tmp 26) rfl ?_ ?_ ?_); (exact rfl); (exact rfl)))
      exact bodyPost_ret (results_row2 outT _ 8 9 rfl _ (R0.out.put _ rfl) rfl rfl rfl) rfl ⟨rfl, below_setCells _ (Nat.le_refl _) _ _ _ HB.out⟩
    | true =>
      have he : (n : Int) = i := by simpa using hd
      obtain rfl : a = false := by have := hOK.out; rw [hd] at this; simpa using this
      go_wp2_with (first
        | (go_at_call 8; refine (HK.out _).mono ?_; rintro e w2 ⟨rfl, rfl⟩)
        | (go_at_call 28; refine (HI.out _).mono ?_; rintro e w2 ⟨rfl, rfl⟩)
        | (go_at_call 9; refine (HR.out _ HB.out).mono ?_; rintro e w2 ⟨rfl, hb⟩; have HB2 := HidB HB hb; have R2 := Lib.hid (RowAt.step (v := .int .i64 0) (vs := [.int .i64 0, .int .i64 0, .int .i64 0, .slice none 0 0]) R0.out hb); clear hb)
        | ((with_reducible refine wpList_store_row outT R2.out rfl (vs := [.int .i64 0, .int .i64 0, .int .i64 0, .int .i64 0, .slice none 0 0]) rfl zeroO_one rfl (.tmp 8) (.tmp 26) rfl ?_ ?_ ?_); (exact rfl); (exact rfl)))
      exact bodyPost_ret (results_row2 outT _ 8 9 rfl _ (R2.out.put _ rfl) rfl rfl rfl) rfl ⟨rfl, below_setCells _ (Nat.le_refl _) _ _ _ HB2.out⟩
end Go.Proofs.Ythngbakbiocadaa

/-
  Run of what may be run.
-/
namespace Go.Proofs.Ythngbakbiocadaa
set_option maxRecDepth 100000
open Go.ChangeShapes Go.WideShapes Go.ChangeAt Go.RowKit Go.Maps
open V
theorem start_row (E : Ev) (s : V.St) (hr : s.reg = List.replicate 8 .no) (hk : s.stk = List.replicate 8 .no) (ha : s.at_ = 0) (hs : s.steps = 0) : runL E s = [.int .i64 E.h, E.v, .slice E.B E.m E.d, .int .i64 (E.n : Int), .slice (some ⟨E.F, 0, none⟩) E.q E.c, .int .i64 0, .int .i64 0, .pointer none, .int .i64 0, .int .i64 0, .pointer none, .int .i64 0, .int .i64 0, .pointer none, .int .i64 0, .int .i64 0, .pointer none, .int .i64 0, .int .i64 0, .pointer none, .int .i64 0, .int .i64 0, .pointer none, .int .i64 0, .int .i64 0, .pointer none, .int .i64 0, .int .i64 0, .pointer none, .int .i64 0, .int .i64 0, .pointer none, .int .i64 0, .int .i64 0, .pointer none, .int .i64 0, .int .i64 0, .pointer none, .int .i64 0, .int .i64 0, .pointer none, .int .i64 0, .int .i64 0, .pointer none, .int .i64 0, .int .i64 0, .pointer none, .int .i64 0, .int .i64 0, .pointer none, .int .i64 0, .int .i64 0, .pointer none, .int .i64 0, .int .i64 0] := by
  unfold runL
  rw [hr, hk, ha, hs]
  rfl
/-- on the way to the fields -/
def RgS (W : World) (G R : Nat) (L0 L1 : Nat → List Value) (q : Nat) : Nat × Nat → World → Prop
  | (0, _), w' => Below W.heap.size W w' ∧ RowAt w' R (L0 0) ∧ RowAt w' G [.int .i64 0, .int .i64 0, .int .i64 0, .int .i64 0, .slice none 0 0]
  | (1, g), w' => Below W.heap.size W w' ∧ RowAt w' R (L0 0) ∧ RowAt w' G [.int .i64 0, .int .i64 0, .int .i64 0, .int .i64 0, .slice none 0 0] ∧ RowAt w' g (List.replicate q (.int .i64 0)) ∧ R < g ∧ g < w'.heap.size
  | (_ + 2, g), w' => Below W.heap.size W w' ∧ RowAt w' R (L1 g) ∧ RowAt w' G [.int .i64 0, .int .i64 0, .int .i64 0, .int .i64 0, .slice none 0 0] ∧ RowAt w' g (List.replicate q (.int .i64 0)) ∧ R < g ∧ g < w'.heap.size
section
variable {W : World} {h : Int} {v : Value} {B : Option Addr} {m d n q : Nat}
def l0 (h : Int) (v : Value) (B : Option Addr) (m d n : Nat) : Nat → List Value := fun _ => [.int .i64 h, v, .slice B m d, .int .i64 (n : Int), .slice none 0 0, .int .i64 0, .int .i64 0, .pointer none, .int .i64 0, .int .i64 0, .pointer none, .int .i64 0, .int .i64 0, .pointer none, .int .i64 0, .int .i64 0, .pointer none, .int .i64 0, .int .i64 0, .pointer none, .int .i64 0, .int .i64 0, .pointer none, .int .i64 0, .int .i64 0, .pointer none, .int .i64 0, .int .i64 0, .pointer none, .int .i64 0, .int .i64 0, .pointer none, .int .i64 0, .int .i64 0, .pointer none, .int .i64 0, .int .i64 0, .pointer none, .int .i64 0, .int .i64 0, .pointer none, .int .i64 0, .int .i64 0, .pointer none, .int .i64 0, .int .i64 0, .pointer none, .int .i64 0, .int .i64 0, .pointer none, .int .i64 0, .int .i64 0, .pointer none, .int .i64 0, .int .i64 0]
def l1 (h : Int) (v : Value) (B : Option Addr) (m d n q : Nat) : Nat → List Value := fun F => [.int .i64 h, v, .slice B m d, .int .i64 (n : Int), .slice (some ⟨F, 0, none⟩) q q, .int .i64 0, .int .i64 0, .pointer none, .int .i64 0, .int .i64 0, .pointer none, .int .i64 0, .int .i64 0, .pointer none, .int .i64 0, .int .i64 0, .pointer none, .int .i64 0, .int .i64 0, .pointer none, .int .i64 0, .int .i64 0, .pointer none, .int .i64 0, .int .i64 0, .pointer none, .int .i64 0, .int .i64 0, .pointer none, .int .i64 0, .int .i64 0, .pointer none, .int .i64 0, .int .i64 0, .pointer none, .int .i64 0, .int .i64 0, .pointer none, .int .i64 0, .int .i64 0, .pointer none, .int .i64 0, .int .i64 0, .pointer none, .int .i64 0, .int .i64 0, .pointer none, .int .i64 0, .int .i64 0, .pointer none, .int .i64 0, .int .i64 0, .pointer none, .int .i64 0, .int .i64 0]
theorem l0_set (g : Nat) : (l0 h v B m d n 0).set 4 (.slice (some ⟨g, 0, none⟩) q q) = l1 h v B m d n q g := rfl
theorem RgS.n3 {G R : Nat} {k : Nat × Nat} {w' : World} (hs : RgS W G R (l0 h v B m d n) (l1 h v B m d n q) q k w') : w'.cell? ⟨R, 3, none⟩ = some (.int .i64 (n : Int)) := by
  obtain ⟨k, g⟩ := k
  match k, hs with
  | 0, hs => exact hs.2.1.cell 3 _ rfl
  | 1, hs => exact hs.2.1.cell 3 _ rfl
  | _ + 2, hs => exact hs.2.1.cell 3 _ rfl
theorem rg_make {G R g0 : Nat} {a : Act} {op : Oper} {w' : World} (hq : q ≤ 1000) (hs : RgS W G R (l0 h v B m d n) (l1 h v B m d n q) q (0, g0) w') (x : Operand) (ho : op.op = .makeSlice 22 x x) (hx : a.eval x = .int .i64 (q : Int)) :
    Gives Try.prog (execOp a.eval op) w' fun u w'' => ∃ s', (∃ g, u = .slice (some ⟨g, 0, none⟩) q q ∧ s' = (1, g)) ∧ RgS W G R (l0 h v B m d n) (l1 h v B m d n q) q s' w'' := by
  have hlt : R < w'.heap.size := RowAt.lt (v := .int .i64 h) (vs := (l0 h v B m d n 0).tail) hs.2.1
  have hmk := run_make_ints w' q hq
  have hop : (execOp a.eval op).run Try.prog w' = .ok (.value (.slice (some ⟨w'.heap.size, 0, none⟩) q q)) (w'.alloc (.cells (List.replicate q (Value.int .i64 0)).toArray 3)) := by
    unfold execOp
    simp only [ho, hx, Sem.run_bind, hmk, Result.andThen_ok, Sem.run_pure]
  exact gives_to hop ⟨_, ⟨_, rfl, rfl⟩, hs.1.trans ((below_new w' _).mono hs.1.size), hs.2.1.alloc _, hs.2.2.alloc _, rowAt_new w' _ _, hlt, by simp⟩
theorem rg_store {G R g : Nat} {a : Act} {op : Oper} {w' : World} (hR : W.heap.size ≤ R) (hG : G ≠ R) (hs : RgS W G R (l0 h v B m d n) (l1 h v B m d n q) q (1, g) w') (x y : Operand) (ho : op.op = .store 22 x y) (hx : a.eval x = .pointer (some ⟨R, 4, none⟩)) (hy : a.eval y = .slice (some ⟨g, 0, none⟩) q q) :
    Gives Try.prog (execOp a.eval op) w' fun u w'' => ∃ s', (u = undef ∧ s' = (2, g)) ∧ RgS W G R (l0 h v B m d n) (l1 h v B m d n q) q s' w'' := by
  obtain ⟨h1, h2, h6, h3, h4, h5⟩ := hs
  refine gives_skip (run_store_one (Or.inr rfl) x y ho hx hy (Or.inr ⟨_, _, _, rfl⟩) (h2.cell 4 _ rfl) (h2.frozen 4 (show 4 < 55 by decide))) ⟨_, ⟨rfl, rfl⟩, h1.setCell (p := ⟨R, 4, none⟩) hR _, ?_, h6.put_other R 4 [_] hG, ?_, h4, by simpa [World.setCell] using h5⟩
  · have := h2.setOne 4 (.slice (some ⟨g, 0, none⟩) q q) (show 4 < 55 by decide)
    rw [l0_set] at this
    exact this
  · exact h3.put_other R 4 [_] (by omega)
end
theorem l0_one (h : Int) (v : Value) (hv : v.oneCell' = true) (B : Option Addr) (m d n : Nat) : ∀ u ∈ ([.int .i64 h, v, .slice B m d, .int .i64 (n : Int), .slice none 0 0, .int .i64 0, .int .i64 0, .pointer none, .int .i64 0, .int .i64 0, .pointer none, .int .i64 0, .int .i64 0, .pointer none, .int .i64 0, .int .i64 0, .pointer none, .int .i64 0, .int .i64 0, .pointer none, .int .i64 0, .int .i64 0, .pointer none, .int .i64 0, .int .i64 0, .pointer none, .int .i64 0, .int .i64 0, .pointer none, .int .i64 0, .int .i64 0, .pointer none, .int .i64 0, .int .i64 0, .pointer none, .int .i64 0, .int .i64 0, .pointer none, .int .i64 0, .int .i64 0, .pointer none, .int .i64 0, .int .i64 0, .pointer none, .int .i64 0, .int .i64 0, .pointer none, .int .i64 0, .int .i64 0, .pointer none, .int .i64 0, .int .i64 0, .pointer none, .int .i64 0, .int .i64 0] : List Value), u.oneCell' = true := by
  intro u hu
  simp only [List.mem_cons, List.not_mem_nil, or_false] at hu
  rcases hu with rfl | rfl | rfl | rfl | rfl | rfl | rfl | rfl | rfl | rfl | rfl | rfl | rfl | rfl | rfl | rfl | rfl | rfl | rfl | rfl | rfl | rfl | rfl | rfl | rfl | rfl | rfl | rfl | rfl | rfl | rfl | rfl | rfl | rfl | rfl | rfl | rfl | rfl | rfl | rfl | rfl | rfl | rfl | rfl | rfl | rfl | rfl | rfl | rfl | rfl | rfl | rfl | rfl | rfl | rfl <;> first | rfl | exact hv
theorem outl_one (a b c d : Int) (O : Option Addr) (k oc : Nat) : ∀ v ∈ ([.int .i64 a, .int .i64 b, .int .i64 c, .int .i64 d, .slice O k oc] : List Value), v.oneCell' = true := by
  intro v hv
  simp only [List.mem_cons, List.not_mem_nil, or_false] at hv
  rcases hv with rfl | rfl | rfl | rfl | rfl <;> rfl
open Hk
set_option maxHeartbeats 8000000 in
theorem run_good (h : Int) (A : Option Addr) (n c : Nat) (ctx : List Int) (B : Option Addr) (m d : Nat) (xs : List Y.In) (ba : Nat) (v : Value) (bs : List Nat) (S : Nat → Prop) (ds : List Dt) (w W : World)
    (hins : Yq.InsAt w B m xs) (hbw : Below w.heap.size w W) (hba : w.heap.size ≤ ba) (hn : NumsAt W A n ctx) (hA : ∀ b off, A = some ⟨b, off, none⟩ → ¬ S b) (hst : StAt sP ba v bs S ds W) (hb2 : ba ≤ W.heap.size) (hok : ∀ d ∈ ds, d.ok) (hm : m ≤ 1000) (hn1 : n ≤ 1000) (hgo : okRun h ctx xs = true) :
    Calls Try.prog 10 #[.int .i64 h, v, .slice A n c, .slice B m d] W (RunGive (outOf runK runHi h ctx xs ds) ba v bs S W) := by
  unfold okRun at hgo
  simp only [Bool.and_eq_true, decide_eq_true_eq] at hgo
  obtain ⟨⟨hk, hi⟩, ha⟩ := hgo
  have hlen := hn.len
  have hinr := inF_range h
  obtain ⟨o, ho⟩ : ∃ o : Nat, Hk.outF h = (o : Int) := ⟨(Hk.outF h).toNat, by unfold Hk.outF; split <;> first | omega | (split <;> first | omega | (split <;> omega))⟩
  have ho6 : o ≤ 6 := by unfold Hk.outF at ho; split at ho <;> first | omega | (split at ho <;> first | omega | (split at ho <;> omega))
  have hn10 : n ≤ 10 := by omega
  obtain ⟨VA, vc, rfl⟩ : ∃ A c, v = .slice A ds.length c := st_slice hst
  have hv1 : Value.oneCell' (.slice VA ds.length vc) = true := rfl
  have HR := Lib.hid (fun w' (hb : Below W.heap.size W w') => Yq.right_any B m d xs w' (hins.step (hbw.trans (hb.mono hbw.size))) (by unfold maxLen; omega))
  rw [ha] at HR
  have HK := Lib.hid (fun w => known_any h w)
  rw [hk] at HK
  have HI := Lib.hid (fun w => in_any h w)
  rw [← hi, hlen] at HI
  have HOU := Lib.hid (fun w => out_any h w)
  rw [ho] at HOU
  have HB := Lib.hid (below_new W (.cells #[.int .i64 0, .int .i64 0, .int .i64 0, .int .i64 0, .slice none 0 0] 39))
  have R0 := Lib.hid (rowAt_new W [.int .i64 0, .int .i64 0, .int .i64 0, .int .i64 0, .slice none 0 0] 39)
  have HNS := Lib.hid hn
  have HST := Lib.hid hst
  have HV1 := Lib.hid hv1
  have HQ : Hid (n + o ≤ 1000) := Lib.hid (by omega)
  have hw : IntKind.i64.wrap ((n : Int) + (o : Int)) = ((n + o : Nat) : Int) := by rw [IntKind.wrap_i64]; omega
  have HF := Lib.hid (⟨hins, hbw, hba, hb2, hok, hm, ha, hlen, hi, ho, hA⟩ : Yq.InsAt w B m xs ∧ Below w.heap.size w W ∧ w.heap.size ≤ ba ∧ ba ≤ W.heap.size ∧ (∀ d ∈ ds, d.ok) ∧ m ≤ 1000 ∧ Y.all xs = true ∧ ctx.length = n ∧ (ctx.length : Int) = Hk.inF h ∧ Hk.outF h = (o : Int) ∧ ∀ b off, A = some ⟨b, off, none⟩ → ¬ S b)
  have HOK : Hid (okRun h ctx xs = true) := Lib.hid (by unfold okRun; rw [hk, ha]; simp [hi])
  have HN10 := Lib.hid hn10
  have HLO : Hid (∀ u ∈ ([.int .i64 h, .slice VA ds.length vc, .slice B m d, .int .i64 (n : Int), .slice none 0 0, .int .i64 0, .int .i64 0, .pointer none, .int .i64 0, .int .i64 0, .pointer none, .int .i64 0, .int .i64 0, .pointer none, .int .i64 0, .int .i64 0, .pointer none, .int .i64 0, .int .i64 0, .pointer none, .int .i64 0, .int .i64 0, .pointer none, .int .i64 0, .int .i64 0, .pointer none, .int .i64 0, .int .i64 0, .pointer none, .int .i64 0, .int .i64 0, .pointer none, .int .i64 0, .int .i64 0, .pointer none, .int .i64 0, .int .i64 0, .pointer none, .int .i64 0, .int .i64 0, .pointer none, .int .i64 0, .int .i64 0, .pointer none, .int .i64 0, .int .i64 0, .pointer none, .int .i64 0, .int .i64 0, .pointer none, .int .i64 0, .int .i64 0, .pointer none, .int .i64 0, .int .i64 0] : List Value), u.oneCell' = true) := Lib.hid (l0_one h _ hv1 B m d n)
  have HL1 : Hid (([.int .i64 h, .slice VA ds.length vc, .slice B m d, .int .i64 (n : Int), .slice none 0 0, .int .i64 0, .int .i64 0, .pointer none, .int .i64 0, .int .i64 0, .pointer none, .int .i64 0, .int .i64 0, .pointer none, .int .i64 0, .int .i64 0, .pointer none, .int .i64 0, .int .i64 0, .pointer none, .int .i64 0, .int .i64 0, .pointer none, .int .i64 0, .int .i64 0, .pointer none, .int .i64 0, .int .i64 0, .pointer none, .int .i64 0, .int .i64 0, .pointer none, .int .i64 0, .int .i64 0, .pointer none, .int .i64 0, .int .i64 0, .pointer none, .int .i64 0, .int .i64 0, .pointer none, .int .i64 0, .int .i64 0, .pointer none, .int .i64 0, .int .i64 0, .pointer none, .int .i64 0, .int .i64 0, .pointer none, .int .i64 0, .int .i64 0, .pointer none, .int .i64 0, .int .i64 0] : List Value).length = 55) := Lib.hid rfl
  clear hins hbw hba hn hA hst hb2 hok hm hn1 hk hi ha hlen hinr ho ho6 hn10 hv1
  go_enter Try.func10, Try.ntmps10
  go_upto_region 1 with fail
  generalize World.alloc _ _ = W1 at HB R0 ⊢
  go_upto_region 4 with (first
    | (go_at_call 8; refine (HK.out _).mono ?_; rintro e w2 ⟨rfl, rfl⟩)
    | (go_at_call 28; refine (HI.out _).mono ?_; rintro e w2 ⟨rfl, rfl⟩)
    | (go_at_call 9; refine (HR.out _ HB.out).mono ?_; rintro e w2 ⟨rfl, hb⟩; have HB2 := HidB HB hb; have R2 := Lib.hid (RowAt.step (v := .int .i64 0) (vs := [.int .i64 0, .int .i64 0, .int .i64 0, .slice none 0 0]) R0.out hb); clear hb)
    | ((with_reducible refine wpList_store_newrow rrT (vs := [.int .i64 h, .slice VA ds.length vc, .slice B m d, .int .i64 (n : Int), .slice none 0 0, .int .i64 0, .int .i64 0, .pointer none, .int .i64 0, .int .i64 0, .pointer none, .int .i64 0, .int .i64 0, .pointer none, .int .i64 0, .int .i64 0, .pointer none, .int .i64 0, .int .i64 0, .pointer none, .int .i64 0, .int .i64 0, .pointer none, .int .i64 0, .int .i64 0, .pointer none, .int .i64 0, .int .i64 0, .pointer none, .int .i64 0, .int .i64 0, .pointer none, .int .i64 0, .int .i64 0, .pointer none, .int .i64 0, .int .i64 0, .pointer none, .int .i64 0, .int .i64 0, .pointer none, .int .i64 0, .int .i64 0, .pointer none, .int .i64 0, .int .i64 0, .pointer none, .int .i64 0, .int .i64 0, .pointer none, .int .i64 0, .int .i64 0, .pointer none, .int .i64 0, .int .i64 0]) HL1.out HLO.out rfl (.tmp 10) (.tmp 32) rfl rfl ?_ ?_ ?_); (exact rfl); (exact rfl); intro w3 hP hb hz; have RR := Lib.hid hP; have HB3 := HidB HB2 hb; have R3 := Lib.hid (RowAt.step (v := .int .i64 0) (vs := [.int .i64 0, .int .i64 0, .int .i64 0, .slice none 0 0]) R2.out hb); have HZ3 := Lib.hid hz; clear hP hb hz))
  generalize Value.agg _ = V32
  have HRW : Hid (W.heap.size < w2.heap.size) := Lib.hid (RowAt.lt (v := .int .i64 0) (vs := [.int .i64 0, .int .i64 0, .int .i64 0, .slice none 0 0]) R2.out)
  have HGR : Hid (W.heap.size ≠ w2.heap.size) := Lib.hid (by have := HRW.out; omega)
  clear HLO HL1
  refine wp_region_lin (RgS W W.heap.size w2.heap.size (l0 h (.slice VA ds.length vc) B m d n) (l1 h (.slice VA ds.length vc) B m d n (n + o)) (n + o)) (fun i => i == 5 || i == 7) (fun i => [.pointer (some ⟨w2.heap.size, 3, none⟩), .int .i64 (n : Int), .int .i64 h, .int .i64 (o : Int), .int .i64 ((n + o : Nat) : Int), undef, .pointer (some ⟨w2.heap.size, 4, none⟩), undef].getD i undef) ((0, 0)) (by kernel_rfl) (by kernel_rfl) (⟨HB3.out.drew, RR.out.drew, R3.out.drew⟩) ?_
  refine lin_step (i := 0) (d := some 33) (v := .pointer (some ⟨w2.heap.size, 3, none⟩)) rfl rfl (by kernel_rfl) (by kernel_rfl) rfl rfl (ord_value (by kernel_rfl) ?_) ?_
  · (intro _ w' _; go_simp)
  (try simp only [Act.put, List.setIfInBounds_toArray, List.set_cons_zero, List.set_cons_succ])
  refine lin_step (i := 1) (d := some 34) (v := .int .i64 (n : Int)) rfl rfl (by kernel_rfl) (by kernel_rfl) rfl rfl (ord_value (by kernel_rfl) ?_) ?_
  · (intro s' w' hS; (have c3 := hS.n3; go_simp))
  (try simp only [Act.put, List.setIfInBounds_toArray, List.set_cons_zero, List.set_cons_succ])
  refine lin_step (i := 2) (d := some 35) (v := .int .i64 h) rfl rfl (by kernel_rfl) (by kernel_rfl) rfl rfl (ord_value (by kernel_rfl) ?_) ?_
  · (intro _ w' _; go_simp)
  (try simp only [Act.put, List.setIfInBounds_toArray, List.set_cons_zero, List.set_cons_succ])
  refine lin_step (i := 3) (d := some 36) (v := .int .i64 (o : Int)) rfl rfl (by kernel_rfl) (by kernel_rfl) rfl rfl (ord_call (f := 12) (args := #[.int .i64 h]) (by kernel_rfl) ?_ (fun s' w' hS => (HOU.out w').mono fun e w'' hh => ⟨hh.1, by rw [← hh.2]; exact hS⟩)) ?_
  · (intro _; go_simp <;> rfl)
  (try simp only [Act.put, List.setIfInBounds_toArray, List.set_cons_zero, List.set_cons_succ])
  refine lin_step (i := 4) (d := some 37) (v := .int .i64 ((n + o : Nat) : Int)) rfl rfl (by kernel_rfl) (by kernel_rfl) rfl rfl (ord_value (by kernel_rfl) ?_) ?_
  · (intro _ w' _; go_simp)
  (try simp only [Act.put, List.setIfInBounds_toArray, List.set_cons_zero, List.set_cons_succ])
  refine lin_turnD (i := 5) (d := some 38) [7] (fun u s' => ∃ g, u = .slice (some ⟨g, 0, none⟩) (n + o) (n + o) ∧ s' = (1, g)) rfl rfl (by kernel_rfl) (by kernel_rfl) rfl (by kernel_rfl) (⟨_, _, 0, rfl, rfl⟩) (by kernel_rfl) (fun w' hS => rg_make HQ.out hS (.tmp 37) rfl rfl) ?_
  rintro _ _ ⟨F, rfl, rfl⟩
  (try simp only [Act.put, List.setIfInBounds_toArray, List.set_cons_zero, List.set_cons_succ])
  refine lin_step (i := 6) (d := some 39) (v := .pointer (some ⟨w2.heap.size, 4, none⟩)) rfl rfl (by kernel_rfl) (by kernel_rfl) rfl rfl (ord_value (by kernel_rfl) ?_) ?_
  · (intro _ w' _; go_simp)
  (try simp only [Act.put, List.setIfInBounds_toArray, List.set_cons_zero, List.set_cons_succ])
  refine lin_turnD (i := 7) (d := none) [] (fun u s' => u = undef ∧ s' = (2, F)) rfl rfl (by kernel_rfl) (by kernel_rfl) rfl (by kernel_rfl) (⟨_, _, rfl, rfl⟩) (by kernel_rfl) (fun w' hS => rg_store (Nat.le_of_lt HRW.out) HGR.out hS (.tmp 39) (.tmp 38) rfl rfl rfl) ?_
  rintro _ _ ⟨rfl, rfl⟩
  (try simp only [Act.put, List.setIfInBounds_toArray, List.set_cons_zero, List.set_cons_succ])
  refine lin_done (by kernel_rfl) ?_
  intro w4 hS
  obtain ⟨hb4, hR4, hG4, hF4, hRF, hFl⟩ := hS
  have HB4 := Lib.hid hb4
  have K4 := Lib.hid hR4
  have G4 := Lib.hid hG4
  have F4 := Lib.hid hF4
  have HRF := Lib.hid hRF
  have HFL := Lib.hid hFl
  have hcl : w4.cell? ⟨w2.heap.size, 4, none⟩ = some (.slice (some ⟨F, 0, none⟩) (n + o) (n + o)) := hR4.cell 4 _ rfl
  have hcp := run_copy_nums (A0 := n + o) (c := c) hF4 List.length_replicate (HNS.out.step hb4)
  have RO := Lib.hid (hF4.over (intV (ctx.take (n + o))) (by unfold intV; simp; omega))
  clear hb4 hR4 hG4 hF4 hRF hFl RR R3 R2 HB3 HB2 R0 HB
  obtain ⟨y, hy⟩ : ∃ y, Hid (intV (ctx.take (n + o)) = y) := ⟨_, Lib.hid rfl⟩
  rw [hy.out] at hcp RO
  go_upto_region 6 with fail
  obtain ⟨hins, hbw, hba, hb2, hok, hm, ha, hlen, hi, ho, hA⟩ := HF.out
  have hG : W.heap.size < w2.heap.size := HRW.out
  have hF0 : w2.heap.size < F := HRF.out
  have hinr := inF_range h
  have hq : n + o ≤ 1000 := HQ.out
  have e1 : w4.setCells F 0 y = w4.setCells F 0 y := rfl
  have hF5 : RowAt (w4.setCells F 0 y) F (intV (ctx ++ List.replicate o 0)) := by
    have h1 := RO.out
    rw [← hy.out] at h1 ⊢
    have e : intV (ctx.take (n + o)) ++ (List.replicate (n + o) (Value.int .i64 0)).drop (intV (ctx.take (n + o))).length = intV (ctx ++ List.replicate o 0) := by
      unfold intV
      rw [List.map_append, List.length_map, List.drop_replicate, List.map_replicate, List.length_take, List.take_of_length_le (by omega)]
      congr 2
      omega
    rw [e] at h1
    exact h1
  have hB5 : Below W.heap.size W (w4.setCells F 0 y) := below_setCells F (by omega) y 0 _ HB4.out
  have hR5 := K4.out.put_other F 0 y (by omega)
  have hG5 := G4.out.put_other F 0 y (by omega)
  have hFl5 : F < (w4.setCells F 0 y).heap.size := by rw [heap_setCells]; exact HFL.out
  generalize w4.setCells F 0 y = w5 at hF5 hB5 hR5 hG5 hFl5 ⊢
  clear e1
  obtain ⟨E, hE⟩ : ∃ E : Ev, E = ⟨w2.heap.size, F, h, .slice VA ds.length vc, B, m, d, xs, n, n + o, n + o, ba, bs, w⟩ := ⟨_, rfl⟩
  have hEo : EvOk E := by
    subst hE
    exact ⟨hins, ha, hba, Nat.le_trans hbw.size (Nat.le_of_lt hG), Nat.le_trans hbw.size (by show W.heap.size ≤ F; omega), by show w2.heap.size ≠ F; omega, by show (n : Int) = _; rw [← hlen]; exact hi, Nat.le_add_right _ _, hq, hm, Nat.le_refl _, by show n + o ≤ maxLen; unfold maxLen; omega⟩
  have hrun : RunAt E S (V.start h ctx ds) w5 := by
    subst hE
    refine ⟨?_, ?_, HST.out.step hB5, hbw.trans (hB5.mono hbw.size), Nat.le_trans hb2 hB5.size, ?_, hFl5, fun hs => ?_, fun hs => ?_, ⟨rfl, rfl, ?_, fun c hc => ?_, fun k m hm' => ?_, hok⟩⟩
    · rw [start_row _ _ rfl rfl rfl rfl]
      exact hR5
    · show RowAt w5 F (intV (ctx ++ List.replicate (Hk.outF h).toNat 0))
      rw [ho, Int.toNat_natCast]
      exact hF5
    · show w2.heap.size < w5.heap.size; omega
    · have := HST.out.lt hs
      have h' : w2.heap.size < W.heap.size := this
      omega
    · have := HST.out.lt hs
      have h' : F < W.heap.size := this
      omega
    · show (ctx ++ List.replicate (Hk.outF h).toNat 0).length = n + o
      rw [List.length_append, List.length_replicate, ho, Int.toNat_natCast, hlen]
    · have : c = V.Cell.no := List.eq_of_mem_replicate hc
      rw [this]; rfl
    · have := List.eq_of_mem_replicate hm'
      cases this
  have hte := toEnd_any hEo hrun (by show 0 ≤ 64; omega)
  have hno : ¬ Own E S W.heap.size := by
    subst hE
    rintro (hk | hk | hk)
    · have := HST.out.lt hk; omega
    · have h' : W.heap.size = w2.heap.size := hk
      omega
    · have h' : W.heap.size = F := hk
      omega
  have hER : E.R = w2.heap.size := by subst hE; rfl
  have hEn : E.n = n := by subst hE; rfl
  have hEo2 : ∀ k, Own E S k → S k ∨ W.heap.size ≤ k := fun k hk => by
    subst hE
    rcases hk with hk | hk | hk
    · exact Or.inl hk
    · have h' : k = w2.heap.size := hk
      exact Or.inr (by omega)
    · have h' : k = F := hk
      exact Or.inr (by omega)
  have hEs : E.ba = ba ∧ E.v = .slice VA ds.length vc ∧ E.bs = bs := by subst hE; exact ⟨rfl, rfl, rfl⟩
  rw [hER, show E.h = h by subst hE; rfl, show E.xs = xs by subst hE; rfl, show 65 - (V.start h ctx ds).steps = 65 from rfl] at hte
  obtain ⟨f, hf⟩ : ∃ f, V.run runK runHi h xs 65 (V.start h ctx ds) = f := ⟨_, rfl⟩
  rw [hf] at hte
  have HOUT : Hid (outOf runK runHi h ctx xs ds = ⟨f.how, f.why, f.verdict, f.s.steps, 0, f.s.ctx.drop n, f.s.ds⟩) := Lib.hid (by unfold outOf; rw [if_pos HOK.out, hf, hlen])
  have HTE := Lib.hid hte
  clear hf
  have HNO := Lib.hid hno
  have HB5 := Lib.hid hB5
  have G5 := Lib.hid hG5
  have HEN := Lib.hid hEn
  have HE2 := Lib.hid hEo2
  have HES := Lib.hid hEs
  have HLN := Lib.hid hlen
  have HRN := Lib.hid hrun
  clear hins hbw hba hb2 hok hm ha hlen hi ho hA hG hF0 hinr hq hF5 hB5 hR5 hG5 hFl5 hE hEo hrun hte hno hER hEn hEo2 hEs hcl hcp RO hy
  go_wp2_with (first
    | (go_at_call 29; (with_reducible refine (HTE.out).mono ?_); rintro e w6 ⟨O, k, oc, rfl, hnum, hfr, hto⟩; have HNM := Lib.hid hnum; have HFR := Lib.hid hfr; have HTO := Lib.hid hto; have G6 := Lib.hid (RunTo.row hto G5.out HNO.out); have HOL := Lib.hid (outl_one (f.how : Int) (f.why : Int) f.verdict (f.s.steps : Int) O k oc); clear hnum hfr hto)
    | ((with_reducible refine wpList_store_row outT G6.out rfl (vs := [.int .i64 (f.how : Int), .int .i64 (f.why : Int), .int .i64 f.verdict, .int .i64 (f.s.steps : Int), .slice O k oc]) rfl HOL.out rfl (.tmp 8) (.tmp 44) rfl ?_ ?_ ?_); (exact rfl); (exact rfl)))
  have hsz : W.heap.size < w5.heap.size := G5.out.lt
  have hbut := But.setCells W.heap.size [.int .i64 (f.how : Int), .int .i64 (f.why : Int), .int .i64 f.verdict, .int .i64 (f.s.steps : Int), .slice O k oc] 0 w6
  obtain ⟨S', h6, hb6, hs6⟩ := HTO.out
  have hnS : ¬ S' W.heap.size := fun hs => by
    rcases hs6 _ hs with e | e
    · have := HST.out.lt e; omega
    · omega
  have hst6 := h6.st
  rw [HES.out.1, HES.out.2.1, HES.out.2.2] at hst6
  have hnm := HNM.out
  rw [HEN.out] at hnm
  refine bodyPost_ret (results_row2 outT _ 8 9 rfl _ (G6.out.put _ rfl) rfl rfl rfl) rfl ?_
  rw [HOUT.out]
  refine ⟨⟨O, k, oc, rfl, hnm.keep hbut (fun b off e => by have := (HFR.out b off e).1; omega), fun b off e => ⟨by have := (HFR.out b off e).1; omega, Nat.lt_of_lt_of_le (HFR.out b off e).2 hbut.size⟩⟩, S', hst6.keep hbut (fun k e hs => hnS (e ▸ hs)), ((But.of_below (S := S) HB5.out).trans hb6 (fun x hx => HE2.out x hx)).trans hbut (fun x e => Or.inr (by rw [e]; exact Nat.le_refl _)), fun k hk => ?_⟩
  rcases hs6 k hk with e | e
  · exact Or.inl e
  · exact Or.inr (by omega)
end Go.Proofs.Ythngbakbiocadaa

/-
  The contract of vm.Run.
-/
namespace Go.Proofs.Ythngbakbiocadaa
set_option maxRecDepth 100000
open Go.ChangeShapes Go.WideShapes Go.ChangeAt Go.RowKit Go.Maps

theorem run_c : RunC runK runHi := fun h A n c ctx B m d xs ba v bs S ds w W hins hbw hba hn hA hst hb2 hok hd4 hm hn1 => by
  cases hgo : okRun h ctx xs with
  | true => exact run_good h A n c ctx B m d xs ba v bs S ds w W hins hbw hba hn hA hst hb2 hok hm hn1 hgo
  | false =>
    have ho : outOf runK runHi h ctx xs ds = ⟨0, 0, 0, 0, 22, [], ds⟩ := by unfold outOf; rw [if_neg (by rw [hgo]; decide)]
    rw [ho]
    refine (run_bad h A n c ctx v B m d xs W ⟨hins.len, (hins.step hbw).rows⟩ hm hn.len hgo).mono fun e w' hh => ⟨⟨none, 0, 0, hh.1, ⟨rfl, ⟨fun h0 => by simp at h0⟩⟩, fun b off e => by cases e⟩, StTo.self hst hh.2⟩
end Go.Proofs.Ythngbakbiocadaa
