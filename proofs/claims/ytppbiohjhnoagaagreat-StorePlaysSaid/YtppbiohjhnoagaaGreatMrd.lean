/-
  The contract of the document's own Open of a journal, where changes count.
-/
import Derived.Test.YtppbiohjhnoagaaGreatMrc
namespace Go.Proofs.YtppbiohjhnoagaaGreat
open Go.RowKit
open Dk (zeros zeros_length)
open Hd (Head rightB pageH)
open Jn (Chg quietH liveH)

section
variable {ops : Array Oper} {σ : Type} {S : σ → World → Prop}
set_option maxRecDepth 100000 in
theorem ord_buildRchg {o : Oper} {a : Act} (c : Chg) (hp : c.page.length = 64) (hw : Region.wanted o (yielded ops a.tmps) = true) (x y : Operand) (ho : o.op = .build 83 #[(0, x), (1, y)]) (hx : a.eval x = .int .i64 c.no) (hy : a.eval y = pageV c.page) : OrdAt Tryz.prog ops S o (chgV c) a :=
  ord_value hw fun s w _ => by
    have hb := built_rchg c.no c.page hp
    unfold execOp
    simp only [ho, List.map_toArray, List.map_cons, List.map_nil, hx, hy]
    have hr := run_build (P := Tryz.prog) w 83 #[(0, .int .i64 c.no), (1, pageV c.page)] _ hb
    simp only [Sem.run_bind, hr, Result.andThen_ok, Sem.run_pure]
    rfl
end
set_option maxRecDepth 100000 in
theorem OwnG.made {α : Type} (e : TypeId) (k : Nat) (f : α → List Value) (w : World) : OwnG e k f w w.heap.size ([] : List α) (.slice (some ⟨w.heap.size, 0, none⟩) 0 0) (w.alloc (.cells #[] e)) :=
  ⟨World.ownsRow_made w _ 0 (Nat.le_refl _) (by unfold maxLen; omega) (by simp), (Below.refl _ _).alloc (Nat.le_refl _) _, by simp⟩
/-- the kinds of worlds in the round: the new block isn't there, is empty, or has the change -/
structure GcS (w6 : World) (b1 o1 k : Nat) (p0 : List UInt8) (x : Chg) (cs : List Chg) (v2 : Value) (st : Option (Nat × Bool)) (W : World) : Prop where
  own : OwnG 83 65 chgVals w6 w6.heap.size (cs.take k) v2 W
  lt : b1 < w6.heap.size
  z0 : w6.rangeAt b1 o1 (byteVals p0)
  zk : w6.rangeAt b1 (o1 + (1 + k) * 64) (byteVals x.page)
  st : ∀ C b, st = some (C, b) → w6.heap.size ≤ C ∧ v2.ownBlock ≠ some C ∧ ChVar W C (if b = true then x else ⟨0, zeros⟩)
set_option maxRecDepth 100000 in
theorem range_below {n : Nat} {w W : World} {b o : Nat} {vs : List Value} (h : w.rangeAt b o vs) (hb : Below n w W) (hl : b < n) : W.rangeAt b o vs := fun i v hv => (hb.cell (p := ⟨b, o + i, none⟩) hl).trans (h i v hv)
set_option maxRecDepth 100000 in
theorem GcS.p0 {w6 : World} {b1 o1 k : Nat} {p0 : List UInt8} {x : Chg} {cs : List Chg} {v2 : Value} {st : Option (Nat × Bool)} {W : World} (h : GcS w6 b1 o1 k p0 x cs v2 st W) : W.rangeAt b1 o1 (byteVals p0) := range_below h.z0 h.own.bel h.lt
set_option maxRecDepth 100000 in
theorem GcS.pk {w6 : World} {b1 o1 k : Nat} {p0 : List UInt8} {x : Chg} {cs : List Chg} {v2 : Value} {st : Option (Nat × Bool)} {W : World} (h : GcS w6 b1 o1 k p0 x cs v2 st W) : W.rangeAt b1 (o1 + (1 + k) * 64) (byteVals x.page) := range_below h.zk h.own.bel h.lt
set_option maxRecDepth 100000 in
theorem GcS.le {w6 : World} {b1 o1 k : Nat} {p0 : List UInt8} {x : Chg} {cs : List Chg} {v2 : Value} {st : Option (Nat × Bool)} {W : World} (h : GcS w6 b1 o1 k p0 x cs v2 st W) : w6.heap.size ≤ W.heap.size := h.own.le
set_option maxRecDepth 100000 in
theorem GcS.var {w6 : World} {b1 o1 k : Nat} {p0 : List UInt8} {x : Chg} {cs : List Chg} {v2 : Value} {C : Nat} {W : World} (h : GcS w6 b1 o1 k p0 x cs v2 (some (C, false)) W) : ChVar W C ⟨0, zeros⟩ := by
  have := (h.st C false rfl).2.2
  simpa using this
set_option maxRecDepth 100000 in
theorem GcS.call {w6 : World} {b1 o1 k : Nat} {p0 : List UInt8} {x : Chg} {cs : List Chg} {v2 : Value} {st : Option (Nat × Bool)} {W W' : World} (h : GcS w6 b1 o1 k p0 x cs v2 st W) (hb : Below W.heap.size W W') : GcS w6 b1 o1 k p0 x cs v2 st W' :=
  ⟨h.own.call hb, h.lt, h.z0, h.zk, fun C b e => ⟨(h.st C b e).1, (h.st C b e).2.1, RowAt.below (h.st C b e).2.2 hb (RowAt.lt (h.st C b e).2.2)⟩⟩
set_option maxRecDepth 100000 in
theorem GcS.alloc {w6 : World} {b1 o1 k : Nat} {p0 : List UInt8} {x : Chg} {cs : List Chg} {v2 : Value} {W : World} (h : GcS w6 b1 o1 k p0 x cs v2 none W) : GcS w6 b1 o1 k p0 x cs v2 (some (W.heap.size, false)) (W.alloc (.cells chgZero 83)) :=
  ⟨h.own.call ((Below.refl _ _).alloc (Nat.le_refl _) _), h.lt, h.z0, h.zk, fun C b e => by
    injection e with e
    injection e with e1 e2
    subst e1; subst e2
    refine ⟨h.le, fun q => ?_, ?_⟩
    · have := (h.own.row.lt _ q).2
      omega
    · exact rowAt_new W (chgVals ⟨0, zeros⟩) 83⟩
set_option maxRecDepth 100000 in
theorem GcS.put {w6 : World} {b1 o1 k : Nat} {p0 : List UInt8} {x : Chg} {cs : List Chg} {v2 : Value} {C : Nat} {W : World} (h : GcS w6 b1 o1 k p0 x cs v2 (some (C, false)) W) (hp : x.page.length = 64) : GcS w6 b1 o1 k p0 x cs v2 (some (C, true)) (W.setCells C 0 (chgVals x)) := by
  obtain ⟨k1, k2, k3⟩ := h.st C false rfl
  have ho : Only [C] W (W.setCells C 0 (chgVals x)) := Only.setCells C (by simp) _ _ _ (Only.refl _ _)
  refine ⟨⟨h.own.row.kept (row := some C) ⟨ho.os, ho.tape, ho.output, ho.size, fun k hk hne => ho.block k hk (by simpa using fun e => hne (by rw [e]))⟩ ?_, below_setCells _ k1 _ _ _ h.own.bel, by rw [heap_setCells]; exact h.own.le⟩, h.lt, h.z0, h.zk, fun C' b e => ?_⟩
  · exact Or.inr k2
  · injection e with e
    injection e with e1 e2
    subst e1; subst e2
    refine ⟨k1, k2, ?_⟩
    have := RowAt.put k3 (chgVals x) (by rw [chgVals_length hp]; simp [chgVals, byteVals_length, zeros_length])
    simpa using this
set_option maxRecDepth 100000 in
theorem GcS.start {w6 : World} {b1 o1 k : Nat} {p0 : List UInt8} {x : Chg} {cs : List Chg} {v2 : Value} {W : World} (h : OwnG 83 65 chgVals w6 w6.heap.size (cs.take k) v2 W) (hz : b1 < w6.heap.size ∧ w6.rangeAt b1 o1 (byteVals p0) ∧ w6.rangeAt b1 (o1 + (1 + k) * 64) (byteVals x.page)) : GcS w6 b1 o1 k p0 x cs v2 none W.drew :=
  ⟨h.call (Below.refl _ _).drew, hz.1, hz.2.1, hz.2.2, fun C b e => by cases e⟩
set_option maxRecDepth 100000 in
set_option maxHeartbeats 8000000 in
theorem ropen_live {w : World} {r ra rb rc A Z : Nat} {s : Dk.St} {cs : List Chg} {x0 : Int} (h : RefAt w r ra rb rc s) (hup : s.down = false) (hA : A ≤ 900) (h3 : 3 ≤ Z) (h20 : Z ≤ 20) (hm : Jn.May A Z s.last.length cs) (hx0 : 0 ≤ x0) (hx1 : x0 < 4294967280)
    (hp : Dk.readP s (A : Int) = pageH (liveH x0 cs)) (hlaid : rdN s (A + 1) (1 + cs.length) = Jn.layN cs) (hE1 : (Jn.runW s cs).2 = 0) (hE2 : (Jn.runW (Jn.runW s cs).1 [⟨(A : Int), pageH (quietH (x0 + 1))⟩]).2 = 0) :
    Calls Tryz.prog 28 #[.pointer (some ⟨r, 0, none⟩), .int .i64 (A : Int), .int .i64 (Z : Int)] w (ROpened w r ra rb rc A Z (Jn.runs s [cs, [⟨(A : Int), pageH (quietH (x0 + 1))⟩]]) (x0 + 2)) := by
  rw [runs_ok hE1, runs_one]
  have hreg := hm.reg
  have hfit := hm.fit
  have c0 := h.c0
  have c4 := h.c4
  rw [hup] at c4
  have hsm := h.ok.small
  have HI1 := Lib.hid (roI_start A Z h 58)
  unfold jVals at HI1
  have HPL := Lib.hid (Dk.readP_len h.ok (A : Int))
  have HRD : Hid (∀ j q W, RoI w r ra rb rc j A Z q s W → Calls Tryz.prog 36 #[.pointer (some ⟨r, 0, none⟩), .int .i64 (A : Int)] W fun e w' => e = .returned (.tuple #[pageV (Dk.readP s (A : Int)), .int .i64 0]) ∧ Below W.heap.size W w') := Lib.hid (fun j q W hW => by
    have := rread_any hW.disk (A : Int)
    rw [Dk.reach_mk hup (Dk.has_mk (by omega))] at this
    exact this)
  have HRM : Hid (∀ W, Calls Tryz.prog 33 #[.int .i64 (Z : Int)] W fun e w' => e = .returned (.int .i64 ((Z - 2 : Nat) : Int)) ∧ W = w') := Lib.hid (fun W => by
    have := rroom_any (Z : Int) W
    rwa [rN_fit Z h3 h20 512 (by omega)] at this)
  have hsb := Jn.sumN_bd (Jn.layN cs)
  have hrt : rightB (liveH x0 cs) = true := Jn.live_right hx0 (by omega) hm.pos (by have := hm.few; omega)
  have HDE : Hid (∀ W, Calls Tryz.prog 49 #[pageV (Dk.readP s (A : Int))] W fun e w' => e = .returned (.tuple #[headV (liveH x0 cs), .bool true]) ∧ Below W.heap.size W w') := Lib.hid (fun W => by
    have hw := Hd.whole_page (liveH x0 cs) hrt hsb.1 hsb.2
    have := refRead_any (pageH (liveH x0 cs)) W (Hd.pageH_length _)
    unfold Hd.decH at this
    rw [hw, if_pos rfl, Hd.read_page _ hrt hsb.1 hsb.2] at this
    rw [hp]
    exact this)
  have HPG : Hid (∀ c ∈ cs, c.page.length = 64) := Lib.hid (fun c hc => (hm.val c hc).2)
  have HMO := Lib.hid (may_other hm)
  have HLP := Lib.hid (Jn.layN_pages HPG.out)
  have hpos := hm.pos
  have hfew := hm.few
  have es : (liveH x0 cs).seq = x0 := rfl
  have el : (liveH x0 cs).live = true := rfl
  have en : (liveH x0 cs).count = (cs.length : Int) := rfl
  have HSE : Hid ((liveH x0 cs).sum = Jn.sumN (Jn.layN cs)) := Lib.hid rfl
  have HNO : Hid (∀ (k : Nat) (x : Chg), cs[k]? = some x → Pg.getN ((Jn.layN cs).getD 0 []) ((k : Int) * 2) 2 = x.no ∧ (Jn.layN cs)[1 + k]? = some x.page) := Lib.hid (fun k x hx => by
    have hlt := (List.getElem?_eq_some_iff.1 hx).1
    refine ⟨?_, ?_⟩
    · have := Jn.lp_get cs hm.num hm.few cs.length (Nat.le_refl _) k hlt
      rw [List.getD_eq_getElem?_getD, hx] at this
      exact this
    · unfold Jn.layN
      rw [Nat.add_comm, List.getElem?_cons_succ, List.getElem?_map, hx]; rfl)
  have HRK : Hid (∀ (k : Nat) (p : List UInt8), (Jn.layN cs)[k]? = some p → Dk.readP s ((A : Int) + 1 + (k : Int)) = p) := Lib.hid (fun k p hk => by
    rw [← hlaid] at hk
    unfold rdN at hk
    have hlt : k < 1 + cs.length := by
      have := (List.getElem?_eq_some_iff.1 hk).1
      simpa using this
    rw [List.getElem?_map, List.getElem?_range hlt] at hk
    injection hk)
  have HLL0 := Lib.hid (Jn.layN_length cs)
  clear h hup hp hlaid hsb hrt hm
  generalize hln : s.last.length = N at c0 hreg hsm HMO
  generalize Dk.readP s (A : Int) = p at HPL HRD HDE
  generalize liveH x0 cs = hh at HDE es el en HSE
  obtain ⟨n, hn⟩ : ∃ n, cs.length = n := ⟨_, rfl⟩
  have HN := Lib.hid hn
  rw [hn] at hpos hfew en HLL0 hfit
  clear hn
  have HLL := HLL0
  generalize hR2 : Jn.runW (Jn.runW s cs).1 [⟨(A : Int), pageH (quietH (x0 + 1))⟩] = R at hE2
  have HR2 := Lib.hid hR2
  clear hR2
  have HE2 := Lib.hid hE2
  have HE1 := Lib.hid hE1
  have HLN := Lib.hid hln
  clear hE1 hE2 hln
  have hr1 : (((Z - 2 : Nat) : Int) == 0) = false := by rw [beq_eq_false_iff_ne]; omega
  have hr2 : ¬ ((A : Int) < 0) := by omega
  have hr3 : ¬ ((N : Int) ≤ (A : Int)) := by omega
  have hr4 : ¬ ((N : Int) - (A : Int) < (Z : Int)) := by omega
  have hw : IntKind.i64.wrap ((N : Int) - (A : Int)) = (N : Int) - (A : Int) := IntWalk.i64_in _ (by omega)
  go_enter Tryz.func28, Tryz.ntmps28
  go_wp2_with fail
  refine (HRM.out _).mono ?_
  rintro e w1 ⟨rfl, rfl⟩
  go_wp2_with fail
  clear hr1 hr2 hr3 hr4 hw c0 c4
  generalize w.alloc (.cells _ 58) = w1 at HI1 ⊢
  generalize hjj : w.heap.size = j at HI1 ⊢
  have HJJ := Lib.hid hjj
  clear hjj
  refine (HRD.out _ _ _ HI1.out).mono ?_
  rintro e w2 ⟨rfl, hb2⟩
  have HI2 := Lib.hid (HI1.out.call hb2)
  clear hb2 HI1 HRD
  go_wp2_with (first
    | ((with_reducible refine wpList_store_new rfl (.tmp 10) (.tmp 62) rfl rfl ?_ ?_ HPL.out ?_); (exact rfl); (exact rfl); intro w3 hP3 hB3 hz3; have HI3 := Lib.hid (HI2.out.call hB3); have HP3 := Lib.hid hP3; clear HI2 hP3 hB3 hz3; generalize w2.heap.size = C0 at HP3 ⊢)
    | (with_reducible refine wpList_load_page HP3.out rfl (.tmp 10) rfl rfl ?_))
  refine (HDE.out _).mono ?_
  rintro e w4 ⟨rfl, hB4⟩
  have HI4 := Lib.hid (HI3.out.call hB4)
  clear HI3 HP3 hB4 HDE
  go_wp2_with (first
    | ((with_reducible refine wpList_store_newhead refT (h := hh) rfl (.tmp 12) (.tmp 67) rfl rfl ?_ ?_ ?_); (exact rfl); (exact rfl); intro w5 hH hB5 hz5; have HI5 := Lib.hid (HI4.out.call hB5); have HH5 := Lib.hid hH; have HDN : Hid (w.heap.size ≤ w4.heap.size) := Lib.hid HI4.out.bel.size; have HDJ : Hid (j < w4.heap.size) := Lib.hid HI4.out.jr.lt; have g1 := hH.c1; have g2 := hH.c2; rw [el] at g1; rw [en] at g2; clear HI4 hH hB5 hz5; generalize w4.heap.size = D at g1 g2 HH5 HDN HDJ ⊢))
  clear g1 el
  have hnz : ¬ (((Z - 2 : Nat) : Int) < (n : Int)) := by omega
  go_quiet ((go_at_call 33; refine Calls.quiet_of_same ((HRM.out _).mono fun e w' ⟨h1, h2⟩ => ⟨h1, h2.symm⟩)))
  have HI6 := Lib.hid (HI5.out.call (W' := w5.drewN nq) ⟨rfl, rfl, rfl, Nat.le_refl _, fun _ _ => rfl⟩)
  have HH6 : Hid (HeadAt (w5.drewN nq) D hh) := Lib.hid (HH5.out.below (n := w5.heap.size) ⟨rfl, rfl, rfl, Nat.le_refl _, fun _ _ => rfl⟩ HH5.out.lt)
  clear HI5 HH5 g2 hnz HRM
  generalize w5.drewN nq = w5' at HI6 HH6 ⊢
  have g2 := HH6.out.c2
  rw [en] at g2
  have HLS : Hid (∀ W, Calls Tryz.prog 52 #[.int .i64 (n : Int)] W fun e w' => e = .returned (.int .i64 1) ∧ W = w') := Lib.hid (fun W => by
    have := rlists_any n (by omega) W
    rw [listN_one hpos hfew] at this
    exact this)
  go_wp2_with fail
  refine (HLS.out _).mono ?_
  rintro e w5b ⟨rfl, rfl⟩
  clear HLS
  have HOP0 := Lib.hid (OwnG.made 38 64 byteVals w5')
  go_wp2_with fail
  go_loopw [15, 16] (fun v i wr => ∃ (P : Option Addr) (c k : Nat), k ≤ 1 + n ∧ v = .slice P k c ∧ i = .int .i64 k ∧ OwnG 38 64 byteVals w5' w5'.heap.size ((Jn.layN cs).take k) (.slice P k c) wr) (fun _ i _ => 1 + n - (intOf i).toNat)
  case atStart => exact ⟨_, 0, 0, Nat.zero_le _, rfl, rfl, HOP0.out⟩
  case round =>
    obtain ⟨P1, c1, k, hk, rfl, rfl, hown⟩ := hrel
    have HOW := Lib.hid hown
    have HI7 := Lib.hid (HI6.out.call hown.bel)
    have HH7 := Lib.hid (HH6.out.below hown.bel HH6.out.lt)
    clear hown HOP0 g2
    have g2 := HH7.out.c2
    rw [en] at g2
    by_cases hlt : k < 1 + n
    · obtain ⟨q, hq⟩ : ∃ q, (Jn.layN cs)[k]? = some q := ⟨_, List.getElem?_eq_getElem (by rw [HLL.out]; exact hlt)⟩
      have HQ := Lib.hid hq
      have HQL := Lib.hid (HLP.out q (List.mem_of_getElem? hq))
      have HTK := Lib.hid (take_more _ k q hq)
      have HTL : Hid (((Jn.layN cs).take k).length = k) := Lib.hid (by rw [List.length_take, HLL.out]; omega)
      have HRD := Lib.hid (rread_any HI7.out.disk ((A : Int) + 1 + (k : Int)))
      rw [HRK.out k q hq] at HRD
      clear hq
      generalize Dk.reachE s ((A : Int) + 1 + (k : Int)) = E at HRD
      have hlt' : (k : Int) < 1 + (n : Int) := by omega
      have hw1 : IntKind.i64.wrap ((A : Int) + 1) = (A : Int) + 1 := IntWalk.i64_in _ (by omega)
      have hw2 : IntKind.i64.wrap ((A : Int) + 1 + (k : Int)) = (A : Int) + 1 + (k : Int) := IntWalk.i64_in _ (by omega)
      have hw3 : IntKind.i64.wrap (1 + (n : Int)) = 1 + (n : Int) := IntWalk.i64_in _ (by omega)
      go_wp2_with fail
      refine HRD.out.mono ?_
      rintro e w6 ⟨rfl, hb6⟩
      have HO6 := Lib.hid (HOW.out.call hb6)
      clear hb6 HRD HI7 HH7 g2 HOW
      go_wp2_with (first
        | ((with_reducible refine wpList_store_new rfl (.tmp 17) (.tmp 110) rfl rfl ?_ ?_ HQL.out ?_); (exact rfl); (exact rfl); intro w7 hP7 hB7 hz7; have HO7 := Lib.hid (HO6.out.call hB7); have HP7 := Lib.hid hP7; clear HO6 hP7 hB7 hz7; generalize w6.heap.size = C1 at HP7 ⊢)
        | (with_reducible refine wpList_load_page HP7.out rfl (.tmp 17) rfl rfl ?_)
        | ((with_reducible refine wpList_buildPage HQL.out rfl (.tmp 113) rfl ?_ ?_); (exact rfl); have HO8 := Lib.hid (HO7.out.call (W' := w7.alloc (.cells (byteVals q).toArray 38)) ((Below.refl _ _).alloc (Nat.le_refl _) _)); have HR8 : Hid ((w7.alloc (.cells (byteVals q).toArray 38)).rangeAt w7.heap.size 0 (byteVals q)) := Lib.hid (rowAt_new w7 (byteVals q) 38).range; clear HO7 HP7; generalize w7.alloc (.cells (byteVals q).toArray 38) = w8 at HO8 HR8 ⊢; generalize w7.heap.size = C2 at HR8 ⊢)
        | ((with_reducible refine wpList_app_page HO8.out HQL.out (by rw [HTL.out]; omega) HR8.out rfl (.tmp 112) (.tmp 114) rfl ?_ ?_ ?_); (exact rfl); (exact rfl); intro P' c' w9 ho9; have HO9 := Lib.hid ho9; rw [← HTK.out, HTL.out] at HO9; rw [HTL.out]; clear ho9 HO8 HR8))
      go_roundw
      case rel => exact ⟨_, _, k + 1, by omega, rfl, by go_num, HO9.out⟩
      case measure => simp [intOf]; omega
    · obtain rfl : k = 1 + n := by omega
      have hkk : ¬ (1 + (n : Int) < 1 + (n : Int)) := by omega
      have hw3 : IntKind.i64.wrap (1 + (n : Int)) = 1 + (n : Int) := IntWalk.i64_in _ (by omega)
      have HP1 : Hid (PgAt wr P1 [j] (Jn.layN cs)) := Lib.hid (by
        have := HOW.out
        rw [List.take_of_length_le (by rw [HLL.out]; exact Nat.le_refl _)] at this
        exact this.slice (by rw [HLL.out]) (fun p hp => by rw [byteVals_length]; exact HLP.out p hp) (by have := HI6.out.jr.lt; simpa using this))
      clear HOW HI6 HH6
      rename World => w6
      have HOC0 := Lib.hid (OwnG.made 83 65 chgVals w6)
      go_wp2_with fail
      clear g2
      go_loopw [19, 20] (fun v i wr => ∃ (P : Option Addr) (c k : Nat), k ≤ n ∧ v = .slice P k c ∧ i = .int .i64 k ∧ OwnG 83 65 chgVals w6 w6.heap.size (cs.take k) (.slice P k c) wr) (fun _ i _ => n - (intOf i).toNat)
      case atStart => exact ⟨_, 0, 0, Nat.zero_le _, rfl, rfl, HOC0.out⟩
      case round =>
        obtain ⟨P2, c2, k, hk, rfl, rfl, hown⟩ := hrel
        have HOC := Lib.hid hown
        have HI8 := Lib.hid (HI7.out.call hown.bel)
        have HH8 := Lib.hid (HH7.out.below hown.bel HH7.out.lt)
        clear hown HOC0
        have g2 := HH8.out.c2
        rw [en] at g2
        by_cases hlt : k < n
        · obtain ⟨x, hx⟩ : ∃ x, cs[k]? = some x := ⟨_, List.getElem?_eq_getElem (by rw [HN.out]; exact hlt)⟩
          have HX := Lib.hid hx
          have HXL := Lib.hid (HPG.out x (List.mem_of_getElem? hx))
          have HXM := Lib.hid (HMO.out x (List.mem_of_getElem? hx)).1
          have HTK := Lib.hid (take_more _ k x hx)
          have HTL : Hid ((cs.take k).length = k) := Lib.hid (by rw [List.length_take, HN.out]; omega)
          obtain ⟨hno, hpk⟩ := HNO.out k x hx
          have HNOK := Lib.hid hno
          have HPKK := Lib.hid hpk
          clear hno hpk hx
          have hlt' : (k : Int) < (n : Int) := by omega
          obtain ⟨b1, o1, rfl, hb1, _, hz1⟩ := HP1.out (by rw [HLL.out]; omega)
          obtain ⟨p0, hp0⟩ : ∃ p0, (Jn.layN cs)[0]? = some p0 := ⟨_, List.getElem?_eq_getElem (by rw [HLL.out]; omega)⟩
          have HPK : Hid (b1 < w6.heap.size ∧ w6.rangeAt b1 o1 (byteVals p0) ∧ w6.rangeAt b1 (o1 + (1 + k) * 64) (byteVals x.page)) := Lib.hid ⟨hb1, by have := hz1 0 p0 hp0; rwa [Nat.zero_mul, Nat.add_zero] at this, hz1 (1 + k) x.page HPKK.out⟩
          have HP0L := Lib.hid (HLP.out p0 (List.mem_of_getElem? hp0))
          have HGET : Hid (∀ W, Calls Tryz.prog 53 #[pageV p0, .int .i64 ((k : Int) * 2), .int .i64 2] W fun e w' => e = .returned (.int .i64 x.no) ∧ Below W.heap.size W w') := Lib.hid (fun W => by
            have := refGet_any p0 ((k : Int) * 2) 2 W HP0L.out
            have e0 : (Jn.layN cs).getD 0 [] = p0 := by rw [List.getD_eq_getElem?_getD, hp0]; rfl
            rw [← e0] at this
            rw [HNOK.out] at this
            rw [← e0]
            exact this)
          clear hb1 hz1 hp0
          have d6 : ¬ (1 + (n : Int) ≤ 0) := by omega
          have d0 : IntKind.i64.wrap 0 = 0 := IntWalk.i64_in _ (by omega)
          have d1 : (k : Int) / 32 = 0 := by omega
          have d2 : (k : Int).tdiv 32 = 0 := by rw [Int.tdiv_eq_ediv_of_nonneg (by omega)]; exact d1
          have d3 : (k : Int).tmod 32 = (k : Int) := Int.tmod_eq_of_lt (by omega) (by omega)
          have d4 : IntKind.i64.wrap ((k : Int) * 2) = (k : Int) * 2 := IntWalk.i64_in _ (by omega)
          have d5 : IntKind.i64.wrap (1 + (k : Int)) = 1 + (k : Int) := IntWalk.i64_in _ (by omega)
          have hkn : (1 : Int) + (k : Int) < 1 + (n : Int) := by omega
          have hk0 : (0 : Int) ≤ 1 + (k : Int) := by omega
          have hkt : (1 + (k : Int)).toNat = 1 + k := by omega
          go_wp2_with fail
          refine wp_region_lin (GcS w6 b1 o1 k p0 x cs (.slice P2 k c2)) (fun i => i == 16 || i == 17) (fun i => [.slice (some ⟨b1, o1, none⟩) (1 + n) c1, .int .i64 (k : Int), .int .i64 0, .pointer (some ⟨b1, o1, none⟩), pageV p0, .int .i64 (k : Int), .int .i64 (k : Int), .int .i64 ((k : Int) * 2), .int .i64 x.no, .slice (some ⟨b1, o1, none⟩) (1 + n) c1, .int .i64 1, .int .i64 (k : Int), .int .i64 (1 + (k : Int)), .pointer (some ⟨b1, o1 + (1 + k) * 64, none⟩), pageV x.page, chgV x, undef, undef].getD i undef) (none) (by kernel_rfl) (by kernel_rfl) (GcS.start HOC.out HPK.out) ?_
          refine lin_step (i := 0) (d := some 123) (v := .slice (some ⟨b1, o1, none⟩) (1 + n) c1) rfl rfl (by kernel_rfl) (by kernel_rfl) rfl rfl (ord_value (by kernel_rfl) ?_) ?_
          · intro _ _ _; go_simp
          (try simp only [Act.put, List.setIfInBounds_toArray, List.set_cons_zero, List.set_cons_succ])
          refine lin_step (i := 1) (d := some 124) (v := .int .i64 (k : Int)) rfl rfl (by kernel_rfl) (by kernel_rfl) rfl rfl (ord_value (by kernel_rfl) ?_) ?_
          · intro _ _ _; go_simp
          (try simp only [Act.put, List.setIfInBounds_toArray, List.set_cons_zero, List.set_cons_succ])
          refine lin_step (i := 2) (d := some 125) (v := .int .i64 0) rfl rfl (by kernel_rfl) (by kernel_rfl) rfl rfl (ord_value (by kernel_rfl) ?_) ?_
          · intro _ _ _; go_simp
          (try simp only [Act.put, List.setIfInBounds_toArray, List.set_cons_zero, List.set_cons_succ])
          refine lin_step (i := 3) (d := some 126) (v := .pointer (some ⟨b1, o1, none⟩)) rfl rfl (by kernel_rfl) (by kernel_rfl) rfl rfl (ord_value (by kernel_rfl) ?_) ?_
          · intro _ _ _; go_simp
          (try simp only [Act.put, List.setIfInBounds_toArray, List.set_cons_zero, List.set_cons_succ])
          refine lin_step (i := 4) (d := some 127) (v := pageV p0) rfl rfl (by kernel_rfl) (by kernel_rfl) rfl rfl (ord_page_at (by kernel_rfl) (.tmp 126) rfl rfl HP0L.out (fun _ _ hS => GcS.p0 hS)) ?_
          (try simp only [Act.put, List.setIfInBounds_toArray, List.set_cons_zero, List.set_cons_succ])
          refine lin_step (i := 5) (d := some 128) (v := .int .i64 (k : Int)) rfl rfl (by kernel_rfl) (by kernel_rfl) rfl rfl (ord_value (by kernel_rfl) ?_) ?_
          · intro _ _ _; go_simp
          (try simp only [Act.put, List.setIfInBounds_toArray, List.set_cons_zero, List.set_cons_succ])
          refine lin_step (i := 6) (d := some 129) (v := .int .i64 (k : Int)) rfl rfl (by kernel_rfl) (by kernel_rfl) rfl rfl (ord_value (by kernel_rfl) ?_) ?_
          · intro _ _ _; go_simp
          (try simp only [Act.put, List.setIfInBounds_toArray, List.set_cons_zero, List.set_cons_succ])
          refine lin_step (i := 7) (d := some 130) (v := .int .i64 ((k : Int) * 2)) rfl rfl (by kernel_rfl) (by kernel_rfl) rfl rfl (ord_value (by kernel_rfl) ?_) ?_
          · intro _ _ _; go_simp
          (try simp only [Act.put, List.setIfInBounds_toArray, List.set_cons_zero, List.set_cons_succ])
          refine lin_step (i := 8) (d := some 131) (v := .int .i64 x.no) rfl rfl (by kernel_rfl) (by kernel_rfl) rfl rfl (ord_call (f := 53) (args := #[pageV p0, .int .i64 ((k : Int) * 2), .int .i64 2]) (by kernel_rfl) ?_ (fun _ _ hS => (HGET.out _).mono fun _ _ ⟨he, hb⟩ => ⟨he, GcS.call hS hb⟩)) ?_
          · intro _; go_simp
          (try simp only [Act.put, List.setIfInBounds_toArray, List.set_cons_zero, List.set_cons_succ])
          refine lin_step (i := 9) (d := some 132) (v := .slice (some ⟨b1, o1, none⟩) (1 + n) c1) rfl rfl (by kernel_rfl) (by kernel_rfl) rfl rfl (ord_value (by kernel_rfl) ?_) ?_
          · intro _ _ _; go_simp
          (try simp only [Act.put, List.setIfInBounds_toArray, List.set_cons_zero, List.set_cons_succ])
          refine lin_step (i := 10) (d := some 133) (v := .int .i64 1) rfl rfl (by kernel_rfl) (by kernel_rfl) rfl rfl (ord_value (by kernel_rfl) ?_) ?_
          · intro _ _ _; go_simp
          (try simp only [Act.put, List.setIfInBounds_toArray, List.set_cons_zero, List.set_cons_succ])
          refine lin_step (i := 11) (d := some 134) (v := .int .i64 (k : Int)) rfl rfl (by kernel_rfl) (by kernel_rfl) rfl rfl (ord_value (by kernel_rfl) ?_) ?_
          · intro _ _ _; go_simp
          (try simp only [Act.put, List.setIfInBounds_toArray, List.set_cons_zero, List.set_cons_succ])
          refine lin_step (i := 12) (d := some 135) (v := .int .i64 (1 + (k : Int))) rfl rfl (by kernel_rfl) (by kernel_rfl) rfl rfl (ord_value (by kernel_rfl) ?_) ?_
          · intro _ _ _; go_simp
          (try simp only [Act.put, List.setIfInBounds_toArray, List.set_cons_zero, List.set_cons_succ])
          refine lin_step (i := 13) (d := some 136) (v := .pointer (some ⟨b1, o1 + (1 + k) * 64, none⟩)) rfl rfl (by kernel_rfl) (by kernel_rfl) rfl rfl (ord_value (by kernel_rfl) ?_) ?_
          · intro _ _ _; go_simp
          (try simp only [Act.put, List.setIfInBounds_toArray, List.set_cons_zero, List.set_cons_succ])
          refine lin_step (i := 14) (d := some 137) (v := pageV x.page) rfl rfl (by kernel_rfl) (by kernel_rfl) rfl rfl (ord_page_at (by kernel_rfl) (.tmp 136) rfl rfl HXL.out (fun _ _ hS => GcS.pk hS)) ?_
          (try simp only [Act.put, List.setIfInBounds_toArray, List.set_cons_zero, List.set_cons_succ])
          refine lin_step (i := 15) (d := some 138) (v := chgV x) rfl rfl (by kernel_rfl) (by kernel_rfl) rfl rfl (ord_buildRchg x HXL.out (by kernel_rfl) (.tmp 131) (.tmp 137) rfl rfl rfl) ?_
          (try simp only [Act.put, List.setIfInBounds_toArray, List.set_cons_zero, List.set_cons_succ])
          refine lin_turn (i := 16) (d := some 21) (fun u s => ∃ g, w6.heap.size ≤ g ∧ u = .pointer (some ⟨g, 0, none⟩) ∧ s = some (g, false)) rfl rfl (by kernel_rfl) (by kernel_rfl) rfl (by kernel_rfl) (⟨_, _, w6.heap.size, Nat.le_refl _, rfl, rfl⟩) (by kernel_rfl) (fun W hS => gives_to (v := .pointer (some ⟨W.heap.size, 0, none⟩)) (w' := W.alloc (.cells chgZero 83)) (by have hz := zeroRchg; go_simp) ⟨some (W.heap.size, false), ⟨W.heap.size, hS.le, rfl, rfl⟩, GcS.alloc hS⟩) ?_
          rintro _ _ ⟨C, hC, rfl, rfl⟩
          (try simp only [Act.put, List.setIfInBounds_toArray, List.set_cons_zero, List.set_cons_succ])
          refine lin_turn (i := 17) (d := none) (fun u s => u = undef ∧ s = some (C, true)) rfl rfl (by kernel_rfl) (by kernel_rfl) rfl (by kernel_rfl) (⟨_, _, rfl, rfl⟩) (by kernel_rfl) (fun W hS => gives_store_rchg hS.var zeros_length HXL.out (.tmp 21) (.tmp 138) rfl rfl rfl ⟨some (C, true), ⟨rfl, rfl⟩, GcS.put hS HXL.out⟩) ?_
          rintro _ _ ⟨rfl, rfl⟩
          (try simp only [Act.put, List.setIfInBounds_toArray, List.set_cons_zero, List.set_cons_succ])
          refine lin_done (by kernel_rfl) ?_
          intro w9 hS9
          have HV9 : Hid (ChVar w9 C x) := Lib.hid (by simpa using (hS9.st C true rfl).2.2)
          have HO9 := Lib.hid hS9.own
          have HI9 := Lib.hid (HI7.out.call hS9.own.bel)
          have hv9 := HV9.out.no
          clear hS9 hC HOC HI8 HH8 g2 HGET d0 d1 d2 d3 d4 d5 d6 hkn hk0 hkt HPK HNOK HPKK
          go_wp2_with fail
          have HMY := Lib.hid (rmay_any HI9.out.disk HI9.out.jr hA (by omega) x.no)
          rw [HLN.out, HXM.out] at HMY
          refine HMY.out.mono ?_
          rintro e w10 ⟨rfl, hb10⟩
          have HV10 := Lib.hid (RowAt.below HV9.out hb10 (RowAt.lt HV9.out))
          have HO10 := Lib.hid (HO9.out.call hb10)
          clear hb10 HV9 HO9 HI9 hv9 HMY
          go_wp2_with (first
            | ((with_reducible refine wpList_load_rchg (RowAt.range HV10.out) HXL.out rfl (.tmp 21) rfl ?_ ?_); (exact rfl))
            | ((with_reducible refine wpList_buildRchg1 x HXL.out (.tmp 145) rfl rfl rfl ?_); have HO11 := Lib.hid (HO10.out.call (W' := w10.alloc (.cells (chgVals x).toArray 83)) ((Below.refl _ _).alloc (Nat.le_refl _) _)); have HR11 : Hid ((w10.alloc (.cells (chgVals x).toArray 83)).rangeAt w10.heap.size 0 (chgVals x)) := Lib.hid (rowAt_new w10 (chgVals x) 83).range; clear HO10 HV10; generalize w10.alloc (.cells (chgVals x).toArray 83) = w11 at HO11 HR11 ⊢; generalize w10.heap.size = C2 at HR11 ⊢)
            | ((with_reducible refine wpList_app_rchg HO11.out HXL.out (by rw [HTL.out]; omega) HR11.out rfl (.tmp 144) (.tmp 146) rfl ?_ ?_ ?_); (exact rfl); (exact rfl); intro P' c' w12 ho12; have HO12 := Lib.hid ho12; rw [← HTK.out, HTL.out] at HO12; rw [HTL.out]; clear ho12 HO11 HR11))
          go_roundw
          case rel => exact ⟨_, _, k + 1, by omega, rfl, by go_num, HO12.out⟩
          case measure => simp [intOf]; omega
        · obtain rfl : n = k := by omega
          have hkk2 : ¬ ((n : Int) < (n : Int)) := by omega
          have HC7 : Hid (ChAt wr P2 [r, ra, rb, rc, j] cs) := Lib.hid (by
            have := HOC.out
            rw [List.take_of_length_le (by rw [HN.out]; exact Nat.le_refl _)] at this
            exact this.slice (by rw [HN.out]) (fun p hp => chgVals_length (HPG.out p hp)) (by have := HI7.out.olds; have := HI7.out.bel.size; have := HI7.out.jr.lt; simp; omega))
          have HP7 : Hid (PgAt wr P1 [j] (Jn.layN cs)) := Lib.hid (HP1.out.below HOC.out.bel)
          have HOS : Hid (Only [j] wr (wr.setCell ⟨j, 3, none⟩ (.int .i64 (x0 + 1)))) := Lib.hid ((Only.refl [j] wr).setCell (p := ⟨j, 3, none⟩) (by simp) _)
          have HI9 := Lib.hid (HI8.out.seq (x0 + 1))
          have HH9 : Hid (HeadAt (wr.setCell ⟨j, 3, none⟩ (.int .i64 (x0 + 1))) D hh) := Lib.hid (RowAt.only HH8.out HOS.out (by have := HDJ.out; simp; omega))
          have HC9 := Lib.hid (HC7.out.only HOS.out (by simp))
          have HP9 := Lib.hid (HP7.out.only HOS.out (by simp))
          have g0 := HH8.out.c0
          rw [es] at g0
          have f3 := HI8.out.jr.f 3 (by omega)
          have c3 := HI8.out.jr.c3
          have hwx : IntKind.i64.wrap (x0 + 1) = x0 + 1 := IntWalk.i64_in _ (by omega)
          have HDF : Hid (D ∉ [r, ra, rb, rc]) := Lib.hid (by have := HI8.out.olds; have := HDN.out; simp; omega)
          have HDF2 : Hid (D ∉ [r, ra, rb, rc, j]) := Lib.hid (by have := HI8.out.olds; have := HDN.out; have := HDJ.out; simp; omega)
          have HNW := Lib.hid HI8.out.new
          have HFR := Lib.hid HI8.out.far
          clear HOS HI8 HH8 HC7 HP7 HOC HP1 HI7 HH7
          go_wp2_with fail
          clear g0 f3 c3 g2 hwx
          generalize wr.setCell ⟨j, 3, none⟩ (.int .i64 (x0 + 1)) = w7 at HI9 HH9 HC9 HP9 ⊢
          obtain ⟨sm, hsm2⟩ : ∃ sm, hh.sum = sm := ⟨_, rfl⟩
          have HSM : Hid (∀ W, HeadAt W D hh → W.cell? ⟨D, 3, none⟩ = some (.int .u32 sm)) := Lib.hid (fun W hW => by rw [← hsm2]; exact hW.c3)
          have HSS : Hid (Jn.sumN (Jn.layN cs) = sm) := Lib.hid (by rw [← HSE.out]; exact hsm2)
          have HHM : Hid (∀ W, RefAt W r ra rb rc s → JAt W j r A Z (x0 + 1) false → ChAt W P2 [r, ra, rb, rc, j] cs → Calls Tryz.prog 56 #[.pointer (some ⟨j, 0, none⟩), .slice P2 n c2] W fun e w' => e = .returned (.bool true) ∧ RefAt w' r ra rb rc (Jn.runW s cs).1 ∧ JAt w' j r A Z (x0 + 1) false ∧ Only [r, ra, rb, rc] W w') := Lib.hid (fun W h1 h2 h3 => by
            have := rhome_any h1 h2 HFR.out P2 c2 cs (h3.mono (by simp)) HPG.out (by rw [HN.out]; omega)
            rw [HN.out, decide_eq_true HE1.out] at this
            exact this)
          have HMK : Hid (∀ W, JAt W j r A Z (x0 + 1) false → RefAt W r ra rb rc (Jn.runW s cs).1 → Calls Tryz.prog 51 #[.pointer (some ⟨j, 0, none⟩), .bool false, .int .i64 0, .int .u32 0] W fun e w' => e = .returned (.bool true) ∧ RefAt w' r ra rb rc R.1 ∧ JAt w' j r A Z (x0 + 2) false ∧ Only [r, ra, rb, rc, j] W w') := Lib.hid (fun W h1 h2 => by
            have := rmark_any h1 h2 HFR.out hA false 0 0 (Jn.quietH_right (by omega) (by omega)) (Int.le_refl _) (by omega) (by omega) (by omega)
            have e : Jn.runW (Jn.runW s cs).1 [⟨(A : Int), pageH ⟨x0 + 1, false, 0, 0⟩⟩] = R := HR2.out
            rw [e, decide_eq_true HE2.out] at this
            refine this.mono ?_
            rintro e w' ⟨k1, k2, ⟨q', k3, k4⟩, k5⟩
            have e2 := k4 HE2.out
            rw [show x0 + 1 + 1 = x0 + 2 by omega] at e2
            subst e2
            exact ⟨k1, k2, k3, k5⟩)
          clear HR2 hsm2
          refine wp_region_noPanic ?_
          refine wp_region_held_drew (S := fun W => W.cell? ⟨D, 3, none⟩ = some (.int .u32 sm)) (by kernel_rfl) (HSM.out _ HH9.out.drew) (fun hHeld => ?_)
          have HI8 := Lib.hid (HI9.out.call (Below.refl _ _).drew)
          have HH8 := Lib.hid HH9.out.drew
          have HC8 := Lib.hid (HC9.out.below (Below.refl _ _).drew)
          have HTO := Lib.hid (rtotal_any P1 c1 (Jn.layN cs) w7.drew ((HP9.out.below (Below.refl _ _).drew).mono (by simp)) HLP.out (by rw [HLL.out]; omega))
          rw [HLL.out, HSS.out] at HTO
          clear HI9 HH9 HC9 HP9
          generalize w7.drew = w8 at HI8 HH8 HC8 HTO hHeld ⊢
          refine take_at (i := 0) (d := some 154) (v := .slice P1 (1 + n) c1) rfl rfl (by kernel_rfl) (by kernel_rfl) (by kernel_rfl) (fun _ _ _ h => h) (Or.inl ⟨by kernel_rfl, ?_⟩) hHeld ?_
          · intro w hSw; go_simp
          (try simp only [Act.put, List.setIfInBounds_toArray, List.set_cons_zero, List.set_cons_succ])
          refine take_at (i := 2) (d := some 156) (v := .pointer (some ⟨D, 3, none⟩)) rfl rfl (by kernel_rfl) (by kernel_rfl) (by kernel_rfl) (fun _ _ _ h => h) (Or.inl ⟨by kernel_rfl, ?_⟩) hHeld ?_
          · intro w hSw; go_simp
          (try simp only [Act.put, List.setIfInBounds_toArray, List.set_cons_zero, List.set_cons_succ])
          refine take_at (i := 3) (d := some 157) (v := .int .u32 sm) rfl rfl (by kernel_rfl) (by kernel_rfl) (by kernel_rfl) (fun _ _ _ h => h) (Or.inl ⟨by kernel_rfl, ?_⟩) hHeld ?_
          · intro w hSw; go_simp
          (try simp only [Act.put, List.setIfInBounds_toArray, List.set_cons_zero, List.set_cons_succ])
          refine wpAnyH_ready (rs := [1]) (by kernel_rfl) (by simp) ?_
          refine AllReadyH.cons rfl (fun K hK => ?_) AllReadyH.nil
          go_simp
          (go_at_call 55; refine HTO.out.mono ?_; rintro e w9 ⟨rfl, hb9⟩; have HI10 := Lib.hid (HI8.out.call hb9); have HH10 := Lib.hid (HH8.out.below hb9 HH8.out.lt); have HC10 := Lib.hid (HC8.out.below hb9); clear hb9 HI8 HH8 HC8 HTO)
          (try go_wp2_with fail)
          refine hK.out _ _ (HSM.out _ HH10.out) (fun hHeld => ?_)
          clear hK K
          (try simp only [Act.put, List.setIfInBounds_toArray, List.set_cons_zero, List.set_cons_succ])
          refine take_at (i := 4) (d := some 158) (v := .bool false) rfl rfl (by kernel_rfl) (by kernel_rfl) (by kernel_rfl) (fun _ _ _ h => h) (Or.inl ⟨by kernel_rfl, ?_⟩) hHeld ?_
          · intro w hSw; go_simp
          (try simp only [Act.put, List.setIfInBounds_toArray, List.set_cons_zero, List.set_cons_succ])
          refine take_at (i := 5) (d := some 159) (v := .bool false) rfl rfl (by kernel_rfl) (by kernel_rfl) (by kernel_rfl) (fun _ _ _ h => h) (Or.inl ⟨by kernel_rfl, ?_⟩) hHeld ?_
          · intro w hSw; go_simp
          (try simp only [Act.put, List.setIfInBounds_toArray, List.set_cons_zero, List.set_cons_succ])
          refine take_at (i := 6) (d := some 160) (v := .pointer (some ⟨j, 0, none⟩)) rfl rfl (by kernel_rfl) (by kernel_rfl) (by kernel_rfl) (fun _ _ _ h => h) (Or.inl ⟨by kernel_rfl, ?_⟩) hHeld ?_
          · intro w hSw; go_simp
          (try simp only [Act.put, List.setIfInBounds_toArray, List.set_cons_zero, List.set_cons_succ])
          refine take_at (i := 7) (d := some 161) (v := .slice P2 n c2) rfl rfl (by kernel_rfl) (by kernel_rfl) (by kernel_rfl) (fun _ _ _ h => h) (Or.inl ⟨by kernel_rfl, ?_⟩) hHeld ?_
          · intro w hSw; go_simp
          (try simp only [Act.put, List.setIfInBounds_toArray, List.set_cons_zero, List.set_cons_succ])
          refine wpAnyH_ready (rs := [8]) (by kernel_rfl) (by simp) ?_
          refine AllReadyH.cons rfl (fun K hK => ?_) AllReadyH.nil
          go_simp
          (go_at_call 56; refine (HHM.out _ HI10.out.disk HI10.out.jr HC10.out).mono ?_; rintro e w10 ⟨rfl, hd10, hj10, ho10⟩; have HD10 := Lib.hid hd10; have HJ10 := Lib.hid hj10; have HH11 : Hid (HeadAt w10 D hh) := Lib.hid (RowAt.only HH10.out ho10 HDF.out); have HO10 : Hid (Only [r, ra, rb, rc] w w10) := Lib.hid ((Only.below (l := [r, ra, rb, rc]) HI10.out.bel).trans ho10); clear hd10 hj10 ho10)
          (try go_wp2_with fail)
          refine hK.out _ _ (HSM.out _ HH11.out) (fun hHeld => ?_)
          clear hK K
          (try simp only [Act.put, List.setIfInBounds_toArray, List.set_cons_zero, List.set_cons_succ])
          refine take_at (i := 9) (d := some 163) (v := .bool false) rfl rfl (by kernel_rfl) (by kernel_rfl) (by kernel_rfl) (fun _ _ _ h => h) (Or.inl ⟨by kernel_rfl, ?_⟩) hHeld ?_
          · intro w hSw; go_simp
          (try simp only [Act.put, List.setIfInBounds_toArray, List.set_cons_zero, List.set_cons_succ])
          refine take_at (i := 10) (d := some 164) (v := .bool false) rfl rfl (by kernel_rfl) (by kernel_rfl) (by kernel_rfl) (fun _ _ _ h => h) (Or.inl ⟨by kernel_rfl, ?_⟩) hHeld ?_
          · intro w hSw; go_simp
          (try simp only [Act.put, List.setIfInBounds_toArray, List.set_cons_zero, List.set_cons_succ])
          refine take_at (i := 11) (d := some 165) (v := .bool false) rfl rfl (by kernel_rfl) (by kernel_rfl) (by kernel_rfl) (fun _ _ _ h => h) (Or.inl ⟨by kernel_rfl, ?_⟩) hHeld ?_
          · intro w hSw; go_simp
          (try simp only [Act.put, List.setIfInBounds_toArray, List.set_cons_zero, List.set_cons_succ])
          refine take_at (i := 12) (d := some 166) (v := .pointer (some ⟨j, 0, none⟩)) rfl rfl (by kernel_rfl) (by kernel_rfl) (by kernel_rfl) (fun _ _ _ h => h) (Or.inl ⟨by kernel_rfl, ?_⟩) hHeld ?_
          · intro w hSw; go_simp
          (try simp only [Act.put, List.setIfInBounds_toArray, List.set_cons_zero, List.set_cons_succ])
          refine wpAnyH_ready (rs := [13]) (by kernel_rfl) (by simp) ?_
          refine AllReadyH.cons rfl (fun K hK => ?_) AllReadyH.nil
          go_simp
          (go_at_call 51; refine (HMK.out _ HJ10.out HD10.out).mono ?_; rintro e w11 ⟨rfl, hd11, hj11, ho11⟩; have HD11 := Lib.hid hd11; have HJ11 := Lib.hid hj11; have HH12 : Hid (HeadAt w11 D hh) := Lib.hid (RowAt.only HH11.out ho11 HDF2.out); have HO11 : Hid (Only [r, ra, rb, rc] w w11) := Lib.hid (HO10.out.drop ho11 (by intro x hx; have := HNW.out; simp at hx ⊢; omega)); clear hd11 hj11 ho11)
          (try go_wp2_with fail)
          refine hK.out _ _ (HSM.out _ HH12.out) (fun hHeld => ?_)
          clear hK K
          (try simp only [Act.put, List.setIfInBounds_toArray, List.set_cons_zero, List.set_cons_succ])
          refine take_at (i := 14) (d := some 168) (v := .bool false) rfl rfl (by kernel_rfl) (by kernel_rfl) (by kernel_rfl) (fun _ _ _ h => h) (Or.inl ⟨by kernel_rfl, ?_⟩) hHeld ?_
          · intro w hSw; go_simp
          (try simp only [Act.put, List.setIfInBounds_toArray, List.set_cons_zero, List.set_cons_succ])
          refine take_at (i := 15) (d := some 169) (v := .bool false) rfl rfl (by kernel_rfl) (by kernel_rfl) (by kernel_rfl) (fun _ _ _ h => h) (Or.inl ⟨by kernel_rfl, ?_⟩) hHeld ?_
          · intro w hSw; go_simp
          (try simp only [Act.put, List.setIfInBounds_toArray, List.set_cons_zero, List.set_cons_succ])
          refine wpAnyH_done (by kernel_rfl) ?_ _
          refine NoPanic.normal ?_
          go_wp2_with fail
          go_ret3
          exact ⟨HD11.out, HO11.out, Or.inl ⟨HE2.out, j, (n : Int), rfl, HJ11.out, HNW.out⟩⟩
end Go.Proofs.YtppbiohjhnoagaaGreat
