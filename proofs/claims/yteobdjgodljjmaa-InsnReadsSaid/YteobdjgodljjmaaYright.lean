/-
  The document's own Right.
-/
import Derived.Test.YteobdjgodljjmaaYseg
import Derived.Deep.DeepCutAuto
namespace Go.Proofs.Yteobdjgodljjmaa
open Go.RowKit

/-- the instruction, boxed, and nothing else changed -/
structure BoxS (w0 : World) (B : Nat) (x : Y.In) (W : World) : Prop where
  row : RowAt W B (inL x)
  bel : Below w0.heap.size w0 W
theorem BoxS.call {w0 : World} {B : Nat} {x : Y.In} {W W' : World} (k : BoxS w0 B x W) (hb : Below W.heap.size W W') : BoxS w0 B x W' := ⟨RowAt.step k.row hb, k.bel.trans (hb.mono k.bel.size)⟩
theorem BoxS.cells {w0 : World} {B : Nat} {x : Y.In} {W : World} (k : BoxS w0 B x W) : W.cell? ⟨B, 0, none⟩ = some (.int .i64 x.op) ∧ W.cell? ⟨B, 1, none⟩ = some (.int .i64 x.dst) ∧ W.cell? ⟨B, 2, none⟩ = some (.int .i64 x.src) ∧ W.cell? ⟨B, 3, none⟩ = some (.int .i64 x.off) ∧ W.cell? ⟨B, 4, none⟩ = some (.int .i64 x.imm) :=
  ⟨k.row.cell 0 _ rfl, k.row.cell 1 _ rfl, k.row.cell 2 _ rfl, k.row.cell 3 _ rfl, k.row.cell 4 _ rfl⟩
theorem boxS_new (w : World) (x : Y.In) (t : TypeId) : BoxS w w.heap.size x (w.alloc (.cells #[.int .i64 x.op, .int .i64 x.dst, .int .i64 x.src, .int .i64 x.off, .int .i64 x.imm] t)) := ⟨rowAt_new w (inL x) t, (Below.refl _ _).alloc (Nat.le_refl _) _⟩
/-- among, of a list that the call writes out -/
theorem among_new (n : Int) (zs : List Int) (t : TypeId) (w : World) (hl : zs.length ≤ 100) :
    Calls Try.prog 30 #[.int .i64 n, .slice (some ⟨w.heap.size, 0, none⟩) zs.length zs.length] (w.alloc (.cells (intVals zs).toArray t)) fun e w' => e = .returned (.bool (Y.mem n zs)) ∧ Below w.heap.size w w' :=
  (among_any n zs w.heap.size zs.length _ (intsAt_new w zs t) hl).mono fun e w' ⟨he, hw⟩ => ⟨he, hw ▸ (Below.refl _ _).alloc (Nat.le_refl _) _⟩
def AmongNew (n : Int) (cs : Array Value) (k : Nat) (m : Bool) : Prop := ∀ w t, Calls Try.prog 30 #[.int .i64 n, .slice (some ⟨w.heap.size, 0, none⟩) k k] (w.alloc (.cells cs t)) fun e w' => e = .returned (.bool m) ∧ Below w.heap.size w w'
theorem amongNew (n : Int) (zs : List Int) (hl : zs.length ≤ 100) : AmongNew n (intVals zs).toArray zs.length (Y.mem n zs) := fun w t => among_new n zs t w hl
theorem not_not_eq (a : Bool) : (!a) = !a := rfl
theorem imp_dst (u : Bool) (x : Int) (h : u = true) : Y.inB u x 0 7 = decide (0 ≤ x ∧ x ≤ 7) := by subst h; rfl

/-- the walk's last test: a shift's Imm -/
def shiftB (o m : Int) : Bool := (!(o == 26 || o == 27)) || decide (0 ≤ m ∧ m ≤ 63)
theorem right_eq (x : Y.In) : Y.right x = (Y.known x.op && (Y.inB (Y.useDst x.op) x.dst 0 7 && Y.inB (Y.useSrc x.op) x.src 0 7) && (Y.inB (Y.useOff x.op) x.off (-32768) 32767 && Y.inB (Y.useImm x.op) x.imm (-2147483648) 2147483647) && shiftB x.op x.imm) := by
  unfold Y.right shiftB
  simp only [Bool.and_assoc]
set_option maxRecDepth 100000 in
set_option maxHeartbeats 4000000 in
theorem rright_any (x : Y.In) (w : World) : Calls Try.prog 19 #[inV x] w fun e w' => e = .returned (.bool (Y.right x)) ∧ Below w.heap.size w w' := by
  have HE := Lib.hid (right_eq x)
  have HK := Lib.hid (fun w => rknown_any x.op w)
  have HH := Lib.hid (fun w => rhasImm_any x.op w)
  have A1 : Hid (AmongNew x.op #[.int .i64 32, .int .i64 64, .int .i64 80, .int .i64 49, .int .i64 52] 5 (Y.mem x.op [32, 64, 80, 49, 52])) := Lib.hid (amongNew x.op [32, 64, 80, 49, 52] (by decide))
  have A2 : Hid (AmongNew x.op #[.int .i64 32, .int .i64 64, .int .i64 80, .int .i64 48, .int .i64 51] 5 (Y.mem x.op [32, 64, 80, 48, 51])) := Lib.hid (amongNew x.op [32, 64, 80, 48, 51] (by decide))
  have A3 : Hid (AmongNew x.op #[.int .i64 48, .int .i64 49, .int .i64 51, .int .i64 52, .int .i64 55, .int .i64 56] 6 (Y.mem x.op [48, 49, 51, 52, 55, 56])) := Lib.hid (amongNew x.op [48, 49, 51, 52, 55, 56] (by decide))
  have D1 : Hid (Y.useDst x.op = !Y.mem x.op [32, 64, 80, 49, 52]) := Lib.hid rfl
  have D2 : Hid (Y.useSrc x.op = (!Y.mem x.op [32, 64, 80, 48, 51] && !Y.hasImm x.op)) := Lib.hid rfl
  have D3 : Hid (Y.useOff x.op = (Y.isJump x.op || Y.mem x.op [48, 49, 51, 52, 55, 56])) := Lib.hid rfl
  have D4 : Hid (Y.useImm x.op = (Y.hasImm x.op || x.op == 64)) := Lib.hid rfl
  have S0 := Lib.hid (boxS_new w x 43)
  generalize Y.mem x.op [32, 64, 80, 49, 52] = m1 at A1 D1
  generalize Y.mem x.op [32, 64, 80, 48, 51] = m2 at A2 D2
  generalize Y.mem x.op [48, 49, 51, 52, 55, 56] = m3 at A3 D3
  have DJ : Hid (Y.isJump x.op = decide (32 ≤ x.op ∧ x.op ≤ 40)) := Lib.hid rfl
  generalize Y.hasImm x.op = hi at HH D2 D4
  generalize Y.useDst x.op = ud at D1 HE
  generalize Y.useSrc x.op = us at D2 HE
  generalize Y.useOff x.op = uf at D3 HE
  generalize Y.useImm x.op = ui at D4 HE
  generalize Y.isJump x.op = jb at D3 DJ
  obtain ⟨kn, hkn⟩ : ∃ kn, kn = Y.known x.op := ⟨_, rfl⟩
  rw [← hkn] at HK HE
  have HX := Lib.hid (inV_def x)
  unfold inV inL
  unfold AmongNew at A1 A2 A3
  go_enter Try.func19, Try.ntmps19
  clear hkn
  go_upto_region 1 with fail
  have S := S0
  clear S0
  generalize w.alloc (.cells #[.int .i64 x.op, .int .i64 x.dst, .int .i64 x.src, .int .i64 x.off, .int .i64 x.imm] 43) = W1 at S ⊢
  obtain ⟨c0, c1, c2, c3, c4⟩ := S.out.cells
  cases kn with
  | false =>
    go_wp2_with (first
    | (go_at_call 29; (with_reducible refine (HK.out _).mono ?_); rintro e w' ⟨rfl, rfl⟩)
    | (go_at_call 17; (with_reducible refine (HH.out _).mono ?_); rintro e w' ⟨rfl, rfl⟩)
    | (go_at_call 30; (first | (with_reducible refine (A1.out _ _).mono ?_) | (with_reducible refine (A2.out _ _).mono ?_) | (with_reducible refine (A3.out _ _).mono ?_)); rintro e w2 ⟨rfl, hb⟩; replace S := Lib.hid (S.out.call hb); clear hb c0 c1 c2 c3 c4; obtain ⟨c0, c1, c2, c3, c4⟩ := S.out.cells))
    go_ret
    exact ⟨ret_bool (by rw [HE.out]; rfl), S.out.bel⟩
  | true =>
    go_upto_region 4 with (first
    | (go_at_call 29; (with_reducible refine (HK.out _).mono ?_); rintro e w' ⟨rfl, rfl⟩)
    | (go_at_call 17; (with_reducible refine (HH.out _).mono ?_); rintro e w' ⟨rfl, rfl⟩)
    | (go_at_call 30; (first | (with_reducible refine (A1.out _ _).mono ?_) | (with_reducible refine (A2.out _ _).mono ?_) | (with_reducible refine (A3.out _ _).mono ?_)); rintro e w2 ⟨rfl, hb⟩; replace S := Lib.hid (S.out.call hb); clear hb c0 c1 c2 c3 c4; obtain ⟨c0, c1, c2, c3, c4⟩ := S.out.cells))
    go_cut [3, 4] (fun p q wx => p = .bool ud ∧ q = .bool us ∧ Hid (BoxS w w.heap.size x wx))
    case first =>
      cases m2 with
      | false =>
        go_upto_region 5 with (first
    | (go_at_call 29; (with_reducible refine (HK.out _).mono ?_); rintro e w' ⟨rfl, rfl⟩)
    | (go_at_call 17; (with_reducible refine (HH.out _).mono ?_); rintro e w' ⟨rfl, rfl⟩)
    | (go_at_call 30; (first | (with_reducible refine (A1.out _ _).mono ?_) | (with_reducible refine (A2.out _ _).mono ?_) | (with_reducible refine (A3.out _ _).mono ?_)); rintro e w2 ⟨rfl, hb⟩; replace S := Lib.hid (S.out.call hb); clear hb c0 c1 c2 c3 c4; obtain ⟨c0, c1, c2, c3, c4⟩ := S.out.cells))
        go_meet
        case rel => exact ⟨by rw [D1.out], by rw [D2.out]; rfl, S⟩
      | true =>
        go_upto_region 5 with (first
    | (go_at_call 29; (with_reducible refine (HK.out _).mono ?_); rintro e w' ⟨rfl, rfl⟩)
    | (go_at_call 17; (with_reducible refine (HH.out _).mono ?_); rintro e w' ⟨rfl, rfl⟩)
    | (go_at_call 30; (first | (with_reducible refine (A1.out _ _).mono ?_) | (with_reducible refine (A2.out _ _).mono ?_) | (with_reducible refine (A3.out _ _).mono ?_)); rintro e w2 ⟨rfl, hb⟩; replace S := Lib.hid (S.out.call hb); clear hb c0 c1 c2 c3 c4; obtain ⟨c0, c1, c2, c3, c4⟩ := S.out.cells))
        go_meet
        case rel => exact ⟨by rw [D1.out], by rw [D2.out]; rfl, S⟩
    case rest =>
      clear S c0 c1 c2 c3 c4
      obtain ⟨rfl, rfl, S⟩ := hcut
      obtain ⟨c0, c1, c2, c3, c4⟩ := S.out.cells
      go_upto_region 5 with fail
      go_cut [3, 4, 5] (fun p q r wx => p = .bool ud ∧ q = .bool us ∧ r = .bool uf ∧ Hid (BoxS w w.heap.size x wx))
      case first =>
        by_cases j1 : 32 ≤ x.op
        · by_cases j2 : x.op ≤ 40
          · go_upto_region 6 with (first
    | (go_at_call 29; (with_reducible refine (HK.out _).mono ?_); rintro e w' ⟨rfl, rfl⟩)
    | (go_at_call 17; (with_reducible refine (HH.out _).mono ?_); rintro e w' ⟨rfl, rfl⟩)
    | (go_at_call 30; (first | (with_reducible refine (A1.out _ _).mono ?_) | (with_reducible refine (A2.out _ _).mono ?_) | (with_reducible refine (A3.out _ _).mono ?_)); rintro e w2 ⟨rfl, hb⟩; replace S := Lib.hid (S.out.call hb); clear hb c0 c1 c2 c3 c4; obtain ⟨c0, c1, c2, c3, c4⟩ := S.out.cells))
            go_meet
            case rel => exact ⟨rfl, rfl, by rw [D3.out, DJ.out, decide_eq_true (by omega)]; rfl, S⟩
          · go_upto_region 6 with (first
    | (go_at_call 29; (with_reducible refine (HK.out _).mono ?_); rintro e w' ⟨rfl, rfl⟩)
    | (go_at_call 17; (with_reducible refine (HH.out _).mono ?_); rintro e w' ⟨rfl, rfl⟩)
    | (go_at_call 30; (first | (with_reducible refine (A1.out _ _).mono ?_) | (with_reducible refine (A2.out _ _).mono ?_) | (with_reducible refine (A3.out _ _).mono ?_)); rintro e w2 ⟨rfl, hb⟩; replace S := Lib.hid (S.out.call hb); clear hb c0 c1 c2 c3 c4; obtain ⟨c0, c1, c2, c3, c4⟩ := S.out.cells))
            go_meet
            case rel => exact ⟨rfl, rfl, by rw [D3.out, DJ.out, decide_eq_false (by omega)]; rfl, S⟩
        · go_upto_region 6 with (first
    | (go_at_call 29; (with_reducible refine (HK.out _).mono ?_); rintro e w' ⟨rfl, rfl⟩)
    | (go_at_call 17; (with_reducible refine (HH.out _).mono ?_); rintro e w' ⟨rfl, rfl⟩)
    | (go_at_call 30; (first | (with_reducible refine (A1.out _ _).mono ?_) | (with_reducible refine (A2.out _ _).mono ?_) | (with_reducible refine (A3.out _ _).mono ?_)); rintro e w2 ⟨rfl, hb⟩; replace S := Lib.hid (S.out.call hb); clear hb c0 c1 c2 c3 c4; obtain ⟨c0, c1, c2, c3, c4⟩ := S.out.cells))
          go_meet
          case rel => exact ⟨rfl, rfl, by rw [D3.out, DJ.out, decide_eq_false (by omega)]; rfl, S⟩
      case rest =>
        clear S c0 c1 c2 c3 c4
        obtain ⟨rfl, rfl, rfl, S⟩ := hcut
        obtain ⟨c0, c1, c2, c3, c4⟩ := S.out.cells
        go_upto_region 6 with fail
        go_cut [3, 4, 5, 6] (fun p q r t wx => p = .bool ud ∧ q = .bool us ∧ r = .bool uf ∧ t = .bool ui ∧ Hid (BoxS w w.heap.size x wx))
        case first =>
          cases hi with
          | true =>
            go_upto_region 7 with (first
    | (go_at_call 29; (with_reducible refine (HK.out _).mono ?_); rintro e w' ⟨rfl, rfl⟩)
    | (go_at_call 17; (with_reducible refine (HH.out _).mono ?_); rintro e w' ⟨rfl, rfl⟩)
    | (go_at_call 30; (first | (with_reducible refine (A1.out _ _).mono ?_) | (with_reducible refine (A2.out _ _).mono ?_) | (with_reducible refine (A3.out _ _).mono ?_)); rintro e w2 ⟨rfl, hb⟩; replace S := Lib.hid (S.out.call hb); clear hb c0 c1 c2 c3 c4; obtain ⟨c0, c1, c2, c3, c4⟩ := S.out.cells))
            go_meet
            case rel => exact ⟨rfl, rfl, rfl, by rw [D4.out]; rfl, S⟩
          | false =>
            go_upto_region 7 with (first
    | (go_at_call 29; (with_reducible refine (HK.out _).mono ?_); rintro e w' ⟨rfl, rfl⟩)
    | (go_at_call 17; (with_reducible refine (HH.out _).mono ?_); rintro e w' ⟨rfl, rfl⟩)
    | (go_at_call 30; (first | (with_reducible refine (A1.out _ _).mono ?_) | (with_reducible refine (A2.out _ _).mono ?_) | (with_reducible refine (A3.out _ _).mono ?_)); rintro e w2 ⟨rfl, hb⟩; replace S := Lib.hid (S.out.call hb); clear hb c0 c1 c2 c3 c4; obtain ⟨c0, c1, c2, c3, c4⟩ := S.out.cells))
            go_meet
            case rel => exact ⟨rfl, rfl, rfl, by rw [D4.out]; rfl, S⟩
        case rest =>
          clear S c0 c1 c2 c3 c4
          obtain ⟨rfl, rfl, rfl, rfl, S⟩ := hcut
          obtain ⟨c0, c1, c2, c3, c4⟩ := S.out.cells
          go_upto_region 7 with fail
          refine seg7 x ud us _ _ _ _ _ _ _ _ _ _ _ _ _ _ _ _ _ _ _ _ _ _ _ _ _ _ _ _ _ _ _ _ _ _ _ _ _ _ _ _ _ _ _ _ _ _ _ _ _ _ _ _ _ _ _ _ _ _ _ _ _ _ _ _ _ _ _ _ _ _ _ _ _ _ _ _ _ _ _ _ _ _ _ _ _ _ _ _ _ _ _ _ _ _ _ _ _ _ _ _ _ _ _ _ _ _ _ _ _ _ _ _ _ _ _ _ _ _ _ _ _ _ _ _ _ _ _ _ _ _ _ _ _ _ _ _ _ _ _ _ _ _ _ _ _ _ _ _ _ _ c1 c2 ?_
          intro y49 y50 y51 y52 y53 y54 y55 y56 y57 y58 y59 y60 y61 y62 y63 y64 y65 y66 y67 y68 y69 y70 y71 y72 y73 y74 y75 y76 y77 y78 y79 y80 y81 y82 y83 y84 y85 y86 y87 y88 y89 t1 ht1
          simp only [Exit.then]
          cases t1 with
          | true =>
            go_wp2_with fail
            go_ret
            exact ⟨ret_bool (by rw [HE.out]; have := ht1; revert this; generalize Y.inB ud x.dst 0 7 = p; generalize Y.inB us x.src 0 7 = q; intro h; revert h; cases p <;> cases q <;> simp), S.out.bel⟩
          | false =>
            have HT1 := Lib.hid ht1
            clear ht1
            go_upto_region 9 with fail
            refine seg9 x uf ui _ _ _ _ _ _ _ _ _ _ _ _ _ _ _ _ _ _ _ _ _ _ _ _ _ _ _ _ _ _ _ _ _ _ _ _ _ _ _ _ _ _ _ _ _ _ _ _ _ _ _ _ _ _ _ _ _ _ _ _ _ _ _ _ _ _ _ _ _ _ _ _ _ _ _ _ _ _ _ _ _ _ _ _ _ _ _ _ _ _ _ _ _ _ _ _ _ _ _ _ _ _ _ _ _ _ _ _ _ _ _ _ _ _ _ _ _ _ _ _ _ _ _ _ _ _ _ _ _ _ _ _ _ _ _ _ _ _ _ _ _ _ _ _ _ _ _ _ _ _ c3 c4 ?_
            intro y91 y92 y93 y94 y95 y96 y97 y98 y99 y100 y101 y102 y103 y104 y105 y106 y107 y108 y109 y110 y111 y112 y113 y114 y115 y116 y117 y118 y119 y120 y121 y122 y123 y124 y125 y126 y127 y128 y129 y130 y131 t2 ht2
            simp only [Exit.then]
            cases t2 with
            | true =>
              go_wp2_with fail
              go_ret
              exact ⟨ret_bool (by rw [HE.out]; have := ht2; revert this; generalize Y.inB uf x.off (-32768) 32767 = p; generalize Y.inB ui x.imm (-2147483648) 2147483647 = q; intro h; revert h; cases p <;> cases q <;> simp), S.out.bel⟩
            | false =>
              have HT2 : Hid (Y.right x = shiftB x.op x.imm) := Lib.hid (by
                rw [HE.out]
                have h1 := HT1.out
                revert h1 ht2
                generalize Y.inB ud x.dst 0 7 = p
                generalize Y.inB us x.src 0 7 = q
                generalize Y.inB uf x.off (-32768) 32767 = r
                generalize Y.inB ui x.imm (-2147483648) 2147483647 = t
                intro h1 h2
                revert h1 h2
                cases p <;> cases q <;> cases r <;> cases t <;> simp)
              clear HE ht2
              go_wp2_with fail
              all_goals
                go_ret
                refine ⟨ret_bool ?_, S.out.bel⟩
                rw [HT2.out]
                unfold shiftB
                rw [Bool.eq_iff_iff]
                simp
                try omega
end Go.Proofs.Yteobdjgodljjmaa
