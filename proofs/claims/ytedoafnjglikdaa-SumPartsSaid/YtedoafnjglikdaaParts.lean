/-
  Proved: SumParts returns true for every texts and every cut: the sum of some texts, and then of others behind them, is the sum of all, however they are cut.
  Conditions: none beside the statement's own.
-/
import Derived.Test.YtedoafnjglikdaaOwn
import Derived.WalkKit
import Derived.ProofKit
import Derived.OpenShut
import Derived.ShutString
import Derived.ChangeOld
import Derived.Below
namespace Go.Proofs.Ytedoafnjglikdaa.sumParts
open Go.ChangeShapes Go.WideShapes Go.ChangeAt Go.RowKit

theorem own : ownKnob Try.prog.godebug = none := by kernel_rfl
theorem laidOut : laidOutB Try.prog = true := by kernel_rfl

theorem ret_bool {b : Bool} (h : b = true) : Ending.returned (.bool b) = .returned (.bool true) := by rw [h]
theorem cut_of (tt : List ByteArray) (k : Nat) : ((joined tt).extract 0 k).data.toList ++ ((joined tt).extract k (joined tt).size).data.toList = bytesOf tt := by
  simp only [ByteArray.data_extract, joined, Array.toList_extract, List.extract_eq_take_drop]
  simp only [List.drop_zero, Nat.sub_zero]
  have e : List.take (({ data := (bytesOf tt).toArray } : ByteArray).size - k) (List.drop k (bytesOf tt)) = List.drop k (bytesOf tt) := List.take_of_length_le (by simp [ByteArray.size])
  rw [e]
  exact List.take_append_drop k _
theorem fin (ss tt : List ByteArray) (x y : ByteArray) (h : x.data.toList ++ y.data.toList = bytesOf tt) : (moreL (moreL 0 ss) tt == moreL 0 (ss ++ [x, y])) = true := by
  have e : bytesOf (ss ++ [x, y]) = bytesOf ss ++ bytesOf tt := by
    rw [bytesOf_append, ← h]; simp [bytesOf]
  rw [beq_iff_eq]
  unfold moreL
  rw [e, Mt.run_append, Mt.split_join _ (Mt.fit_run _ _ (Mt.fit_split 0))]
theorem fits (n : Nat) (ss tt : List ByteArray) {w : World} {A : Option Addr} (x y : ByteArray) (hr : StrRow w A n ss) (h : x.data.toList ++ y.data.toList = bytesOf tt) (ht : (bytesOf tt).length ≤ 3000) :
    ∀ i, ((ss ++ [x, y]).getD i ByteArray.empty).size ≤ maxLen := by
  intro i
  have hl := congrArg List.length h
  rw [List.length_append] at hl
  have hx : x.data.toList.length = x.size := by simp
  have hy : y.data.toList.length = y.size := by simp
  rcases Nat.lt_or_ge i ss.length with hi | hi
  · have e : (ss ++ [x, y]).getD i ByteArray.empty = ss.getD i ByteArray.empty := by
      rw [List.getD_eq_getElem?_getD, List.getElem?_append_left hi, List.getD_eq_getElem?_getD]
    rw [e]; exact hr.fit i
  · have e : (ss ++ [x, y]).getD i ByteArray.empty = [x, y].getD (i - ss.length) ByteArray.empty := by
      rw [List.getD_eq_getElem?_getD, List.getElem?_append_right hi, List.getD_eq_getElem?_getD]
    rw [e]
    rcases i - ss.length with _ | _ | _
    · show x.size ≤ maxLen
      unfold maxLen; omega
    · show y.size ≤ maxLen
      unfold maxLen; omega
    · simp [maxLen]

set_option maxHeartbeats 20000000 in
theorem walk_main (A : Option Addr) (n c : Nat) (ss : List ByteArray) (B : Option Addr) (m d : Nat) (tt : List ByteArray) (k : Nat) (w : World) (h : TextRow w A n ss) (g : TextRow w B m tt) (hs : n ≤ 60 ∧ (bytesOf ss).length ≤ 3000) (ht : m ≤ 60 ∧ (bytesOf tt).length ≤ 3000) (hk : k ≤ (joined tt).size) :
    Calls Try.prog 7 #[.slice A n c, .slice B m d, .int .i64 (k : Int)] w fun e w' => e = .returned (.bool true) ∧ Below w.heap.size w w' := by
  have hsz : (joined tt).size ≤ 3000 := by rw [joined_size]; exact ht.2
  have mb := moreL_bd 0 ss
  go_enter Try.func7, Try.ntmps7
  go_wp2_with fail
  refine (awake_any w).mono ?_
  rintro e w1 ⟨rfl, hb⟩
  have q1 := h.below hb
  have q2 := g.below hb
  go_wp2_with fail
  refine (long_short A n c ss _ q1.toStrRow hs.1 hs.2).mono ?_
  rintro e w' ⟨rfl, rfl⟩
  go_wp2_with fail
  refine (long_short B m d tt _ q2.toStrRow ht.1 ht.2).mono ?_
  rintro e w' ⟨rfl, rfl⟩
  go_wp2_with fail
  refine (joined_any B m d tt _ q2.toStrRow ht.1 ht.2).mono ?_
  rintro e w' ⟨rfl, rfl⟩
  go_wp2_with fail
  have hxy := cut_of tt k
  refine wp_region_any (by kernel_rfl) ?_
  change wpAny _ _ _ _ _ _ _ (World.drew _)
  have HB := Lib.hid hb.drew
  clear hb q1 q2
  generalize w1.drew = W at HB ⊢
  refine wpAny_take (i := 0) (v := .slice A n c) rfl (by kernel_rfl) (by kernel_rfl) (by kernel_rfl) (fun _ _ _ h => h) (Or.inl ⟨by rfl, ?_⟩) ?_
  · intro w; go_simp
  refine wpAny_take (i := 2) (v := .slice B m d) rfl (by kernel_rfl) (by kernel_rfl) (by kernel_rfl) (fun _ _ _ h => h) (Or.inl ⟨by rfl, ?_⟩) ?_
  · intro w; go_simp
  refine wpAny_take (i := 5) (v := .slice A n c) rfl (by kernel_rfl) (by kernel_rfl) (by kernel_rfl) (fun _ _ _ h => h) (Or.inl ⟨by rfl, ?_⟩) ?_
  · intro w; go_simp
  refine wpAny_take (i := 7) (v := .string (joined tt)) rfl (by kernel_rfl) (by kernel_rfl) (by kernel_rfl) (fun _ _ _ h => h) (Or.inl ⟨by rfl, ?_⟩) ?_
  · intro w; go_simp
  refine wpAny_take (i := 8) (v := .int .i64 (k : Int)) rfl (by kernel_rfl) (by kernel_rfl) (by kernel_rfl) (fun _ _ _ h => h) (Or.inl ⟨by rfl, ?_⟩) ?_
  · intro w; go_simp
  refine wpAny_take (i := 9) (v := .string ((joined tt).extract 0 k)) rfl (by kernel_rfl) (by kernel_rfl) (by kernel_rfl) (fun _ _ _ h => h) (Or.inl ⟨by rfl, ?_⟩) ?_
  · intro w; go_simp
  refine wpAny_take (i := 10) (v := .string (joined tt)) rfl (by kernel_rfl) (by kernel_rfl) (by kernel_rfl) (fun _ _ _ h => h) (Or.inl ⟨by rfl, ?_⟩) ?_
  · intro w; go_simp
  refine wpAny_take (i := 11) (v := .int .i64 (k : Int)) rfl (by kernel_rfl) (by kernel_rfl) (by kernel_rfl) (fun _ _ _ h => h) (Or.inl ⟨by rfl, ?_⟩) ?_
  · intro w; go_simp
  refine wpAny_take (i := 12) (v := .string ((joined tt).extract k (joined tt).size)) rfl (by kernel_rfl) (by kernel_rfl) (by kernel_rfl) (fun _ _ _ h => h) (Or.inl ⟨by rfl, ?_⟩) ?_
  · intro w; go_simp
  generalize hxe : (joined tt).extract 0 k = x at hxy ⊢
  generalize hye : (joined tt).extract k (joined tt).size = y at hxy ⊢
  clear hxe hye
  have HF := Lib.hid (fin ss tt x y hxy)
  have hfit := Lib.hid (fits n ss tt x y h.toStrRow hxy ht.2)
  clear hxy
  refine wpAny_ready (rs := [1, 4, 13]) (by kernel_rfl) (by simp) ?_
  refine AllReady.cons rfl (fun K hK => ?_) ?_
  · go_simp
    go_wp2_with (go_at_call 11; refine (sum_L A n c ss _ (h.below HB.out).toStrRow).mono ?_; rintro e w' ⟨rfl, rfl⟩)
    refine wpAny_ready (rs := [3, 4, 13]) (by kernel_rfl) (by simp) ?_
    refine AllReady.cons rfl (fun K hK => ?_) ?_
    · go_simp
      go_wp2_with (go_at_call 13; refine (more_L (moreL 0 ss) B m d tt _ mb.1 mb.2 (g.below HB.out).toStrRow).mono ?_; rintro e w' ⟨rfl, rfl⟩)
      refine wpAny_ready (rs := [4, 13]) (by kernel_rfl) (by simp) ?_
      refine AllReady.cons rfl (fun K hK => ?_) ?_
      · go_simp
        refine hK _ _ ?_
        clear hK K
        have HB3 := Lib.hid (HB.out.alloc HB.out.size (.cells #[] 9))
        have X3 := S4.new HB.out
        generalize W.alloc (.cells #[] 9) = W3 at HB3 X3 ⊢
        refine wpAny_ready (rs := [6, 13]) (by kernel_rfl) (by simp) ?_
        refine AllReady.cons rfl (fun K hK => ?_) ?_
        · refine step6 (.tmp 30) (.tmp 31) rfl rfl rfl rfl (h.below HB3.out).toStrRow X3 hs.1 ?_
          intro v4 W4 X4 hp4
          refine hK _ _ ?_
          clear hK K
          have HB4 := Lib.hid X4.bel
          clear hp4
          refine wpAny_ready (rs := [13]) (by kernel_rfl) (by simp) ?_
          refine AllReady.cons rfl (fun K hK => ?_) ?_
          · go_simp
            refine hK _ _ ?_
            clear hK K
            have HB5 := Lib.hid (HB4.out.alloc HB4.out.size (.cells #[.string x, .string y] 9))
            have P5 := Pair.new W4 x y
            have X5 := X4.alloc (.cells #[.string x, .string y] 9)
            generalize W4.alloc (.cells #[.string x, .string y] 9) = W5 at HB5 P5 X5 ⊢
            refine wpAny_ready (rs := [14]) (by kernel_rfl) (by simp) ?_
            refine AllReady.cons rfl (fun K hK => ?_) ?_
            · refine step14 (.tmp 32) (.tmp 39) rfl rfl rfl rfl X5 P5 h.len hs.1 hfit.out ?_
              intro g6 cap6 W6 B6 R6
              refine hK _ _ ?_
              clear hK K
              have HB6 := Lib.hid B6
              clear B6
              refine wpAny_ready (rs := [15]) (by kernel_rfl) (by simp) ?_
              refine AllReady.cons rfl (fun K hK => ?_) ?_
              · go_simp
                go_wp2_with (go_at_call 11; refine (sum_L _ _ _ (ss ++ [x, y]) _ R6).mono ?_; rintro e w' ⟨rfl, rfl⟩)
                refine wpAny_take (i := 16) (v := .bool (moreL (moreL 0 ss) tt == moreL 0 (ss ++ [x, y]))) rfl (by kernel_rfl) (by kernel_rfl) (by kernel_rfl) (fun _ _ _ h => h) (Or.inl ⟨by rfl, ?_⟩) ?_
                · intro w; go_simp
                refine wpAny_take (i := 17) (v := .bool (moreL (moreL 0 ss) tt == moreL 0 (ss ++ [x, y]))) rfl (by kernel_rfl) (by kernel_rfl) (by kernel_rfl) (fun _ _ _ h => h) (Or.inl ⟨by rfl, ?_⟩) ?_
                · intro w; go_simp
                refine wpAny_done (by kernel_rfl) ?_ _
                go_wp2
                go_ret
                exact ⟨ret_bool HF.out, HB6.out⟩
              exact AllReady.nil
            exact AllReady.nil
          exact AllReady.nil
        refine AllReady.cons rfl (fun K hK => ?_) ?_
        · go_simp
          refine hK _ _ ?_
          clear hK K
          have HB8 := Lib.hid (HB3.out.alloc HB3.out.size (.cells #[.string x, .string y] 9))
          have P8 := Pair.new W3 x y
          have X8 := X3.alloc (.cells #[.string x, .string y] 9)
          have ne8 : W3.heap.size ≠ W.heap.size := Nat.ne_of_gt X3.lt
          generalize W3.alloc (.cells #[.string x, .string y] 9) = W8 at HB8 P8 X8 ⊢
          refine wpAny_ready (rs := [6]) (by kernel_rfl) (by simp) ?_
          refine AllReady.cons rfl (fun K hK => ?_) ?_
          · refine step6 (.tmp 30) (.tmp 31) rfl rfl rfl rfl (h.below HB8.out).toStrRow X8 hs.1 ?_
            intro v9 W9 X9 hp9
            refine hK _ _ ?_
            clear hK K
            have HB9 := Lib.hid X9.bel
            have P9 := hp9 _ _ _ P8 ne8
            clear hp9
            refine wpAny_ready (rs := [14]) (by kernel_rfl) (by simp) ?_
            refine AllReady.cons rfl (fun K hK => ?_) ?_
            · refine step14 (.tmp 32) (.tmp 39) rfl rfl rfl rfl X9 P9 h.len hs.1 hfit.out ?_
              intro g10 cap10 W10 B10 R10
              refine hK _ _ ?_
              clear hK K
              have HB10 := Lib.hid B10
              clear B10
              refine wpAny_ready (rs := [15]) (by kernel_rfl) (by simp) ?_
              refine AllReady.cons rfl (fun K hK => ?_) ?_
              · go_simp
                go_wp2_with (go_at_call 11; refine (sum_L _ _ _ (ss ++ [x, y]) _ R10).mono ?_; rintro e w' ⟨rfl, rfl⟩)
                refine wpAny_take (i := 16) (v := .bool (moreL (moreL 0 ss) tt == moreL 0 (ss ++ [x, y]))) rfl (by kernel_rfl) (by kernel_rfl) (by kernel_rfl) (fun _ _ _ h => h) (Or.inl ⟨by rfl, ?_⟩) ?_
                · intro w; go_simp
                refine wpAny_take (i := 17) (v := .bool (moreL (moreL 0 ss) tt == moreL 0 (ss ++ [x, y]))) rfl (by kernel_rfl) (by kernel_rfl) (by kernel_rfl) (fun _ _ _ h => h) (Or.inl ⟨by rfl, ?_⟩) ?_
                · intro w; go_simp
                refine wpAny_done (by kernel_rfl) ?_ _
                go_wp2
                go_ret
                exact ⟨ret_bool HF.out, HB10.out⟩
              exact AllReady.nil
            exact AllReady.nil
          exact AllReady.nil
        exact AllReady.nil
      refine AllReady.cons rfl (fun K hK => ?_) ?_
      · go_simp
        refine hK _ _ ?_
        clear hK K
        have HB12 := Lib.hid (HB.out.alloc HB.out.size (.cells #[.string x, .string y] 9))
        have P12 := Pair.new W x y
        generalize W.alloc (.cells #[.string x, .string y] 9) = W12 at HB12 P12 ⊢
        refine wpAny_ready (rs := [4]) (by kernel_rfl) (by simp) ?_
        refine AllReady.cons rfl (fun K hK => ?_) ?_
        · go_simp
          refine hK _ _ ?_
          clear hK K
          have HB13 := Lib.hid (HB12.out.alloc HB12.out.size (.cells #[] 9))
          have X13 := S4.new HB12.out
          have P13 := P12.alloc (.cells #[] 9)
          have ne13 : W.heap.size ≠ W12.heap.size := Nat.ne_of_lt P12.lt
          generalize W12.alloc (.cells #[] 9) = W13 at HB13 X13 P13 ⊢
          refine wpAny_ready (rs := [6]) (by kernel_rfl) (by simp) ?_
          refine AllReady.cons rfl (fun K hK => ?_) ?_
          · refine step6 (.tmp 30) (.tmp 31) rfl rfl rfl rfl (h.below HB13.out).toStrRow X13 hs.1 ?_
            intro v14 W14 X14 hp14
            refine hK _ _ ?_
            clear hK K
            have HB14 := Lib.hid X14.bel
            have P14 := hp14 _ _ _ P13 ne13
            clear hp14
            refine wpAny_ready (rs := [14]) (by kernel_rfl) (by simp) ?_
            refine AllReady.cons rfl (fun K hK => ?_) ?_
            · refine step14 (.tmp 32) (.tmp 39) rfl rfl rfl rfl X14 P14 h.len hs.1 hfit.out ?_
              intro g15 cap15 W15 B15 R15
              refine hK _ _ ?_
              clear hK K
              have HB15 := Lib.hid B15
              clear B15
              refine wpAny_ready (rs := [15]) (by kernel_rfl) (by simp) ?_
              refine AllReady.cons rfl (fun K hK => ?_) ?_
              · go_simp
                go_wp2_with (go_at_call 11; refine (sum_L _ _ _ (ss ++ [x, y]) _ R15).mono ?_; rintro e w' ⟨rfl, rfl⟩)
                refine wpAny_take (i := 16) (v := .bool (moreL (moreL 0 ss) tt == moreL 0 (ss ++ [x, y]))) rfl (by kernel_rfl) (by kernel_rfl) (by kernel_rfl) (fun _ _ _ h => h) (Or.inl ⟨by rfl, ?_⟩) ?_
                · intro w; go_simp
                refine wpAny_take (i := 17) (v := .bool (moreL (moreL 0 ss) tt == moreL 0 (ss ++ [x, y]))) rfl (by kernel_rfl) (by kernel_rfl) (by kernel_rfl) (fun _ _ _ h => h) (Or.inl ⟨by rfl, ?_⟩) ?_
                · intro w; go_simp
                refine wpAny_done (by kernel_rfl) ?_ _
                go_wp2
                go_ret
                exact ⟨ret_bool HF.out, HB15.out⟩
              exact AllReady.nil
            exact AllReady.nil
          exact AllReady.nil
        exact AllReady.nil
      exact AllReady.nil
    refine AllReady.cons rfl (fun K hK => ?_) ?_
    · go_simp
      refine hK _ _ ?_
      clear hK K
      have HB17 := Lib.hid (HB.out.alloc HB.out.size (.cells #[] 9))
      have X17 := S4.new HB.out
      generalize W.alloc (.cells #[] 9) = W17 at HB17 X17 ⊢
      refine wpAny_ready (rs := [3, 13]) (by kernel_rfl) (by simp) ?_
      refine AllReady.cons rfl (fun K hK => ?_) ?_
      · go_simp
        go_wp2_with (go_at_call 13; refine (more_L (moreL 0 ss) B m d tt _ mb.1 mb.2 (g.below HB17.out).toStrRow).mono ?_; rintro e w' ⟨rfl, rfl⟩)
        refine wpAny_ready (rs := [6, 13]) (by kernel_rfl) (by simp) ?_
        refine AllReady.cons rfl (fun K hK => ?_) ?_
        · refine step6 (.tmp 30) (.tmp 31) rfl rfl rfl rfl (h.below HB17.out).toStrRow X17 hs.1 ?_
          intro v19 W19 X19 hp19
          refine hK _ _ ?_
          clear hK K
          have HB19 := Lib.hid X19.bel
          clear hp19
          refine wpAny_ready (rs := [13]) (by kernel_rfl) (by simp) ?_
          refine AllReady.cons rfl (fun K hK => ?_) ?_
          · go_simp
            refine hK _ _ ?_
            clear hK K
            have HB20 := Lib.hid (HB19.out.alloc HB19.out.size (.cells #[.string x, .string y] 9))
            have P20 := Pair.new W19 x y
            have X20 := X19.alloc (.cells #[.string x, .string y] 9)
            generalize W19.alloc (.cells #[.string x, .string y] 9) = W20 at HB20 P20 X20 ⊢
            refine wpAny_ready (rs := [14]) (by kernel_rfl) (by simp) ?_
            refine AllReady.cons rfl (fun K hK => ?_) ?_
            · refine step14 (.tmp 32) (.tmp 39) rfl rfl rfl rfl X20 P20 h.len hs.1 hfit.out ?_
              intro g21 cap21 W21 B21 R21
              refine hK _ _ ?_
              clear hK K
              have HB21 := Lib.hid B21
              clear B21
              refine wpAny_ready (rs := [15]) (by kernel_rfl) (by simp) ?_
              refine AllReady.cons rfl (fun K hK => ?_) ?_
              · go_simp
                go_wp2_with (go_at_call 11; refine (sum_L _ _ _ (ss ++ [x, y]) _ R21).mono ?_; rintro e w' ⟨rfl, rfl⟩)
                refine wpAny_take (i := 16) (v := .bool (moreL (moreL 0 ss) tt == moreL 0 (ss ++ [x, y]))) rfl (by kernel_rfl) (by kernel_rfl) (by kernel_rfl) (fun _ _ _ h => h) (Or.inl ⟨by rfl, ?_⟩) ?_
                · intro w; go_simp
                refine wpAny_take (i := 17) (v := .bool (moreL (moreL 0 ss) tt == moreL 0 (ss ++ [x, y]))) rfl (by kernel_rfl) (by kernel_rfl) (by kernel_rfl) (fun _ _ _ h => h) (Or.inl ⟨by rfl, ?_⟩) ?_
                · intro w; go_simp
                refine wpAny_done (by kernel_rfl) ?_ _
                go_wp2
                go_ret
                exact ⟨ret_bool HF.out, HB21.out⟩
              exact AllReady.nil
            exact AllReady.nil
          exact AllReady.nil
        refine AllReady.cons rfl (fun K hK => ?_) ?_
        · go_simp
          refine hK _ _ ?_
          clear hK K
          have HB23 := Lib.hid (HB17.out.alloc HB17.out.size (.cells #[.string x, .string y] 9))
          have P23 := Pair.new W17 x y
          have X23 := X17.alloc (.cells #[.string x, .string y] 9)
          have ne23 : W17.heap.size ≠ W.heap.size := Nat.ne_of_gt X17.lt
          generalize W17.alloc (.cells #[.string x, .string y] 9) = W23 at HB23 P23 X23 ⊢
          refine wpAny_ready (rs := [6]) (by kernel_rfl) (by simp) ?_
          refine AllReady.cons rfl (fun K hK => ?_) ?_
          · refine step6 (.tmp 30) (.tmp 31) rfl rfl rfl rfl (h.below HB23.out).toStrRow X23 hs.1 ?_
            intro v24 W24 X24 hp24
            refine hK _ _ ?_
            clear hK K
            have HB24 := Lib.hid X24.bel
            have P24 := hp24 _ _ _ P23 ne23
            clear hp24
            refine wpAny_ready (rs := [14]) (by kernel_rfl) (by simp) ?_
            refine AllReady.cons rfl (fun K hK => ?_) ?_
            · refine step14 (.tmp 32) (.tmp 39) rfl rfl rfl rfl X24 P24 h.len hs.1 hfit.out ?_
              intro g25 cap25 W25 B25 R25
              refine hK _ _ ?_
              clear hK K
              have HB25 := Lib.hid B25
              clear B25
              refine wpAny_ready (rs := [15]) (by kernel_rfl) (by simp) ?_
              refine AllReady.cons rfl (fun K hK => ?_) ?_
              · go_simp
                go_wp2_with (go_at_call 11; refine (sum_L _ _ _ (ss ++ [x, y]) _ R25).mono ?_; rintro e w' ⟨rfl, rfl⟩)
                refine wpAny_take (i := 16) (v := .bool (moreL (moreL 0 ss) tt == moreL 0 (ss ++ [x, y]))) rfl (by kernel_rfl) (by kernel_rfl) (by kernel_rfl) (fun _ _ _ h => h) (Or.inl ⟨by rfl, ?_⟩) ?_
                · intro w; go_simp
                refine wpAny_take (i := 17) (v := .bool (moreL (moreL 0 ss) tt == moreL 0 (ss ++ [x, y]))) rfl (by kernel_rfl) (by kernel_rfl) (by kernel_rfl) (fun _ _ _ h => h) (Or.inl ⟨by rfl, ?_⟩) ?_
                · intro w; go_simp
                refine wpAny_done (by kernel_rfl) ?_ _
                go_wp2
                go_ret
                exact ⟨ret_bool HF.out, HB25.out⟩
              exact AllReady.nil
            exact AllReady.nil
          exact AllReady.nil
        exact AllReady.nil
      refine AllReady.cons rfl (fun K hK => ?_) ?_
      · go_simp
        refine hK _ _ ?_
        clear hK K
        have HB27 := Lib.hid (HB17.out.alloc HB17.out.size (.cells #[.string x, .string y] 9))
        have P27 := Pair.new W17 x y
        have X27 := X17.alloc (.cells #[.string x, .string y] 9)
        have ne27 : W17.heap.size ≠ W.heap.size := Nat.ne_of_gt X17.lt
        generalize W17.alloc (.cells #[.string x, .string y] 9) = W27 at HB27 P27 X27 ⊢
        refine wpAny_ready (rs := [3]) (by kernel_rfl) (by simp) ?_
        refine AllReady.cons rfl (fun K hK => ?_) ?_
        · go_simp
          go_wp2_with (go_at_call 13; refine (more_L (moreL 0 ss) B m d tt _ mb.1 mb.2 (g.below HB27.out).toStrRow).mono ?_; rintro e w' ⟨rfl, rfl⟩)
          refine wpAny_ready (rs := [6]) (by kernel_rfl) (by simp) ?_
          refine AllReady.cons rfl (fun K hK => ?_) ?_
          · refine step6 (.tmp 30) (.tmp 31) rfl rfl rfl rfl (h.below HB27.out).toStrRow X27 hs.1 ?_
            intro v29 W29 X29 hp29
            refine hK _ _ ?_
            clear hK K
            have HB29 := Lib.hid X29.bel
            have P29 := hp29 _ _ _ P27 ne27
            clear hp29
            refine wpAny_ready (rs := [14]) (by kernel_rfl) (by simp) ?_
            refine AllReady.cons rfl (fun K hK => ?_) ?_
            · refine step14 (.tmp 32) (.tmp 39) rfl rfl rfl rfl X29 P29 h.len hs.1 hfit.out ?_
              intro g30 cap30 W30 B30 R30
              refine hK _ _ ?_
              clear hK K
              have HB30 := Lib.hid B30
              clear B30
              refine wpAny_ready (rs := [15]) (by kernel_rfl) (by simp) ?_
              refine AllReady.cons rfl (fun K hK => ?_) ?_
              · go_simp
                go_wp2_with (go_at_call 11; refine (sum_L _ _ _ (ss ++ [x, y]) _ R30).mono ?_; rintro e w' ⟨rfl, rfl⟩)
                refine wpAny_take (i := 16) (v := .bool (moreL (moreL 0 ss) tt == moreL 0 (ss ++ [x, y]))) rfl (by kernel_rfl) (by kernel_rfl) (by kernel_rfl) (fun _ _ _ h => h) (Or.inl ⟨by rfl, ?_⟩) ?_
                · intro w; go_simp
                refine wpAny_take (i := 17) (v := .bool (moreL (moreL 0 ss) tt == moreL 0 (ss ++ [x, y]))) rfl (by kernel_rfl) (by kernel_rfl) (by kernel_rfl) (fun _ _ _ h => h) (Or.inl ⟨by rfl, ?_⟩) ?_
                · intro w; go_simp
                refine wpAny_done (by kernel_rfl) ?_ _
                go_wp2
                go_ret
                exact ⟨ret_bool HF.out, HB30.out⟩
              exact AllReady.nil
            exact AllReady.nil
          exact AllReady.nil
        exact AllReady.nil
      exact AllReady.nil
    refine AllReady.cons rfl (fun K hK => ?_) ?_
    · go_simp
      refine hK _ _ ?_
      clear hK K
      have HB32 := Lib.hid (HB.out.alloc HB.out.size (.cells #[.string x, .string y] 9))
      have P32 := Pair.new W x y
      generalize W.alloc (.cells #[.string x, .string y] 9) = W32 at HB32 P32 ⊢
      refine wpAny_ready (rs := [3, 4]) (by kernel_rfl) (by simp) ?_
      refine AllReady.cons rfl (fun K hK => ?_) ?_
      · go_simp
        go_wp2_with (go_at_call 13; refine (more_L (moreL 0 ss) B m d tt _ mb.1 mb.2 (g.below HB32.out).toStrRow).mono ?_; rintro e w' ⟨rfl, rfl⟩)
        refine wpAny_ready (rs := [4]) (by kernel_rfl) (by simp) ?_
        refine AllReady.cons rfl (fun K hK => ?_) ?_
        · go_simp
          refine hK _ _ ?_
          clear hK K
          have HB34 := Lib.hid (HB32.out.alloc HB32.out.size (.cells #[] 9))
          have X34 := S4.new HB32.out
          have P34 := P32.alloc (.cells #[] 9)
          have ne34 : W.heap.size ≠ W32.heap.size := Nat.ne_of_lt P32.lt
          generalize W32.alloc (.cells #[] 9) = W34 at HB34 X34 P34 ⊢
          refine wpAny_ready (rs := [6]) (by kernel_rfl) (by simp) ?_
          refine AllReady.cons rfl (fun K hK => ?_) ?_
          · refine step6 (.tmp 30) (.tmp 31) rfl rfl rfl rfl (h.below HB34.out).toStrRow X34 hs.1 ?_
            intro v35 W35 X35 hp35
            refine hK _ _ ?_
            clear hK K
            have HB35 := Lib.hid X35.bel
            have P35 := hp35 _ _ _ P34 ne34
            clear hp35
            refine wpAny_ready (rs := [14]) (by kernel_rfl) (by simp) ?_
            refine AllReady.cons rfl (fun K hK => ?_) ?_
            · refine step14 (.tmp 32) (.tmp 39) rfl rfl rfl rfl X35 P35 h.len hs.1 hfit.out ?_
              intro g36 cap36 W36 B36 R36
              refine hK _ _ ?_
              clear hK K
              have HB36 := Lib.hid B36
              clear B36
              refine wpAny_ready (rs := [15]) (by kernel_rfl) (by simp) ?_
              refine AllReady.cons rfl (fun K hK => ?_) ?_
              · go_simp
                go_wp2_with (go_at_call 11; refine (sum_L _ _ _ (ss ++ [x, y]) _ R36).mono ?_; rintro e w' ⟨rfl, rfl⟩)
                refine wpAny_take (i := 16) (v := .bool (moreL (moreL 0 ss) tt == moreL 0 (ss ++ [x, y]))) rfl (by kernel_rfl) (by kernel_rfl) (by kernel_rfl) (fun _ _ _ h => h) (Or.inl ⟨by rfl, ?_⟩) ?_
                · intro w; go_simp
                refine wpAny_take (i := 17) (v := .bool (moreL (moreL 0 ss) tt == moreL 0 (ss ++ [x, y]))) rfl (by kernel_rfl) (by kernel_rfl) (by kernel_rfl) (fun _ _ _ h => h) (Or.inl ⟨by rfl, ?_⟩) ?_
                · intro w; go_simp
                refine wpAny_done (by kernel_rfl) ?_ _
                go_wp2
                go_ret
                exact ⟨ret_bool HF.out, HB36.out⟩
              exact AllReady.nil
            exact AllReady.nil
          exact AllReady.nil
        exact AllReady.nil
      refine AllReady.cons rfl (fun K hK => ?_) ?_
      · go_simp
        refine hK _ _ ?_
        clear hK K
        have HB38 := Lib.hid (HB32.out.alloc HB32.out.size (.cells #[] 9))
        have X38 := S4.new HB32.out
        have P38 := P32.alloc (.cells #[] 9)
        have ne38 : W.heap.size ≠ W32.heap.size := Nat.ne_of_lt P32.lt
        generalize W32.alloc (.cells #[] 9) = W38 at HB38 X38 P38 ⊢
        refine wpAny_ready (rs := [3]) (by kernel_rfl) (by simp) ?_
        refine AllReady.cons rfl (fun K hK => ?_) ?_
        · go_simp
          go_wp2_with (go_at_call 13; refine (more_L (moreL 0 ss) B m d tt _ mb.1 mb.2 (g.below HB38.out).toStrRow).mono ?_; rintro e w' ⟨rfl, rfl⟩)
          refine wpAny_ready (rs := [6]) (by kernel_rfl) (by simp) ?_
          refine AllReady.cons rfl (fun K hK => ?_) ?_
          · refine step6 (.tmp 30) (.tmp 31) rfl rfl rfl rfl (h.below HB38.out).toStrRow X38 hs.1 ?_
            intro v40 W40 X40 hp40
            refine hK _ _ ?_
            clear hK K
            have HB40 := Lib.hid X40.bel
            have P40 := hp40 _ _ _ P38 ne38
            clear hp40
            refine wpAny_ready (rs := [14]) (by kernel_rfl) (by simp) ?_
            refine AllReady.cons rfl (fun K hK => ?_) ?_
            · refine step14 (.tmp 32) (.tmp 39) rfl rfl rfl rfl X40 P40 h.len hs.1 hfit.out ?_
              intro g41 cap41 W41 B41 R41
              refine hK _ _ ?_
              clear hK K
              have HB41 := Lib.hid B41
              clear B41
              refine wpAny_ready (rs := [15]) (by kernel_rfl) (by simp) ?_
              refine AllReady.cons rfl (fun K hK => ?_) ?_
              · go_simp
                go_wp2_with (go_at_call 11; refine (sum_L _ _ _ (ss ++ [x, y]) _ R41).mono ?_; rintro e w' ⟨rfl, rfl⟩)
                refine wpAny_take (i := 16) (v := .bool (moreL (moreL 0 ss) tt == moreL 0 (ss ++ [x, y]))) rfl (by kernel_rfl) (by kernel_rfl) (by kernel_rfl) (fun _ _ _ h => h) (Or.inl ⟨by rfl, ?_⟩) ?_
                · intro w; go_simp
                refine wpAny_take (i := 17) (v := .bool (moreL (moreL 0 ss) tt == moreL 0 (ss ++ [x, y]))) rfl (by kernel_rfl) (by kernel_rfl) (by kernel_rfl) (fun _ _ _ h => h) (Or.inl ⟨by rfl, ?_⟩) ?_
                · intro w; go_simp
                refine wpAny_done (by kernel_rfl) ?_ _
                go_wp2
                go_ret
                exact ⟨ret_bool HF.out, HB41.out⟩
              exact AllReady.nil
            exact AllReady.nil
          exact AllReady.nil
        exact AllReady.nil
      exact AllReady.nil
    exact AllReady.nil
  refine AllReady.cons rfl (fun K hK => ?_) ?_
  · go_simp
    refine hK _ _ ?_
    clear hK K
    have HB43 := Lib.hid (HB.out.alloc HB.out.size (.cells #[] 9))
    have X43 := S4.new HB.out
    generalize W.alloc (.cells #[] 9) = W43 at HB43 X43 ⊢
    refine wpAny_ready (rs := [1, 13]) (by kernel_rfl) (by simp) ?_
    refine AllReady.cons rfl (fun K hK => ?_) ?_
    · go_simp
      go_wp2_with (go_at_call 11; refine (sum_L A n c ss _ (h.below HB43.out).toStrRow).mono ?_; rintro e w' ⟨rfl, rfl⟩)
      refine wpAny_ready (rs := [3, 13]) (by kernel_rfl) (by simp) ?_
      refine AllReady.cons rfl (fun K hK => ?_) ?_
      · go_simp
        go_wp2_with (go_at_call 13; refine (more_L (moreL 0 ss) B m d tt _ mb.1 mb.2 (g.below HB43.out).toStrRow).mono ?_; rintro e w' ⟨rfl, rfl⟩)
        refine wpAny_ready (rs := [6, 13]) (by kernel_rfl) (by simp) ?_
        refine AllReady.cons rfl (fun K hK => ?_) ?_
        · refine step6 (.tmp 30) (.tmp 31) rfl rfl rfl rfl (h.below HB43.out).toStrRow X43 hs.1 ?_
          intro v46 W46 X46 hp46
          refine hK _ _ ?_
          clear hK K
          have HB46 := Lib.hid X46.bel
          clear hp46
          refine wpAny_ready (rs := [13]) (by kernel_rfl) (by simp) ?_
          refine AllReady.cons rfl (fun K hK => ?_) ?_
          · go_simp
            refine hK _ _ ?_
            clear hK K
            have HB47 := Lib.hid (HB46.out.alloc HB46.out.size (.cells #[.string x, .string y] 9))
            have P47 := Pair.new W46 x y
            have X47 := X46.alloc (.cells #[.string x, .string y] 9)
            generalize W46.alloc (.cells #[.string x, .string y] 9) = W47 at HB47 P47 X47 ⊢
            refine wpAny_ready (rs := [14]) (by kernel_rfl) (by simp) ?_
            refine AllReady.cons rfl (fun K hK => ?_) ?_
            · refine step14 (.tmp 32) (.tmp 39) rfl rfl rfl rfl X47 P47 h.len hs.1 hfit.out ?_
              intro g48 cap48 W48 B48 R48
              refine hK _ _ ?_
              clear hK K
              have HB48 := Lib.hid B48
              clear B48
              refine wpAny_ready (rs := [15]) (by kernel_rfl) (by simp) ?_
              refine AllReady.cons rfl (fun K hK => ?_) ?_
              · go_simp
                go_wp2_with (go_at_call 11; refine (sum_L _ _ _ (ss ++ [x, y]) _ R48).mono ?_; rintro e w' ⟨rfl, rfl⟩)
                refine wpAny_take (i := 16) (v := .bool (moreL (moreL 0 ss) tt == moreL 0 (ss ++ [x, y]))) rfl (by kernel_rfl) (by kernel_rfl) (by kernel_rfl) (fun _ _ _ h => h) (Or.inl ⟨by rfl, ?_⟩) ?_
                · intro w; go_simp
                refine wpAny_take (i := 17) (v := .bool (moreL (moreL 0 ss) tt == moreL 0 (ss ++ [x, y]))) rfl (by kernel_rfl) (by kernel_rfl) (by kernel_rfl) (fun _ _ _ h => h) (Or.inl ⟨by rfl, ?_⟩) ?_
                · intro w; go_simp
                refine wpAny_done (by kernel_rfl) ?_ _
                go_wp2
                go_ret
                exact ⟨ret_bool HF.out, HB48.out⟩
              exact AllReady.nil
            exact AllReady.nil
          exact AllReady.nil
        refine AllReady.cons rfl (fun K hK => ?_) ?_
        · go_simp
          refine hK _ _ ?_
          clear hK K
          have HB50 := Lib.hid (HB43.out.alloc HB43.out.size (.cells #[.string x, .string y] 9))
          have P50 := Pair.new W43 x y
          have X50 := X43.alloc (.cells #[.string x, .string y] 9)
          have ne50 : W43.heap.size ≠ W.heap.size := Nat.ne_of_gt X43.lt
          generalize W43.alloc (.cells #[.string x, .string y] 9) = W50 at HB50 P50 X50 ⊢
          refine wpAny_ready (rs := [6]) (by kernel_rfl) (by simp) ?_
          refine AllReady.cons rfl (fun K hK => ?_) ?_
          · refine step6 (.tmp 30) (.tmp 31) rfl rfl rfl rfl (h.below HB50.out).toStrRow X50 hs.1 ?_
            intro v51 W51 X51 hp51
            refine hK _ _ ?_
            clear hK K
            have HB51 := Lib.hid X51.bel
            have P51 := hp51 _ _ _ P50 ne50
            clear hp51
            refine wpAny_ready (rs := [14]) (by kernel_rfl) (by simp) ?_
            refine AllReady.cons rfl (fun K hK => ?_) ?_
            · refine step14 (.tmp 32) (.tmp 39) rfl rfl rfl rfl X51 P51 h.len hs.1 hfit.out ?_
              intro g52 cap52 W52 B52 R52
              refine hK _ _ ?_
              clear hK K
              have HB52 := Lib.hid B52
              clear B52
              refine wpAny_ready (rs := [15]) (by kernel_rfl) (by simp) ?_
              refine AllReady.cons rfl (fun K hK => ?_) ?_
              · go_simp
                go_wp2_with (go_at_call 11; refine (sum_L _ _ _ (ss ++ [x, y]) _ R52).mono ?_; rintro e w' ⟨rfl, rfl⟩)
                refine wpAny_take (i := 16) (v := .bool (moreL (moreL 0 ss) tt == moreL 0 (ss ++ [x, y]))) rfl (by kernel_rfl) (by kernel_rfl) (by kernel_rfl) (fun _ _ _ h => h) (Or.inl ⟨by rfl, ?_⟩) ?_
                · intro w; go_simp
                refine wpAny_take (i := 17) (v := .bool (moreL (moreL 0 ss) tt == moreL 0 (ss ++ [x, y]))) rfl (by kernel_rfl) (by kernel_rfl) (by kernel_rfl) (fun _ _ _ h => h) (Or.inl ⟨by rfl, ?_⟩) ?_
                · intro w; go_simp
                refine wpAny_done (by kernel_rfl) ?_ _
                go_wp2
                go_ret
                exact ⟨ret_bool HF.out, HB52.out⟩
              exact AllReady.nil
            exact AllReady.nil
          exact AllReady.nil
        exact AllReady.nil
      refine AllReady.cons rfl (fun K hK => ?_) ?_
      · go_simp
        refine hK _ _ ?_
        clear hK K
        have HB54 := Lib.hid (HB43.out.alloc HB43.out.size (.cells #[.string x, .string y] 9))
        have P54 := Pair.new W43 x y
        have X54 := X43.alloc (.cells #[.string x, .string y] 9)
        have ne54 : W43.heap.size ≠ W.heap.size := Nat.ne_of_gt X43.lt
        generalize W43.alloc (.cells #[.string x, .string y] 9) = W54 at HB54 P54 X54 ⊢
        refine wpAny_ready (rs := [3]) (by kernel_rfl) (by simp) ?_
        refine AllReady.cons rfl (fun K hK => ?_) ?_
        · go_simp
          go_wp2_with (go_at_call 13; refine (more_L (moreL 0 ss) B m d tt _ mb.1 mb.2 (g.below HB54.out).toStrRow).mono ?_; rintro e w' ⟨rfl, rfl⟩)
          refine wpAny_ready (rs := [6]) (by kernel_rfl) (by simp) ?_
          refine AllReady.cons rfl (fun K hK => ?_) ?_
          · refine step6 (.tmp 30) (.tmp 31) rfl rfl rfl rfl (h.below HB54.out).toStrRow X54 hs.1 ?_
            intro v56 W56 X56 hp56
            refine hK _ _ ?_
            clear hK K
            have HB56 := Lib.hid X56.bel
            have P56 := hp56 _ _ _ P54 ne54
            clear hp56
            refine wpAny_ready (rs := [14]) (by kernel_rfl) (by simp) ?_
            refine AllReady.cons rfl (fun K hK => ?_) ?_
            · refine step14 (.tmp 32) (.tmp 39) rfl rfl rfl rfl X56 P56 h.len hs.1 hfit.out ?_
              intro g57 cap57 W57 B57 R57
              refine hK _ _ ?_
              clear hK K
              have HB57 := Lib.hid B57
              clear B57
              refine wpAny_ready (rs := [15]) (by kernel_rfl) (by simp) ?_
              refine AllReady.cons rfl (fun K hK => ?_) ?_
              · go_simp
                go_wp2_with (go_at_call 11; refine (sum_L _ _ _ (ss ++ [x, y]) _ R57).mono ?_; rintro e w' ⟨rfl, rfl⟩)
                refine wpAny_take (i := 16) (v := .bool (moreL (moreL 0 ss) tt == moreL 0 (ss ++ [x, y]))) rfl (by kernel_rfl) (by kernel_rfl) (by kernel_rfl) (fun _ _ _ h => h) (Or.inl ⟨by rfl, ?_⟩) ?_
                · intro w; go_simp
                refine wpAny_take (i := 17) (v := .bool (moreL (moreL 0 ss) tt == moreL 0 (ss ++ [x, y]))) rfl (by kernel_rfl) (by kernel_rfl) (by kernel_rfl) (fun _ _ _ h => h) (Or.inl ⟨by rfl, ?_⟩) ?_
                · intro w; go_simp
                refine wpAny_done (by kernel_rfl) ?_ _
                go_wp2
                go_ret
                exact ⟨ret_bool HF.out, HB57.out⟩
              exact AllReady.nil
            exact AllReady.nil
          exact AllReady.nil
        exact AllReady.nil
      exact AllReady.nil
    refine AllReady.cons rfl (fun K hK => ?_) ?_
    · go_simp
      refine hK _ _ ?_
      clear hK K
      have HB59 := Lib.hid (HB43.out.alloc HB43.out.size (.cells #[.string x, .string y] 9))
      have P59 := Pair.new W43 x y
      have X59 := X43.alloc (.cells #[.string x, .string y] 9)
      have ne59 : W43.heap.size ≠ W.heap.size := Nat.ne_of_gt X43.lt
      generalize W43.alloc (.cells #[.string x, .string y] 9) = W59 at HB59 P59 X59 ⊢
      refine wpAny_ready (rs := [1]) (by kernel_rfl) (by simp) ?_
      refine AllReady.cons rfl (fun K hK => ?_) ?_
      · go_simp
        go_wp2_with (go_at_call 11; refine (sum_L A n c ss _ (h.below HB59.out).toStrRow).mono ?_; rintro e w' ⟨rfl, rfl⟩)
        refine wpAny_ready (rs := [3]) (by kernel_rfl) (by simp) ?_
        refine AllReady.cons rfl (fun K hK => ?_) ?_
        · go_simp
          go_wp2_with (go_at_call 13; refine (more_L (moreL 0 ss) B m d tt _ mb.1 mb.2 (g.below HB59.out).toStrRow).mono ?_; rintro e w' ⟨rfl, rfl⟩)
          refine wpAny_ready (rs := [6]) (by kernel_rfl) (by simp) ?_
          refine AllReady.cons rfl (fun K hK => ?_) ?_
          · refine step6 (.tmp 30) (.tmp 31) rfl rfl rfl rfl (h.below HB59.out).toStrRow X59 hs.1 ?_
            intro v62 W62 X62 hp62
            refine hK _ _ ?_
            clear hK K
            have HB62 := Lib.hid X62.bel
            have P62 := hp62 _ _ _ P59 ne59
            clear hp62
            refine wpAny_ready (rs := [14]) (by kernel_rfl) (by simp) ?_
            refine AllReady.cons rfl (fun K hK => ?_) ?_
            · refine step14 (.tmp 32) (.tmp 39) rfl rfl rfl rfl X62 P62 h.len hs.1 hfit.out ?_
              intro g63 cap63 W63 B63 R63
              refine hK _ _ ?_
              clear hK K
              have HB63 := Lib.hid B63
              clear B63
              refine wpAny_ready (rs := [15]) (by kernel_rfl) (by simp) ?_
              refine AllReady.cons rfl (fun K hK => ?_) ?_
              · go_simp
                go_wp2_with (go_at_call 11; refine (sum_L _ _ _ (ss ++ [x, y]) _ R63).mono ?_; rintro e w' ⟨rfl, rfl⟩)
                refine wpAny_take (i := 16) (v := .bool (moreL (moreL 0 ss) tt == moreL 0 (ss ++ [x, y]))) rfl (by kernel_rfl) (by kernel_rfl) (by kernel_rfl) (fun _ _ _ h => h) (Or.inl ⟨by rfl, ?_⟩) ?_
                · intro w; go_simp
                refine wpAny_take (i := 17) (v := .bool (moreL (moreL 0 ss) tt == moreL 0 (ss ++ [x, y]))) rfl (by kernel_rfl) (by kernel_rfl) (by kernel_rfl) (fun _ _ _ h => h) (Or.inl ⟨by rfl, ?_⟩) ?_
                · intro w; go_simp
                refine wpAny_done (by kernel_rfl) ?_ _
                go_wp2
                go_ret
                exact ⟨ret_bool HF.out, HB63.out⟩
              exact AllReady.nil
            exact AllReady.nil
          exact AllReady.nil
        exact AllReady.nil
      exact AllReady.nil
    exact AllReady.nil
  refine AllReady.cons rfl (fun K hK => ?_) ?_
  · go_simp
    refine hK _ _ ?_
    clear hK K
    have HB65 := Lib.hid (HB.out.alloc HB.out.size (.cells #[.string x, .string y] 9))
    have P65 := Pair.new W x y
    generalize W.alloc (.cells #[.string x, .string y] 9) = W65 at HB65 P65 ⊢
    refine wpAny_ready (rs := [1, 4]) (by kernel_rfl) (by simp) ?_
    refine AllReady.cons rfl (fun K hK => ?_) ?_
    · go_simp
      go_wp2_with (go_at_call 11; refine (sum_L A n c ss _ (h.below HB65.out).toStrRow).mono ?_; rintro e w' ⟨rfl, rfl⟩)
      refine wpAny_ready (rs := [3, 4]) (by kernel_rfl) (by simp) ?_
      refine AllReady.cons rfl (fun K hK => ?_) ?_
      · go_simp
        go_wp2_with (go_at_call 13; refine (more_L (moreL 0 ss) B m d tt _ mb.1 mb.2 (g.below HB65.out).toStrRow).mono ?_; rintro e w' ⟨rfl, rfl⟩)
        refine wpAny_ready (rs := [4]) (by kernel_rfl) (by simp) ?_
        refine AllReady.cons rfl (fun K hK => ?_) ?_
        · go_simp
          refine hK _ _ ?_
          clear hK K
          have HB68 := Lib.hid (HB65.out.alloc HB65.out.size (.cells #[] 9))
          have X68 := S4.new HB65.out
          have P68 := P65.alloc (.cells #[] 9)
          have ne68 : W.heap.size ≠ W65.heap.size := Nat.ne_of_lt P65.lt
          generalize W65.alloc (.cells #[] 9) = W68 at HB68 X68 P68 ⊢
          refine wpAny_ready (rs := [6]) (by kernel_rfl) (by simp) ?_
          refine AllReady.cons rfl (fun K hK => ?_) ?_
          · refine step6 (.tmp 30) (.tmp 31) rfl rfl rfl rfl (h.below HB68.out).toStrRow X68 hs.1 ?_
            intro v69 W69 X69 hp69
            refine hK _ _ ?_
            clear hK K
            have HB69 := Lib.hid X69.bel
            have P69 := hp69 _ _ _ P68 ne68
            clear hp69
            refine wpAny_ready (rs := [14]) (by kernel_rfl) (by simp) ?_
            refine AllReady.cons rfl (fun K hK => ?_) ?_
            · refine step14 (.tmp 32) (.tmp 39) rfl rfl rfl rfl X69 P69 h.len hs.1 hfit.out ?_
              intro g70 cap70 W70 B70 R70
              refine hK _ _ ?_
              clear hK K
              have HB70 := Lib.hid B70
              clear B70
              refine wpAny_ready (rs := [15]) (by kernel_rfl) (by simp) ?_
              refine AllReady.cons rfl (fun K hK => ?_) ?_
              · go_simp
                go_wp2_with (go_at_call 11; refine (sum_L _ _ _ (ss ++ [x, y]) _ R70).mono ?_; rintro e w' ⟨rfl, rfl⟩)
                refine wpAny_take (i := 16) (v := .bool (moreL (moreL 0 ss) tt == moreL 0 (ss ++ [x, y]))) rfl (by kernel_rfl) (by kernel_rfl) (by kernel_rfl) (fun _ _ _ h => h) (Or.inl ⟨by rfl, ?_⟩) ?_
                · intro w; go_simp
                refine wpAny_take (i := 17) (v := .bool (moreL (moreL 0 ss) tt == moreL 0 (ss ++ [x, y]))) rfl (by kernel_rfl) (by kernel_rfl) (by kernel_rfl) (fun _ _ _ h => h) (Or.inl ⟨by rfl, ?_⟩) ?_
                · intro w; go_simp
                refine wpAny_done (by kernel_rfl) ?_ _
                go_wp2
                go_ret
                exact ⟨ret_bool HF.out, HB70.out⟩
              exact AllReady.nil
            exact AllReady.nil
          exact AllReady.nil
        exact AllReady.nil
      refine AllReady.cons rfl (fun K hK => ?_) ?_
      · go_simp
        refine hK _ _ ?_
        clear hK K
        have HB72 := Lib.hid (HB65.out.alloc HB65.out.size (.cells #[] 9))
        have X72 := S4.new HB65.out
        have P72 := P65.alloc (.cells #[] 9)
        have ne72 : W.heap.size ≠ W65.heap.size := Nat.ne_of_lt P65.lt
        generalize W65.alloc (.cells #[] 9) = W72 at HB72 X72 P72 ⊢
        refine wpAny_ready (rs := [3]) (by kernel_rfl) (by simp) ?_
        refine AllReady.cons rfl (fun K hK => ?_) ?_
        · go_simp
          go_wp2_with (go_at_call 13; refine (more_L (moreL 0 ss) B m d tt _ mb.1 mb.2 (g.below HB72.out).toStrRow).mono ?_; rintro e w' ⟨rfl, rfl⟩)
          refine wpAny_ready (rs := [6]) (by kernel_rfl) (by simp) ?_
          refine AllReady.cons rfl (fun K hK => ?_) ?_
          · refine step6 (.tmp 30) (.tmp 31) rfl rfl rfl rfl (h.below HB72.out).toStrRow X72 hs.1 ?_
            intro v74 W74 X74 hp74
            refine hK _ _ ?_
            clear hK K
            have HB74 := Lib.hid X74.bel
            have P74 := hp74 _ _ _ P72 ne72
            clear hp74
            refine wpAny_ready (rs := [14]) (by kernel_rfl) (by simp) ?_
            refine AllReady.cons rfl (fun K hK => ?_) ?_
            · refine step14 (.tmp 32) (.tmp 39) rfl rfl rfl rfl X74 P74 h.len hs.1 hfit.out ?_
              intro g75 cap75 W75 B75 R75
              refine hK _ _ ?_
              clear hK K
              have HB75 := Lib.hid B75
              clear B75
              refine wpAny_ready (rs := [15]) (by kernel_rfl) (by simp) ?_
              refine AllReady.cons rfl (fun K hK => ?_) ?_
              · go_simp
                go_wp2_with (go_at_call 11; refine (sum_L _ _ _ (ss ++ [x, y]) _ R75).mono ?_; rintro e w' ⟨rfl, rfl⟩)
                refine wpAny_take (i := 16) (v := .bool (moreL (moreL 0 ss) tt == moreL 0 (ss ++ [x, y]))) rfl (by kernel_rfl) (by kernel_rfl) (by kernel_rfl) (fun _ _ _ h => h) (Or.inl ⟨by rfl, ?_⟩) ?_
                · intro w; go_simp
                refine wpAny_take (i := 17) (v := .bool (moreL (moreL 0 ss) tt == moreL 0 (ss ++ [x, y]))) rfl (by kernel_rfl) (by kernel_rfl) (by kernel_rfl) (fun _ _ _ h => h) (Or.inl ⟨by rfl, ?_⟩) ?_
                · intro w; go_simp
                refine wpAny_done (by kernel_rfl) ?_ _
                go_wp2
                go_ret
                exact ⟨ret_bool HF.out, HB75.out⟩
              exact AllReady.nil
            exact AllReady.nil
          exact AllReady.nil
        exact AllReady.nil
      exact AllReady.nil
    refine AllReady.cons rfl (fun K hK => ?_) ?_
    · go_simp
      refine hK _ _ ?_
      clear hK K
      have HB77 := Lib.hid (HB65.out.alloc HB65.out.size (.cells #[] 9))
      have X77 := S4.new HB65.out
      have P77 := P65.alloc (.cells #[] 9)
      have ne77 : W.heap.size ≠ W65.heap.size := Nat.ne_of_lt P65.lt
      generalize W65.alloc (.cells #[] 9) = W77 at HB77 X77 P77 ⊢
      refine wpAny_ready (rs := [1]) (by kernel_rfl) (by simp) ?_
      refine AllReady.cons rfl (fun K hK => ?_) ?_
      · go_simp
        go_wp2_with (go_at_call 11; refine (sum_L A n c ss _ (h.below HB77.out).toStrRow).mono ?_; rintro e w' ⟨rfl, rfl⟩)
        refine wpAny_ready (rs := [3]) (by kernel_rfl) (by simp) ?_
        refine AllReady.cons rfl (fun K hK => ?_) ?_
        · go_simp
          go_wp2_with (go_at_call 13; refine (more_L (moreL 0 ss) B m d tt _ mb.1 mb.2 (g.below HB77.out).toStrRow).mono ?_; rintro e w' ⟨rfl, rfl⟩)
          refine wpAny_ready (rs := [6]) (by kernel_rfl) (by simp) ?_
          refine AllReady.cons rfl (fun K hK => ?_) ?_
          · refine step6 (.tmp 30) (.tmp 31) rfl rfl rfl rfl (h.below HB77.out).toStrRow X77 hs.1 ?_
            intro v80 W80 X80 hp80
            refine hK _ _ ?_
            clear hK K
            have HB80 := Lib.hid X80.bel
            have P80 := hp80 _ _ _ P77 ne77
            clear hp80
            refine wpAny_ready (rs := [14]) (by kernel_rfl) (by simp) ?_
            refine AllReady.cons rfl (fun K hK => ?_) ?_
            · refine step14 (.tmp 32) (.tmp 39) rfl rfl rfl rfl X80 P80 h.len hs.1 hfit.out ?_
              intro g81 cap81 W81 B81 R81
              refine hK _ _ ?_
              clear hK K
              have HB81 := Lib.hid B81
              clear B81
              refine wpAny_ready (rs := [15]) (by kernel_rfl) (by simp) ?_
              refine AllReady.cons rfl (fun K hK => ?_) ?_
              · go_simp
                go_wp2_with (go_at_call 11; refine (sum_L _ _ _ (ss ++ [x, y]) _ R81).mono ?_; rintro e w' ⟨rfl, rfl⟩)
                refine wpAny_take (i := 16) (v := .bool (moreL (moreL 0 ss) tt == moreL 0 (ss ++ [x, y]))) rfl (by kernel_rfl) (by kernel_rfl) (by kernel_rfl) (fun _ _ _ h => h) (Or.inl ⟨by rfl, ?_⟩) ?_
                · intro w; go_simp
                refine wpAny_take (i := 17) (v := .bool (moreL (moreL 0 ss) tt == moreL 0 (ss ++ [x, y]))) rfl (by kernel_rfl) (by kernel_rfl) (by kernel_rfl) (fun _ _ _ h => h) (Or.inl ⟨by rfl, ?_⟩) ?_
                · intro w; go_simp
                refine wpAny_done (by kernel_rfl) ?_ _
                go_wp2
                go_ret
                exact ⟨ret_bool HF.out, HB81.out⟩
              exact AllReady.nil
            exact AllReady.nil
          exact AllReady.nil
        exact AllReady.nil
      exact AllReady.nil
    exact AllReady.nil
  exact AllReady.nil

set_option maxHeartbeats 20000000 in
theorem walk_out (A : Option Addr) (n c : Nat) (ss : List ByteArray) (B : Option Addr) (m d : Nat) (tt : List ByteArray) (at_ : Int) (w : World) (h : TextRow w A n ss) (g : TextRow w B m tt) (hs : n ≤ 60 ∧ (bytesOf ss).length ≤ 3000) (ht : m ≤ 60 ∧ (bytesOf tt).length ≤ 3000) (hk : at_ < 0 ∨ ((joined tt).size : Int) < at_) :
    Calls Try.prog 7 #[.slice A n c, .slice B m d, .int .i64 at_] w fun e w' => e = .returned (.bool true) ∧ Below w.heap.size w w' := by
  have hsz : (joined tt).size ≤ 3000 := by rw [joined_size]; exact ht.2
  have mb := moreL_bd 0 ss
  go_enter Try.func7, Try.ntmps7
  go_wp2_with fail
  refine (awake_any w).mono ?_
  rintro e w1 ⟨rfl, hb⟩
  have q1 := h.below hb
  have q2 := g.below hb
  go_wp2_with fail
  refine (long_short A n c ss _ q1.toStrRow hs.1 hs.2).mono ?_
  rintro e w' ⟨rfl, rfl⟩
  go_wp2_with fail
  refine (long_short B m d tt _ q2.toStrRow ht.1 ht.2).mono ?_
  rintro e w' ⟨rfl, rfl⟩
  go_wp2_with fail
  refine (joined_any B m d tt _ q2.toStrRow ht.1 ht.2).mono ?_
  rintro e w' ⟨rfl, rfl⟩
  go_wp2_with fail
  all_goals
    have hxy := cut_of tt 0
    refine wp_region_any (by kernel_rfl) ?_
    change wpAny _ _ _ _ _ _ _ (World.drew _)
    have HB := Lib.hid hb.drew
    clear hb q1 q2
    generalize w1.drew = W at HB ⊢
    refine wpAny_take (i := 0) (v := .slice A n c) rfl (by kernel_rfl) (by kernel_rfl) (by kernel_rfl) (fun _ _ _ h => h) (Or.inl ⟨by rfl, ?_⟩) ?_
    · intro w; go_simp
    refine wpAny_take (i := 2) (v := .slice B m d) rfl (by kernel_rfl) (by kernel_rfl) (by kernel_rfl) (fun _ _ _ h => h) (Or.inl ⟨by rfl, ?_⟩) ?_
    · intro w; go_simp
    refine wpAny_take (i := 5) (v := .slice A n c) rfl (by kernel_rfl) (by kernel_rfl) (by kernel_rfl) (fun _ _ _ h => h) (Or.inl ⟨by rfl, ?_⟩) ?_
    · intro w; go_simp
    refine wpAny_take (i := 7) (v := .string (joined tt)) rfl (by kernel_rfl) (by kernel_rfl) (by kernel_rfl) (fun _ _ _ h => h) (Or.inl ⟨by rfl, ?_⟩) ?_
    · intro w; go_simp
    refine wpAny_take (i := 8) (v := .int .i64 0) rfl (by kernel_rfl) (by kernel_rfl) (by kernel_rfl) (fun _ _ _ h => h) (Or.inl ⟨by rfl, ?_⟩) ?_
    · intro w; go_simp
    refine wpAny_take (i := 9) (v := .string ((joined tt).extract 0 0)) rfl (by kernel_rfl) (by kernel_rfl) (by kernel_rfl) (fun _ _ _ h => h) (Or.inl ⟨by rfl, ?_⟩) ?_
    · intro w; go_simp
    refine wpAny_take (i := 10) (v := .string (joined tt)) rfl (by kernel_rfl) (by kernel_rfl) (by kernel_rfl) (fun _ _ _ h => h) (Or.inl ⟨by rfl, ?_⟩) ?_
    · intro w; go_simp
    refine wpAny_take (i := 11) (v := .int .i64 0) rfl (by kernel_rfl) (by kernel_rfl) (by kernel_rfl) (fun _ _ _ h => h) (Or.inl ⟨by rfl, ?_⟩) ?_
    · intro w; go_simp
    refine wpAny_take (i := 12) (v := .string ((joined tt).extract 0 (joined tt).size)) rfl (by kernel_rfl) (by kernel_rfl) (by kernel_rfl) (fun _ _ _ h => h) (Or.inl ⟨by rfl, ?_⟩) ?_
    · intro w; go_simp
    generalize hxe : (joined tt).extract 0 0 = x at hxy ⊢
    generalize hye : (joined tt).extract 0 (joined tt).size = y at hxy ⊢
    clear hxe hye
    have HF := Lib.hid (fin ss tt x y hxy)
    have hfit := Lib.hid (fits n ss tt x y h.toStrRow hxy ht.2)
    clear hxy
    refine wpAny_ready (rs := [1, 4, 13]) (by kernel_rfl) (by simp) ?_
    refine AllReady.cons rfl (fun K hK => ?_) ?_
    · go_simp
      go_wp2_with (go_at_call 11; refine (sum_L A n c ss _ (h.below HB.out).toStrRow).mono ?_; rintro e w' ⟨rfl, rfl⟩)
      refine wpAny_ready (rs := [3, 4, 13]) (by kernel_rfl) (by simp) ?_
      refine AllReady.cons rfl (fun K hK => ?_) ?_
      · go_simp
        go_wp2_with (go_at_call 13; refine (more_L (moreL 0 ss) B m d tt _ mb.1 mb.2 (g.below HB.out).toStrRow).mono ?_; rintro e w' ⟨rfl, rfl⟩)
        refine wpAny_ready (rs := [4, 13]) (by kernel_rfl) (by simp) ?_
        refine AllReady.cons rfl (fun K hK => ?_) ?_
        · go_simp
          refine hK _ _ ?_
          clear hK K
          have HB3 := Lib.hid (HB.out.alloc HB.out.size (.cells #[] 9))
          have X3 := S4.new HB.out
          generalize W.alloc (.cells #[] 9) = W3 at HB3 X3 ⊢
          refine wpAny_ready (rs := [6, 13]) (by kernel_rfl) (by simp) ?_
          refine AllReady.cons rfl (fun K hK => ?_) ?_
          · refine step6 (.tmp 30) (.tmp 31) rfl rfl rfl rfl (h.below HB3.out).toStrRow X3 hs.1 ?_
            intro v4 W4 X4 hp4
            refine hK _ _ ?_
            clear hK K
            have HB4 := Lib.hid X4.bel
            clear hp4
            refine wpAny_ready (rs := [13]) (by kernel_rfl) (by simp) ?_
            refine AllReady.cons rfl (fun K hK => ?_) ?_
            · go_simp
              refine hK _ _ ?_
              clear hK K
              have HB5 := Lib.hid (HB4.out.alloc HB4.out.size (.cells #[.string x, .string y] 9))
              have P5 := Pair.new W4 x y
              have X5 := X4.alloc (.cells #[.string x, .string y] 9)
              generalize W4.alloc (.cells #[.string x, .string y] 9) = W5 at HB5 P5 X5 ⊢
              refine wpAny_ready (rs := [14]) (by kernel_rfl) (by simp) ?_
              refine AllReady.cons rfl (fun K hK => ?_) ?_
              · refine step14 (.tmp 32) (.tmp 39) rfl rfl rfl rfl X5 P5 h.len hs.1 hfit.out ?_
                intro g6 cap6 W6 B6 R6
                refine hK _ _ ?_
                clear hK K
                have HB6 := Lib.hid B6
                clear B6
                refine wpAny_ready (rs := [15]) (by kernel_rfl) (by simp) ?_
                refine AllReady.cons rfl (fun K hK => ?_) ?_
                · go_simp
                  go_wp2_with (go_at_call 11; refine (sum_L _ _ _ (ss ++ [x, y]) _ R6).mono ?_; rintro e w' ⟨rfl, rfl⟩)
                  refine wpAny_take (i := 16) (v := .bool (moreL (moreL 0 ss) tt == moreL 0 (ss ++ [x, y]))) rfl (by kernel_rfl) (by kernel_rfl) (by kernel_rfl) (fun _ _ _ h => h) (Or.inl ⟨by rfl, ?_⟩) ?_
                  · intro w; go_simp
                  refine wpAny_take (i := 17) (v := .bool (moreL (moreL 0 ss) tt == moreL 0 (ss ++ [x, y]))) rfl (by kernel_rfl) (by kernel_rfl) (by kernel_rfl) (fun _ _ _ h => h) (Or.inl ⟨by rfl, ?_⟩) ?_
                  · intro w; go_simp
                  refine wpAny_done (by kernel_rfl) ?_ _
                  go_wp2
                  go_ret
                  exact ⟨ret_bool HF.out, HB6.out⟩
                exact AllReady.nil
              exact AllReady.nil
            exact AllReady.nil
          refine AllReady.cons rfl (fun K hK => ?_) ?_
          · go_simp
            refine hK _ _ ?_
            clear hK K
            have HB8 := Lib.hid (HB3.out.alloc HB3.out.size (.cells #[.string x, .string y] 9))
            have P8 := Pair.new W3 x y
            have X8 := X3.alloc (.cells #[.string x, .string y] 9)
            have ne8 : W3.heap.size ≠ W.heap.size := Nat.ne_of_gt X3.lt
            generalize W3.alloc (.cells #[.string x, .string y] 9) = W8 at HB8 P8 X8 ⊢
            refine wpAny_ready (rs := [6]) (by kernel_rfl) (by simp) ?_
            refine AllReady.cons rfl (fun K hK => ?_) ?_
            · refine step6 (.tmp 30) (.tmp 31) rfl rfl rfl rfl (h.below HB8.out).toStrRow X8 hs.1 ?_
              intro v9 W9 X9 hp9
              refine hK _ _ ?_
              clear hK K
              have HB9 := Lib.hid X9.bel
              have P9 := hp9 _ _ _ P8 ne8
              clear hp9
              refine wpAny_ready (rs := [14]) (by kernel_rfl) (by simp) ?_
              refine AllReady.cons rfl (fun K hK => ?_) ?_
              · refine step14 (.tmp 32) (.tmp 39) rfl rfl rfl rfl X9 P9 h.len hs.1 hfit.out ?_
                intro g10 cap10 W10 B10 R10
                refine hK _ _ ?_
                clear hK K
                have HB10 := Lib.hid B10
                clear B10
                refine wpAny_ready (rs := [15]) (by kernel_rfl) (by simp) ?_
                refine AllReady.cons rfl (fun K hK => ?_) ?_
                · go_simp
                  go_wp2_with (go_at_call 11; refine (sum_L _ _ _ (ss ++ [x, y]) _ R10).mono ?_; rintro e w' ⟨rfl, rfl⟩)
                  refine wpAny_take (i := 16) (v := .bool (moreL (moreL 0 ss) tt == moreL 0 (ss ++ [x, y]))) rfl (by kernel_rfl) (by kernel_rfl) (by kernel_rfl) (fun _ _ _ h => h) (Or.inl ⟨by rfl, ?_⟩) ?_
                  · intro w; go_simp
                  refine wpAny_take (i := 17) (v := .bool (moreL (moreL 0 ss) tt == moreL 0 (ss ++ [x, y]))) rfl (by kernel_rfl) (by kernel_rfl) (by kernel_rfl) (fun _ _ _ h => h) (Or.inl ⟨by rfl, ?_⟩) ?_
                  · intro w; go_simp
                  refine wpAny_done (by kernel_rfl) ?_ _
                  go_wp2
                  go_ret
                  exact ⟨ret_bool HF.out, HB10.out⟩
                exact AllReady.nil
              exact AllReady.nil
            exact AllReady.nil
          exact AllReady.nil
        refine AllReady.cons rfl (fun K hK => ?_) ?_
        · go_simp
          refine hK _ _ ?_
          clear hK K
          have HB12 := Lib.hid (HB.out.alloc HB.out.size (.cells #[.string x, .string y] 9))
          have P12 := Pair.new W x y
          generalize W.alloc (.cells #[.string x, .string y] 9) = W12 at HB12 P12 ⊢
          refine wpAny_ready (rs := [4]) (by kernel_rfl) (by simp) ?_
          refine AllReady.cons rfl (fun K hK => ?_) ?_
          · go_simp
            refine hK _ _ ?_
            clear hK K
            have HB13 := Lib.hid (HB12.out.alloc HB12.out.size (.cells #[] 9))
            have X13 := S4.new HB12.out
            have P13 := P12.alloc (.cells #[] 9)
            have ne13 : W.heap.size ≠ W12.heap.size := Nat.ne_of_lt P12.lt
            generalize W12.alloc (.cells #[] 9) = W13 at HB13 X13 P13 ⊢
            refine wpAny_ready (rs := [6]) (by kernel_rfl) (by simp) ?_
            refine AllReady.cons rfl (fun K hK => ?_) ?_
            · refine step6 (.tmp 30) (.tmp 31) rfl rfl rfl rfl (h.below HB13.out).toStrRow X13 hs.1 ?_
              intro v14 W14 X14 hp14
              refine hK _ _ ?_
              clear hK K
              have HB14 := Lib.hid X14.bel
              have P14 := hp14 _ _ _ P13 ne13
              clear hp14
              refine wpAny_ready (rs := [14]) (by kernel_rfl) (by simp) ?_
              refine AllReady.cons rfl (fun K hK => ?_) ?_
              · refine step14 (.tmp 32) (.tmp 39) rfl rfl rfl rfl X14 P14 h.len hs.1 hfit.out ?_
                intro g15 cap15 W15 B15 R15
                refine hK _ _ ?_
                clear hK K
                have HB15 := Lib.hid B15
                clear B15
                refine wpAny_ready (rs := [15]) (by kernel_rfl) (by simp) ?_
                refine AllReady.cons rfl (fun K hK => ?_) ?_
                · go_simp
                  go_wp2_with (go_at_call 11; refine (sum_L _ _ _ (ss ++ [x, y]) _ R15).mono ?_; rintro e w' ⟨rfl, rfl⟩)
                  refine wpAny_take (i := 16) (v := .bool (moreL (moreL 0 ss) tt == moreL 0 (ss ++ [x, y]))) rfl (by kernel_rfl) (by kernel_rfl) (by kernel_rfl) (fun _ _ _ h => h) (Or.inl ⟨by rfl, ?_⟩) ?_
                  · intro w; go_simp
                  refine wpAny_take (i := 17) (v := .bool (moreL (moreL 0 ss) tt == moreL 0 (ss ++ [x, y]))) rfl (by kernel_rfl) (by kernel_rfl) (by kernel_rfl) (fun _ _ _ h => h) (Or.inl ⟨by rfl, ?_⟩) ?_
                  · intro w; go_simp
                  refine wpAny_done (by kernel_rfl) ?_ _
                  go_wp2
                  go_ret
                  exact ⟨ret_bool HF.out, HB15.out⟩
                exact AllReady.nil
              exact AllReady.nil
            exact AllReady.nil
          exact AllReady.nil
        exact AllReady.nil
      refine AllReady.cons rfl (fun K hK => ?_) ?_
      · go_simp
        refine hK _ _ ?_
        clear hK K
        have HB17 := Lib.hid (HB.out.alloc HB.out.size (.cells #[] 9))
        have X17 := S4.new HB.out
        generalize W.alloc (.cells #[] 9) = W17 at HB17 X17 ⊢
        refine wpAny_ready (rs := [3, 13]) (by kernel_rfl) (by simp) ?_
        refine AllReady.cons rfl (fun K hK => ?_) ?_
        · go_simp
          go_wp2_with (go_at_call 13; refine (more_L (moreL 0 ss) B m d tt _ mb.1 mb.2 (g.below HB17.out).toStrRow).mono ?_; rintro e w' ⟨rfl, rfl⟩)
          refine wpAny_ready (rs := [6, 13]) (by kernel_rfl) (by simp) ?_
          refine AllReady.cons rfl (fun K hK => ?_) ?_
          · refine step6 (.tmp 30) (.tmp 31) rfl rfl rfl rfl (h.below HB17.out).toStrRow X17 hs.1 ?_
            intro v19 W19 X19 hp19
            refine hK _ _ ?_
            clear hK K
            have HB19 := Lib.hid X19.bel
            clear hp19
            refine wpAny_ready (rs := [13]) (by kernel_rfl) (by simp) ?_
            refine AllReady.cons rfl (fun K hK => ?_) ?_
            · go_simp
              refine hK _ _ ?_
              clear hK K
              have HB20 := Lib.hid (HB19.out.alloc HB19.out.size (.cells #[.string x, .string y] 9))
              have P20 := Pair.new W19 x y
              have X20 := X19.alloc (.cells #[.string x, .string y] 9)
              generalize W19.alloc (.cells #[.string x, .string y] 9) = W20 at HB20 P20 X20 ⊢
              refine wpAny_ready (rs := [14]) (by kernel_rfl) (by simp) ?_
              refine AllReady.cons rfl (fun K hK => ?_) ?_
              · refine step14 (.tmp 32) (.tmp 39) rfl rfl rfl rfl X20 P20 h.len hs.1 hfit.out ?_
                intro g21 cap21 W21 B21 R21
                refine hK _ _ ?_
                clear hK K
                have HB21 := Lib.hid B21
                clear B21
                refine wpAny_ready (rs := [15]) (by kernel_rfl) (by simp) ?_
                refine AllReady.cons rfl (fun K hK => ?_) ?_
                · go_simp
                  go_wp2_with (go_at_call 11; refine (sum_L _ _ _ (ss ++ [x, y]) _ R21).mono ?_; rintro e w' ⟨rfl, rfl⟩)
                  refine wpAny_take (i := 16) (v := .bool (moreL (moreL 0 ss) tt == moreL 0 (ss ++ [x, y]))) rfl (by kernel_rfl) (by kernel_rfl) (by kernel_rfl) (fun _ _ _ h => h) (Or.inl ⟨by rfl, ?_⟩) ?_
                  · intro w; go_simp
                  refine wpAny_take (i := 17) (v := .bool (moreL (moreL 0 ss) tt == moreL 0 (ss ++ [x, y]))) rfl (by kernel_rfl) (by kernel_rfl) (by kernel_rfl) (fun _ _ _ h => h) (Or.inl ⟨by rfl, ?_⟩) ?_
                  · intro w; go_simp
                  refine wpAny_done (by kernel_rfl) ?_ _
                  go_wp2
                  go_ret
                  exact ⟨ret_bool HF.out, HB21.out⟩
                exact AllReady.nil
              exact AllReady.nil
            exact AllReady.nil
          refine AllReady.cons rfl (fun K hK => ?_) ?_
          · go_simp
            refine hK _ _ ?_
            clear hK K
            have HB23 := Lib.hid (HB17.out.alloc HB17.out.size (.cells #[.string x, .string y] 9))
            have P23 := Pair.new W17 x y
            have X23 := X17.alloc (.cells #[.string x, .string y] 9)
            have ne23 : W17.heap.size ≠ W.heap.size := Nat.ne_of_gt X17.lt
            generalize W17.alloc (.cells #[.string x, .string y] 9) = W23 at HB23 P23 X23 ⊢
            refine wpAny_ready (rs := [6]) (by kernel_rfl) (by simp) ?_
            refine AllReady.cons rfl (fun K hK => ?_) ?_
            · refine step6 (.tmp 30) (.tmp 31) rfl rfl rfl rfl (h.below HB23.out).toStrRow X23 hs.1 ?_
              intro v24 W24 X24 hp24
              refine hK _ _ ?_
              clear hK K
              have HB24 := Lib.hid X24.bel
              have P24 := hp24 _ _ _ P23 ne23
              clear hp24
              refine wpAny_ready (rs := [14]) (by kernel_rfl) (by simp) ?_
              refine AllReady.cons rfl (fun K hK => ?_) ?_
              · refine step14 (.tmp 32) (.tmp 39) rfl rfl rfl rfl X24 P24 h.len hs.1 hfit.out ?_
                intro g25 cap25 W25 B25 R25
                refine hK _ _ ?_
                clear hK K
                have HB25 := Lib.hid B25
                clear B25
                refine wpAny_ready (rs := [15]) (by kernel_rfl) (by simp) ?_
                refine AllReady.cons rfl (fun K hK => ?_) ?_
                · go_simp
                  go_wp2_with (go_at_call 11; refine (sum_L _ _ _ (ss ++ [x, y]) _ R25).mono ?_; rintro e w' ⟨rfl, rfl⟩)
                  refine wpAny_take (i := 16) (v := .bool (moreL (moreL 0 ss) tt == moreL 0 (ss ++ [x, y]))) rfl (by kernel_rfl) (by kernel_rfl) (by kernel_rfl) (fun _ _ _ h => h) (Or.inl ⟨by rfl, ?_⟩) ?_
                  · intro w; go_simp
                  refine wpAny_take (i := 17) (v := .bool (moreL (moreL 0 ss) tt == moreL 0 (ss ++ [x, y]))) rfl (by kernel_rfl) (by kernel_rfl) (by kernel_rfl) (fun _ _ _ h => h) (Or.inl ⟨by rfl, ?_⟩) ?_
                  · intro w; go_simp
                  refine wpAny_done (by kernel_rfl) ?_ _
                  go_wp2
                  go_ret
                  exact ⟨ret_bool HF.out, HB25.out⟩
                exact AllReady.nil
              exact AllReady.nil
            exact AllReady.nil
          exact AllReady.nil
        refine AllReady.cons rfl (fun K hK => ?_) ?_
        · go_simp
          refine hK _ _ ?_
          clear hK K
          have HB27 := Lib.hid (HB17.out.alloc HB17.out.size (.cells #[.string x, .string y] 9))
          have P27 := Pair.new W17 x y
          have X27 := X17.alloc (.cells #[.string x, .string y] 9)
          have ne27 : W17.heap.size ≠ W.heap.size := Nat.ne_of_gt X17.lt
          generalize W17.alloc (.cells #[.string x, .string y] 9) = W27 at HB27 P27 X27 ⊢
          refine wpAny_ready (rs := [3]) (by kernel_rfl) (by simp) ?_
          refine AllReady.cons rfl (fun K hK => ?_) ?_
          · go_simp
            go_wp2_with (go_at_call 13; refine (more_L (moreL 0 ss) B m d tt _ mb.1 mb.2 (g.below HB27.out).toStrRow).mono ?_; rintro e w' ⟨rfl, rfl⟩)
            refine wpAny_ready (rs := [6]) (by kernel_rfl) (by simp) ?_
            refine AllReady.cons rfl (fun K hK => ?_) ?_
            · refine step6 (.tmp 30) (.tmp 31) rfl rfl rfl rfl (h.below HB27.out).toStrRow X27 hs.1 ?_
              intro v29 W29 X29 hp29
              refine hK _ _ ?_
              clear hK K
              have HB29 := Lib.hid X29.bel
              have P29 := hp29 _ _ _ P27 ne27
              clear hp29
              refine wpAny_ready (rs := [14]) (by kernel_rfl) (by simp) ?_
              refine AllReady.cons rfl (fun K hK => ?_) ?_
              · refine step14 (.tmp 32) (.tmp 39) rfl rfl rfl rfl X29 P29 h.len hs.1 hfit.out ?_
                intro g30 cap30 W30 B30 R30
                refine hK _ _ ?_
                clear hK K
                have HB30 := Lib.hid B30
                clear B30
                refine wpAny_ready (rs := [15]) (by kernel_rfl) (by simp) ?_
                refine AllReady.cons rfl (fun K hK => ?_) ?_
                · go_simp
                  go_wp2_with (go_at_call 11; refine (sum_L _ _ _ (ss ++ [x, y]) _ R30).mono ?_; rintro e w' ⟨rfl, rfl⟩)
                  refine wpAny_take (i := 16) (v := .bool (moreL (moreL 0 ss) tt == moreL 0 (ss ++ [x, y]))) rfl (by kernel_rfl) (by kernel_rfl) (by kernel_rfl) (fun _ _ _ h => h) (Or.inl ⟨by rfl, ?_⟩) ?_
                  · intro w; go_simp
                  refine wpAny_take (i := 17) (v := .bool (moreL (moreL 0 ss) tt == moreL 0 (ss ++ [x, y]))) rfl (by kernel_rfl) (by kernel_rfl) (by kernel_rfl) (fun _ _ _ h => h) (Or.inl ⟨by rfl, ?_⟩) ?_
                  · intro w; go_simp
                  refine wpAny_done (by kernel_rfl) ?_ _
                  go_wp2
                  go_ret
                  exact ⟨ret_bool HF.out, HB30.out⟩
                exact AllReady.nil
              exact AllReady.nil
            exact AllReady.nil
          exact AllReady.nil
        exact AllReady.nil
      refine AllReady.cons rfl (fun K hK => ?_) ?_
      · go_simp
        refine hK _ _ ?_
        clear hK K
        have HB32 := Lib.hid (HB.out.alloc HB.out.size (.cells #[.string x, .string y] 9))
        have P32 := Pair.new W x y
        generalize W.alloc (.cells #[.string x, .string y] 9) = W32 at HB32 P32 ⊢
        refine wpAny_ready (rs := [3, 4]) (by kernel_rfl) (by simp) ?_
        refine AllReady.cons rfl (fun K hK => ?_) ?_
        · go_simp
          go_wp2_with (go_at_call 13; refine (more_L (moreL 0 ss) B m d tt _ mb.1 mb.2 (g.below HB32.out).toStrRow).mono ?_; rintro e w' ⟨rfl, rfl⟩)
          refine wpAny_ready (rs := [4]) (by kernel_rfl) (by simp) ?_
          refine AllReady.cons rfl (fun K hK => ?_) ?_
          · go_simp
            refine hK _ _ ?_
            clear hK K
            have HB34 := Lib.hid (HB32.out.alloc HB32.out.size (.cells #[] 9))
            have X34 := S4.new HB32.out
            have P34 := P32.alloc (.cells #[] 9)
            have ne34 : W.heap.size ≠ W32.heap.size := Nat.ne_of_lt P32.lt
            generalize W32.alloc (.cells #[] 9) = W34 at HB34 X34 P34 ⊢
            refine wpAny_ready (rs := [6]) (by kernel_rfl) (by simp) ?_
            refine AllReady.cons rfl (fun K hK => ?_) ?_
            · refine step6 (.tmp 30) (.tmp 31) rfl rfl rfl rfl (h.below HB34.out).toStrRow X34 hs.1 ?_
              intro v35 W35 X35 hp35
              refine hK _ _ ?_
              clear hK K
              have HB35 := Lib.hid X35.bel
              have P35 := hp35 _ _ _ P34 ne34
              clear hp35
              refine wpAny_ready (rs := [14]) (by kernel_rfl) (by simp) ?_
              refine AllReady.cons rfl (fun K hK => ?_) ?_
              · refine step14 (.tmp 32) (.tmp 39) rfl rfl rfl rfl X35 P35 h.len hs.1 hfit.out ?_
                intro g36 cap36 W36 B36 R36
                refine hK _ _ ?_
                clear hK K
                have HB36 := Lib.hid B36
                clear B36
                refine wpAny_ready (rs := [15]) (by kernel_rfl) (by simp) ?_
                refine AllReady.cons rfl (fun K hK => ?_) ?_
                · go_simp
                  go_wp2_with (go_at_call 11; refine (sum_L _ _ _ (ss ++ [x, y]) _ R36).mono ?_; rintro e w' ⟨rfl, rfl⟩)
                  refine wpAny_take (i := 16) (v := .bool (moreL (moreL 0 ss) tt == moreL 0 (ss ++ [x, y]))) rfl (by kernel_rfl) (by kernel_rfl) (by kernel_rfl) (fun _ _ _ h => h) (Or.inl ⟨by rfl, ?_⟩) ?_
                  · intro w; go_simp
                  refine wpAny_take (i := 17) (v := .bool (moreL (moreL 0 ss) tt == moreL 0 (ss ++ [x, y]))) rfl (by kernel_rfl) (by kernel_rfl) (by kernel_rfl) (fun _ _ _ h => h) (Or.inl ⟨by rfl, ?_⟩) ?_
                  · intro w; go_simp
                  refine wpAny_done (by kernel_rfl) ?_ _
                  go_wp2
                  go_ret
                  exact ⟨ret_bool HF.out, HB36.out⟩
                exact AllReady.nil
              exact AllReady.nil
            exact AllReady.nil
          exact AllReady.nil
        refine AllReady.cons rfl (fun K hK => ?_) ?_
        · go_simp
          refine hK _ _ ?_
          clear hK K
          have HB38 := Lib.hid (HB32.out.alloc HB32.out.size (.cells #[] 9))
          have X38 := S4.new HB32.out
          have P38 := P32.alloc (.cells #[] 9)
          have ne38 : W.heap.size ≠ W32.heap.size := Nat.ne_of_lt P32.lt
          generalize W32.alloc (.cells #[] 9) = W38 at HB38 X38 P38 ⊢
          refine wpAny_ready (rs := [3]) (by kernel_rfl) (by simp) ?_
          refine AllReady.cons rfl (fun K hK => ?_) ?_
          · go_simp
            go_wp2_with (go_at_call 13; refine (more_L (moreL 0 ss) B m d tt _ mb.1 mb.2 (g.below HB38.out).toStrRow).mono ?_; rintro e w' ⟨rfl, rfl⟩)
            refine wpAny_ready (rs := [6]) (by kernel_rfl) (by simp) ?_
            refine AllReady.cons rfl (fun K hK => ?_) ?_
            · refine step6 (.tmp 30) (.tmp 31) rfl rfl rfl rfl (h.below HB38.out).toStrRow X38 hs.1 ?_
              intro v40 W40 X40 hp40
              refine hK _ _ ?_
              clear hK K
              have HB40 := Lib.hid X40.bel
              have P40 := hp40 _ _ _ P38 ne38
              clear hp40
              refine wpAny_ready (rs := [14]) (by kernel_rfl) (by simp) ?_
              refine AllReady.cons rfl (fun K hK => ?_) ?_
              · refine step14 (.tmp 32) (.tmp 39) rfl rfl rfl rfl X40 P40 h.len hs.1 hfit.out ?_
                intro g41 cap41 W41 B41 R41
                refine hK _ _ ?_
                clear hK K
                have HB41 := Lib.hid B41
                clear B41
                refine wpAny_ready (rs := [15]) (by kernel_rfl) (by simp) ?_
                refine AllReady.cons rfl (fun K hK => ?_) ?_
                · go_simp
                  go_wp2_with (go_at_call 11; refine (sum_L _ _ _ (ss ++ [x, y]) _ R41).mono ?_; rintro e w' ⟨rfl, rfl⟩)
                  refine wpAny_take (i := 16) (v := .bool (moreL (moreL 0 ss) tt == moreL 0 (ss ++ [x, y]))) rfl (by kernel_rfl) (by kernel_rfl) (by kernel_rfl) (fun _ _ _ h => h) (Or.inl ⟨by rfl, ?_⟩) ?_
                  · intro w; go_simp
                  refine wpAny_take (i := 17) (v := .bool (moreL (moreL 0 ss) tt == moreL 0 (ss ++ [x, y]))) rfl (by kernel_rfl) (by kernel_rfl) (by kernel_rfl) (fun _ _ _ h => h) (Or.inl ⟨by rfl, ?_⟩) ?_
                  · intro w; go_simp
                  refine wpAny_done (by kernel_rfl) ?_ _
                  go_wp2
                  go_ret
                  exact ⟨ret_bool HF.out, HB41.out⟩
                exact AllReady.nil
              exact AllReady.nil
            exact AllReady.nil
          exact AllReady.nil
        exact AllReady.nil
      exact AllReady.nil
    refine AllReady.cons rfl (fun K hK => ?_) ?_
    · go_simp
      refine hK _ _ ?_
      clear hK K
      have HB43 := Lib.hid (HB.out.alloc HB.out.size (.cells #[] 9))
      have X43 := S4.new HB.out
      generalize W.alloc (.cells #[] 9) = W43 at HB43 X43 ⊢
      refine wpAny_ready (rs := [1, 13]) (by kernel_rfl) (by simp) ?_
      refine AllReady.cons rfl (fun K hK => ?_) ?_
      · go_simp
        go_wp2_with (go_at_call 11; refine (sum_L A n c ss _ (h.below HB43.out).toStrRow).mono ?_; rintro e w' ⟨rfl, rfl⟩)
        refine wpAny_ready (rs := [3, 13]) (by kernel_rfl) (by simp) ?_
        refine AllReady.cons rfl (fun K hK => ?_) ?_
        · go_simp
          go_wp2_with (go_at_call 13; refine (more_L (moreL 0 ss) B m d tt _ mb.1 mb.2 (g.below HB43.out).toStrRow).mono ?_; rintro e w' ⟨rfl, rfl⟩)
          refine wpAny_ready (rs := [6, 13]) (by kernel_rfl) (by simp) ?_
          refine AllReady.cons rfl (fun K hK => ?_) ?_
          · refine step6 (.tmp 30) (.tmp 31) rfl rfl rfl rfl (h.below HB43.out).toStrRow X43 hs.1 ?_
            intro v46 W46 X46 hp46
            refine hK _ _ ?_
            clear hK K
            have HB46 := Lib.hid X46.bel
            clear hp46
            refine wpAny_ready (rs := [13]) (by kernel_rfl) (by simp) ?_
            refine AllReady.cons rfl (fun K hK => ?_) ?_
            · go_simp
              refine hK _ _ ?_
              clear hK K
              have HB47 := Lib.hid (HB46.out.alloc HB46.out.size (.cells #[.string x, .string y] 9))
              have P47 := Pair.new W46 x y
              have X47 := X46.alloc (.cells #[.string x, .string y] 9)
              generalize W46.alloc (.cells #[.string x, .string y] 9) = W47 at HB47 P47 X47 ⊢
              refine wpAny_ready (rs := [14]) (by kernel_rfl) (by simp) ?_
              refine AllReady.cons rfl (fun K hK => ?_) ?_
              · refine step14 (.tmp 32) (.tmp 39) rfl rfl rfl rfl X47 P47 h.len hs.1 hfit.out ?_
                intro g48 cap48 W48 B48 R48
                refine hK _ _ ?_
                clear hK K
                have HB48 := Lib.hid B48
                clear B48
                refine wpAny_ready (rs := [15]) (by kernel_rfl) (by simp) ?_
                refine AllReady.cons rfl (fun K hK => ?_) ?_
                · go_simp
                  go_wp2_with (go_at_call 11; refine (sum_L _ _ _ (ss ++ [x, y]) _ R48).mono ?_; rintro e w' ⟨rfl, rfl⟩)
                  refine wpAny_take (i := 16) (v := .bool (moreL (moreL 0 ss) tt == moreL 0 (ss ++ [x, y]))) rfl (by kernel_rfl) (by kernel_rfl) (by kernel_rfl) (fun _ _ _ h => h) (Or.inl ⟨by rfl, ?_⟩) ?_
                  · intro w; go_simp
                  refine wpAny_take (i := 17) (v := .bool (moreL (moreL 0 ss) tt == moreL 0 (ss ++ [x, y]))) rfl (by kernel_rfl) (by kernel_rfl) (by kernel_rfl) (fun _ _ _ h => h) (Or.inl ⟨by rfl, ?_⟩) ?_
                  · intro w; go_simp
                  refine wpAny_done (by kernel_rfl) ?_ _
                  go_wp2
                  go_ret
                  exact ⟨ret_bool HF.out, HB48.out⟩
                exact AllReady.nil
              exact AllReady.nil
            exact AllReady.nil
          refine AllReady.cons rfl (fun K hK => ?_) ?_
          · go_simp
            refine hK _ _ ?_
            clear hK K
            have HB50 := Lib.hid (HB43.out.alloc HB43.out.size (.cells #[.string x, .string y] 9))
            have P50 := Pair.new W43 x y
            have X50 := X43.alloc (.cells #[.string x, .string y] 9)
            have ne50 : W43.heap.size ≠ W.heap.size := Nat.ne_of_gt X43.lt
            generalize W43.alloc (.cells #[.string x, .string y] 9) = W50 at HB50 P50 X50 ⊢
            refine wpAny_ready (rs := [6]) (by kernel_rfl) (by simp) ?_
            refine AllReady.cons rfl (fun K hK => ?_) ?_
            · refine step6 (.tmp 30) (.tmp 31) rfl rfl rfl rfl (h.below HB50.out).toStrRow X50 hs.1 ?_
              intro v51 W51 X51 hp51
              refine hK _ _ ?_
              clear hK K
              have HB51 := Lib.hid X51.bel
              have P51 := hp51 _ _ _ P50 ne50
              clear hp51
              refine wpAny_ready (rs := [14]) (by kernel_rfl) (by simp) ?_
              refine AllReady.cons rfl (fun K hK => ?_) ?_
              · refine step14 (.tmp 32) (.tmp 39) rfl rfl rfl rfl X51 P51 h.len hs.1 hfit.out ?_
                intro g52 cap52 W52 B52 R52
                refine hK _ _ ?_
                clear hK K
                have HB52 := Lib.hid B52
                clear B52
                refine wpAny_ready (rs := [15]) (by kernel_rfl) (by simp) ?_
                refine AllReady.cons rfl (fun K hK => ?_) ?_
                · go_simp
                  go_wp2_with (go_at_call 11; refine (sum_L _ _ _ (ss ++ [x, y]) _ R52).mono ?_; rintro e w' ⟨rfl, rfl⟩)
                  refine wpAny_take (i := 16) (v := .bool (moreL (moreL 0 ss) tt == moreL 0 (ss ++ [x, y]))) rfl (by kernel_rfl) (by kernel_rfl) (by kernel_rfl) (fun _ _ _ h => h) (Or.inl ⟨by rfl, ?_⟩) ?_
                  · intro w; go_simp
                  refine wpAny_take (i := 17) (v := .bool (moreL (moreL 0 ss) tt == moreL 0 (ss ++ [x, y]))) rfl (by kernel_rfl) (by kernel_rfl) (by kernel_rfl) (fun _ _ _ h => h) (Or.inl ⟨by rfl, ?_⟩) ?_
                  · intro w; go_simp
                  refine wpAny_done (by kernel_rfl) ?_ _
                  go_wp2
                  go_ret
                  exact ⟨ret_bool HF.out, HB52.out⟩
                exact AllReady.nil
              exact AllReady.nil
            exact AllReady.nil
          exact AllReady.nil
        refine AllReady.cons rfl (fun K hK => ?_) ?_
        · go_simp
          refine hK _ _ ?_
          clear hK K
          have HB54 := Lib.hid (HB43.out.alloc HB43.out.size (.cells #[.string x, .string y] 9))
          have P54 := Pair.new W43 x y
          have X54 := X43.alloc (.cells #[.string x, .string y] 9)
          have ne54 : W43.heap.size ≠ W.heap.size := Nat.ne_of_gt X43.lt
          generalize W43.alloc (.cells #[.string x, .string y] 9) = W54 at HB54 P54 X54 ⊢
          refine wpAny_ready (rs := [3]) (by kernel_rfl) (by simp) ?_
          refine AllReady.cons rfl (fun K hK => ?_) ?_
          · go_simp
            go_wp2_with (go_at_call 13; refine (more_L (moreL 0 ss) B m d tt _ mb.1 mb.2 (g.below HB54.out).toStrRow).mono ?_; rintro e w' ⟨rfl, rfl⟩)
            refine wpAny_ready (rs := [6]) (by kernel_rfl) (by simp) ?_
            refine AllReady.cons rfl (fun K hK => ?_) ?_
            · refine step6 (.tmp 30) (.tmp 31) rfl rfl rfl rfl (h.below HB54.out).toStrRow X54 hs.1 ?_
              intro v56 W56 X56 hp56
              refine hK _ _ ?_
              clear hK K
              have HB56 := Lib.hid X56.bel
              have P56 := hp56 _ _ _ P54 ne54
              clear hp56
              refine wpAny_ready (rs := [14]) (by kernel_rfl) (by simp) ?_
              refine AllReady.cons rfl (fun K hK => ?_) ?_
              · refine step14 (.tmp 32) (.tmp 39) rfl rfl rfl rfl X56 P56 h.len hs.1 hfit.out ?_
                intro g57 cap57 W57 B57 R57
                refine hK _ _ ?_
                clear hK K
                have HB57 := Lib.hid B57
                clear B57
                refine wpAny_ready (rs := [15]) (by kernel_rfl) (by simp) ?_
                refine AllReady.cons rfl (fun K hK => ?_) ?_
                · go_simp
                  go_wp2_with (go_at_call 11; refine (sum_L _ _ _ (ss ++ [x, y]) _ R57).mono ?_; rintro e w' ⟨rfl, rfl⟩)
                  refine wpAny_take (i := 16) (v := .bool (moreL (moreL 0 ss) tt == moreL 0 (ss ++ [x, y]))) rfl (by kernel_rfl) (by kernel_rfl) (by kernel_rfl) (fun _ _ _ h => h) (Or.inl ⟨by rfl, ?_⟩) ?_
                  · intro w; go_simp
                  refine wpAny_take (i := 17) (v := .bool (moreL (moreL 0 ss) tt == moreL 0 (ss ++ [x, y]))) rfl (by kernel_rfl) (by kernel_rfl) (by kernel_rfl) (fun _ _ _ h => h) (Or.inl ⟨by rfl, ?_⟩) ?_
                  · intro w; go_simp
                  refine wpAny_done (by kernel_rfl) ?_ _
                  go_wp2
                  go_ret
                  exact ⟨ret_bool HF.out, HB57.out⟩
                exact AllReady.nil
              exact AllReady.nil
            exact AllReady.nil
          exact AllReady.nil
        exact AllReady.nil
      refine AllReady.cons rfl (fun K hK => ?_) ?_
      · go_simp
        refine hK _ _ ?_
        clear hK K
        have HB59 := Lib.hid (HB43.out.alloc HB43.out.size (.cells #[.string x, .string y] 9))
        have P59 := Pair.new W43 x y
        have X59 := X43.alloc (.cells #[.string x, .string y] 9)
        have ne59 : W43.heap.size ≠ W.heap.size := Nat.ne_of_gt X43.lt
        generalize W43.alloc (.cells #[.string x, .string y] 9) = W59 at HB59 P59 X59 ⊢
        refine wpAny_ready (rs := [1]) (by kernel_rfl) (by simp) ?_
        refine AllReady.cons rfl (fun K hK => ?_) ?_
        · go_simp
          go_wp2_with (go_at_call 11; refine (sum_L A n c ss _ (h.below HB59.out).toStrRow).mono ?_; rintro e w' ⟨rfl, rfl⟩)
          refine wpAny_ready (rs := [3]) (by kernel_rfl) (by simp) ?_
          refine AllReady.cons rfl (fun K hK => ?_) ?_
          · go_simp
            go_wp2_with (go_at_call 13; refine (more_L (moreL 0 ss) B m d tt _ mb.1 mb.2 (g.below HB59.out).toStrRow).mono ?_; rintro e w' ⟨rfl, rfl⟩)
            refine wpAny_ready (rs := [6]) (by kernel_rfl) (by simp) ?_
            refine AllReady.cons rfl (fun K hK => ?_) ?_
            · refine step6 (.tmp 30) (.tmp 31) rfl rfl rfl rfl (h.below HB59.out).toStrRow X59 hs.1 ?_
              intro v62 W62 X62 hp62
              refine hK _ _ ?_
              clear hK K
              have HB62 := Lib.hid X62.bel
              have P62 := hp62 _ _ _ P59 ne59
              clear hp62
              refine wpAny_ready (rs := [14]) (by kernel_rfl) (by simp) ?_
              refine AllReady.cons rfl (fun K hK => ?_) ?_
              · refine step14 (.tmp 32) (.tmp 39) rfl rfl rfl rfl X62 P62 h.len hs.1 hfit.out ?_
                intro g63 cap63 W63 B63 R63
                refine hK _ _ ?_
                clear hK K
                have HB63 := Lib.hid B63
                clear B63
                refine wpAny_ready (rs := [15]) (by kernel_rfl) (by simp) ?_
                refine AllReady.cons rfl (fun K hK => ?_) ?_
                · go_simp
                  go_wp2_with (go_at_call 11; refine (sum_L _ _ _ (ss ++ [x, y]) _ R63).mono ?_; rintro e w' ⟨rfl, rfl⟩)
                  refine wpAny_take (i := 16) (v := .bool (moreL (moreL 0 ss) tt == moreL 0 (ss ++ [x, y]))) rfl (by kernel_rfl) (by kernel_rfl) (by kernel_rfl) (fun _ _ _ h => h) (Or.inl ⟨by rfl, ?_⟩) ?_
                  · intro w; go_simp
                  refine wpAny_take (i := 17) (v := .bool (moreL (moreL 0 ss) tt == moreL 0 (ss ++ [x, y]))) rfl (by kernel_rfl) (by kernel_rfl) (by kernel_rfl) (fun _ _ _ h => h) (Or.inl ⟨by rfl, ?_⟩) ?_
                  · intro w; go_simp
                  refine wpAny_done (by kernel_rfl) ?_ _
                  go_wp2
                  go_ret
                  exact ⟨ret_bool HF.out, HB63.out⟩
                exact AllReady.nil
              exact AllReady.nil
            exact AllReady.nil
          exact AllReady.nil
        exact AllReady.nil
      exact AllReady.nil
    refine AllReady.cons rfl (fun K hK => ?_) ?_
    · go_simp
      refine hK _ _ ?_
      clear hK K
      have HB65 := Lib.hid (HB.out.alloc HB.out.size (.cells #[.string x, .string y] 9))
      have P65 := Pair.new W x y
      generalize W.alloc (.cells #[.string x, .string y] 9) = W65 at HB65 P65 ⊢
      refine wpAny_ready (rs := [1, 4]) (by kernel_rfl) (by simp) ?_
      refine AllReady.cons rfl (fun K hK => ?_) ?_
      · go_simp
        go_wp2_with (go_at_call 11; refine (sum_L A n c ss _ (h.below HB65.out).toStrRow).mono ?_; rintro e w' ⟨rfl, rfl⟩)
        refine wpAny_ready (rs := [3, 4]) (by kernel_rfl) (by simp) ?_
        refine AllReady.cons rfl (fun K hK => ?_) ?_
        · go_simp
          go_wp2_with (go_at_call 13; refine (more_L (moreL 0 ss) B m d tt _ mb.1 mb.2 (g.below HB65.out).toStrRow).mono ?_; rintro e w' ⟨rfl, rfl⟩)
          refine wpAny_ready (rs := [4]) (by kernel_rfl) (by simp) ?_
          refine AllReady.cons rfl (fun K hK => ?_) ?_
          · go_simp
            refine hK _ _ ?_
            clear hK K
            have HB68 := Lib.hid (HB65.out.alloc HB65.out.size (.cells #[] 9))
            have X68 := S4.new HB65.out
            have P68 := P65.alloc (.cells #[] 9)
            have ne68 : W.heap.size ≠ W65.heap.size := Nat.ne_of_lt P65.lt
            generalize W65.alloc (.cells #[] 9) = W68 at HB68 X68 P68 ⊢
            refine wpAny_ready (rs := [6]) (by kernel_rfl) (by simp) ?_
            refine AllReady.cons rfl (fun K hK => ?_) ?_
            · refine step6 (.tmp 30) (.tmp 31) rfl rfl rfl rfl (h.below HB68.out).toStrRow X68 hs.1 ?_
              intro v69 W69 X69 hp69
              refine hK _ _ ?_
              clear hK K
              have HB69 := Lib.hid X69.bel
              have P69 := hp69 _ _ _ P68 ne68
              clear hp69
              refine wpAny_ready (rs := [14]) (by kernel_rfl) (by simp) ?_
              refine AllReady.cons rfl (fun K hK => ?_) ?_
              · refine step14 (.tmp 32) (.tmp 39) rfl rfl rfl rfl X69 P69 h.len hs.1 hfit.out ?_
                intro g70 cap70 W70 B70 R70
                refine hK _ _ ?_
                clear hK K
                have HB70 := Lib.hid B70
                clear B70
                refine wpAny_ready (rs := [15]) (by kernel_rfl) (by simp) ?_
                refine AllReady.cons rfl (fun K hK => ?_) ?_
                · go_simp
                  go_wp2_with (go_at_call 11; refine (sum_L _ _ _ (ss ++ [x, y]) _ R70).mono ?_; rintro e w' ⟨rfl, rfl⟩)
                  refine wpAny_take (i := 16) (v := .bool (moreL (moreL 0 ss) tt == moreL 0 (ss ++ [x, y]))) rfl (by kernel_rfl) (by kernel_rfl) (by kernel_rfl) (fun _ _ _ h => h) (Or.inl ⟨by rfl, ?_⟩) ?_
                  · intro w; go_simp
                  refine wpAny_take (i := 17) (v := .bool (moreL (moreL 0 ss) tt == moreL 0 (ss ++ [x, y]))) rfl (by kernel_rfl) (by kernel_rfl) (by kernel_rfl) (fun _ _ _ h => h) (Or.inl ⟨by rfl, ?_⟩) ?_
                  · intro w; go_simp
                  refine wpAny_done (by kernel_rfl) ?_ _
                  go_wp2
                  go_ret
                  exact ⟨ret_bool HF.out, HB70.out⟩
                exact AllReady.nil
              exact AllReady.nil
            exact AllReady.nil
          exact AllReady.nil
        refine AllReady.cons rfl (fun K hK => ?_) ?_
        · go_simp
          refine hK _ _ ?_
          clear hK K
          have HB72 := Lib.hid (HB65.out.alloc HB65.out.size (.cells #[] 9))
          have X72 := S4.new HB65.out
          have P72 := P65.alloc (.cells #[] 9)
          have ne72 : W.heap.size ≠ W65.heap.size := Nat.ne_of_lt P65.lt
          generalize W65.alloc (.cells #[] 9) = W72 at HB72 X72 P72 ⊢
          refine wpAny_ready (rs := [3]) (by kernel_rfl) (by simp) ?_
          refine AllReady.cons rfl (fun K hK => ?_) ?_
          · go_simp
            go_wp2_with (go_at_call 13; refine (more_L (moreL 0 ss) B m d tt _ mb.1 mb.2 (g.below HB72.out).toStrRow).mono ?_; rintro e w' ⟨rfl, rfl⟩)
            refine wpAny_ready (rs := [6]) (by kernel_rfl) (by simp) ?_
            refine AllReady.cons rfl (fun K hK => ?_) ?_
            · refine step6 (.tmp 30) (.tmp 31) rfl rfl rfl rfl (h.below HB72.out).toStrRow X72 hs.1 ?_
              intro v74 W74 X74 hp74
              refine hK _ _ ?_
              clear hK K
              have HB74 := Lib.hid X74.bel
              have P74 := hp74 _ _ _ P72 ne72
              clear hp74
              refine wpAny_ready (rs := [14]) (by kernel_rfl) (by simp) ?_
              refine AllReady.cons rfl (fun K hK => ?_) ?_
              · refine step14 (.tmp 32) (.tmp 39) rfl rfl rfl rfl X74 P74 h.len hs.1 hfit.out ?_
                intro g75 cap75 W75 B75 R75
                refine hK _ _ ?_
                clear hK K
                have HB75 := Lib.hid B75
                clear B75
                refine wpAny_ready (rs := [15]) (by kernel_rfl) (by simp) ?_
                refine AllReady.cons rfl (fun K hK => ?_) ?_
                · go_simp
                  go_wp2_with (go_at_call 11; refine (sum_L _ _ _ (ss ++ [x, y]) _ R75).mono ?_; rintro e w' ⟨rfl, rfl⟩)
                  refine wpAny_take (i := 16) (v := .bool (moreL (moreL 0 ss) tt == moreL 0 (ss ++ [x, y]))) rfl (by kernel_rfl) (by kernel_rfl) (by kernel_rfl) (fun _ _ _ h => h) (Or.inl ⟨by rfl, ?_⟩) ?_
                  · intro w; go_simp
                  refine wpAny_take (i := 17) (v := .bool (moreL (moreL 0 ss) tt == moreL 0 (ss ++ [x, y]))) rfl (by kernel_rfl) (by kernel_rfl) (by kernel_rfl) (fun _ _ _ h => h) (Or.inl ⟨by rfl, ?_⟩) ?_
                  · intro w; go_simp
                  refine wpAny_done (by kernel_rfl) ?_ _
                  go_wp2
                  go_ret
                  exact ⟨ret_bool HF.out, HB75.out⟩
                exact AllReady.nil
              exact AllReady.nil
            exact AllReady.nil
          exact AllReady.nil
        exact AllReady.nil
      refine AllReady.cons rfl (fun K hK => ?_) ?_
      · go_simp
        refine hK _ _ ?_
        clear hK K
        have HB77 := Lib.hid (HB65.out.alloc HB65.out.size (.cells #[] 9))
        have X77 := S4.new HB65.out
        have P77 := P65.alloc (.cells #[] 9)
        have ne77 : W.heap.size ≠ W65.heap.size := Nat.ne_of_lt P65.lt
        generalize W65.alloc (.cells #[] 9) = W77 at HB77 X77 P77 ⊢
        refine wpAny_ready (rs := [1]) (by kernel_rfl) (by simp) ?_
        refine AllReady.cons rfl (fun K hK => ?_) ?_
        · go_simp
          go_wp2_with (go_at_call 11; refine (sum_L A n c ss _ (h.below HB77.out).toStrRow).mono ?_; rintro e w' ⟨rfl, rfl⟩)
          refine wpAny_ready (rs := [3]) (by kernel_rfl) (by simp) ?_
          refine AllReady.cons rfl (fun K hK => ?_) ?_
          · go_simp
            go_wp2_with (go_at_call 13; refine (more_L (moreL 0 ss) B m d tt _ mb.1 mb.2 (g.below HB77.out).toStrRow).mono ?_; rintro e w' ⟨rfl, rfl⟩)
            refine wpAny_ready (rs := [6]) (by kernel_rfl) (by simp) ?_
            refine AllReady.cons rfl (fun K hK => ?_) ?_
            · refine step6 (.tmp 30) (.tmp 31) rfl rfl rfl rfl (h.below HB77.out).toStrRow X77 hs.1 ?_
              intro v80 W80 X80 hp80
              refine hK _ _ ?_
              clear hK K
              have HB80 := Lib.hid X80.bel
              have P80 := hp80 _ _ _ P77 ne77
              clear hp80
              refine wpAny_ready (rs := [14]) (by kernel_rfl) (by simp) ?_
              refine AllReady.cons rfl (fun K hK => ?_) ?_
              · refine step14 (.tmp 32) (.tmp 39) rfl rfl rfl rfl X80 P80 h.len hs.1 hfit.out ?_
                intro g81 cap81 W81 B81 R81
                refine hK _ _ ?_
                clear hK K
                have HB81 := Lib.hid B81
                clear B81
                refine wpAny_ready (rs := [15]) (by kernel_rfl) (by simp) ?_
                refine AllReady.cons rfl (fun K hK => ?_) ?_
                · go_simp
                  go_wp2_with (go_at_call 11; refine (sum_L _ _ _ (ss ++ [x, y]) _ R81).mono ?_; rintro e w' ⟨rfl, rfl⟩)
                  refine wpAny_take (i := 16) (v := .bool (moreL (moreL 0 ss) tt == moreL 0 (ss ++ [x, y]))) rfl (by kernel_rfl) (by kernel_rfl) (by kernel_rfl) (fun _ _ _ h => h) (Or.inl ⟨by rfl, ?_⟩) ?_
                  · intro w; go_simp
                  refine wpAny_take (i := 17) (v := .bool (moreL (moreL 0 ss) tt == moreL 0 (ss ++ [x, y]))) rfl (by kernel_rfl) (by kernel_rfl) (by kernel_rfl) (fun _ _ _ h => h) (Or.inl ⟨by rfl, ?_⟩) ?_
                  · intro w; go_simp
                  refine wpAny_done (by kernel_rfl) ?_ _
                  go_wp2
                  go_ret
                  exact ⟨ret_bool HF.out, HB81.out⟩
                exact AllReady.nil
              exact AllReady.nil
            exact AllReady.nil
          exact AllReady.nil
        exact AllReady.nil
      exact AllReady.nil
    exact AllReady.nil

set_option maxHeartbeats 1000000 in
theorem walk_longA (A : Option Addr) (n c : Nat) (ss : List ByteArray) (B : Option Addr) (m d : Nat) (at_ : Int) (w : World) (h : TextRow w A n ss) (hs : ¬ (n ≤ 60 ∧ (bytesOf ss).length ≤ 3000)) :
    Calls Try.prog 7 #[.slice A n c, .slice B m d, .int .i64 at_] w fun e w' => e = .returned (.bool true) ∧ Below w.heap.size w w' := by
  go_enter Try.func7, Try.ntmps7
  go_wp2_with fail
  refine (awake_any w).mono ?_
  rintro e w1 ⟨rfl, hb⟩
  have q1 := h.below hb
  go_wp2_with fail
  refine (long_long A n c ss _ q1 hs).mono ?_
  rintro e w' ⟨rfl, rfl⟩
  go_wp2_with fail
  go_ret
  exact ⟨rfl, hb⟩
set_option maxHeartbeats 1000000 in
theorem walk_longB (A : Option Addr) (n c : Nat) (ss : List ByteArray) (B : Option Addr) (m d : Nat) (tt : List ByteArray) (at_ : Int) (w : World) (h : TextRow w A n ss) (g : TextRow w B m tt) (hs : n ≤ 60 ∧ (bytesOf ss).length ≤ 3000) (ht : ¬ (m ≤ 60 ∧ (bytesOf tt).length ≤ 3000)) :
    Calls Try.prog 7 #[.slice A n c, .slice B m d, .int .i64 at_] w fun e w' => e = .returned (.bool true) ∧ Below w.heap.size w w' := by
  go_enter Try.func7, Try.ntmps7
  go_wp2_with fail
  refine (awake_any w).mono ?_
  rintro e w1 ⟨rfl, hb⟩
  have q1 := h.below hb
  have q2 := g.below hb
  go_wp2_with fail
  refine (long_short A n c ss _ q1.toStrRow hs.1 hs.2).mono ?_
  rintro e w' ⟨rfl, rfl⟩
  go_wp2_with fail
  refine (long_long B m d tt _ q2 ht).mono ?_
  rintro e w' ⟨rfl, rfl⟩
  go_wp2_with fail
  go_ret
  exact ⟨rfl, hb⟩

theorem walk (A : Option Addr) (n c : Nat) (ss : List ByteArray) (B : Option Addr) (m d : Nat) (tt : List ByteArray) (at_ : Int) (w : World) (h : TextRow w A n ss) (g : TextRow w B m tt) (_wi : (Lit.int .i64 at_).wf = true) :
    Calls Try.prog 7 #[.slice A n c, .slice B m d, .int .i64 at_] w fun e w' => e = .returned (.bool true) ∧ Below w.heap.size w w' := by
  by_cases hs : n ≤ 60 ∧ (bytesOf ss).length ≤ 3000
  · by_cases ht : m ≤ 60 ∧ (bytesOf tt).length ≤ 3000
    · by_cases hk : at_ < 0 ∨ ((joined tt).size : Int) < at_
      · exact walk_out A n c ss B m d tt at_ w h g hs ht hk
      · obtain ⟨k, rfl⟩ := Int.eq_ofNat_of_zero_le (show 0 ≤ at_ by omega)
        exact walk_main A n c ss B m d tt k w h g hs ht (by omega)
    · exact walk_longB A n c ss B m d tt at_ w h g hs ht
  · exact walk_longA A n c ss B m d at_ w h hs


set_option maxRecDepth 100000 in
theorem lifted (os : Os) (started : os.Started) (H : Type) (enc : TypeId × Value → H) :
    ReturnsInHanded {} Try.checked os 7 .any (Rows.sumPartsSpec.pre6 enc Try.prog Try.f7 Rows.sumPartsRow.domain false) (Rows.sumPartsSpec.post enc Try.prog Try.f7 false true false false) := by
  refine returnsInHanded_of_change_sized (C := Try.checked) own started (by kernel_rfl) Try.func7
    (ChangeSpec.witness6 (enc := enc) (C := Try.checked) false ⟨#[], #[.slice none 0 0, .slice none 0 0, .int .i64 0], []⟩ 8 (by kernel_rfl) (by kernel_rfl) (by kernel_rfl) (by kernel_rfl)) ?_
  intro W base args ds gs before hval0 hW hcnd hsz0 _
  have hval : ∀ (j : Nat) t v, Try.f7.params[j]? = some t → args[j]? = some v → Value.okWide Try.prog W .any base t v := hval0
  have hsz : (DataW.weightsEach Try.prog (Try.f7.params.toList ++ Rows.sumPartsSpec.plain.varTypes Try.prog) (ds ++ gs)).all (· ≤ reachBytes) = true := hsz0
  have hW' := hW
  obtain ⟨p, q, hA0, hV, rfl, hfz, hnd⟩ := hW
  have hA : DataW.TrodAll enc Try.prog W 0 (fun _ => true) true Try.f7.params.toList args.toList ds p := hA0
  rw [Try.params7] at hA hval hsz
  obtain ⟨v0, vs0, d0, ds0, p0, q0, hargs, rfl, rfl, h0, r0⟩ := trodAll_cons hA
  obtain ⟨v1, vs1, d1, ds1, p1, q1, rfl, rfl, rfl, h1, r1⟩ := trodAll_cons r0
  obtain ⟨v2, vs2, d2, ds2, p2, q2, rfl, rfl, rfl, h2, r2⟩ := trodAll_cons r1
  obtain ⟨rfl, rfl, rfl⟩ := trodAll_nil r2
  obtain rfl : args = #[v0, v1, v2] := by cases args; simp_all
  obtain ⟨rfl, rfl⟩ := trodVars_none hV
  have k0 := h0
  have lt0 : ∀ x ∈ p0, x.block < W.heap.size := by obtain ⟨m, hm⟩ := k0; exact DataW.trod_lt m _ _ _ hm
  have k1 := h1
  have lt1 : ∀ x ∈ p1, x.block < W.heap.size := by obtain ⟨m, hm⟩ := k1; exact DataW.trod_lt m _ _ _ hm
  obtain ⟨A0, n0, c0, ss0, rfl, w0⟩ := open_texts hsz (j := 0) rfl rfl (hval 0 23 v0 rfl rfl) h0
  obtain ⟨A1, n1, c1, ss1, rfl, w1⟩ := open_texts hsz (j := 1) rfl rfl (hval 1 23 v1 rfl rfl) h1
  obtain ⟨a2, rfl, rfl, rfl, w2⟩ := open_int Try.underlying3 (hval 2 3 v2 rfl rfl) h2
  clear hA0 hval0
  refine (walk A0 n0 c0 ss0 A1 n1 c1 ss1 a2 W w0 w1 w2).mono fun e W' ⟨he, bel⟩ => ?_
  subst he
  exact ⟨_, rfl, _, _, _, [], _, [], hW', trodAll_mk1 (shut_bool Try.underlying4 _), (trodAll_cons_mk (Below.trod laidOut (by kernel_rfl) (of_decide_eq_true (by kernel_rfl)) k0 bel lt0) (trodAll_cons_mk (Below.trod laidOut (by kernel_rfl) (of_decide_eq_true (by kernel_rfl)) k1 bel lt1) (trodAll_cons_mk (shut_int Try.underlying3 w2) trodAll_mk0))), rfl, bel.frame _, fun h => by cases h⟩

theorem over : Rows.sumPartsRow.holds Try.pinned (OpenSpec.ofChange Rows.sumPartsSpec) :=
  OpenClaim.holds_of_wide 7 Try.f7 rfl rfl rfl rfl rfl rfl rfl ⟨rfl, rfl, rfl, rfl, rfl⟩ rfl rfl rfl rfl rfl (by kernel_rfl) Try.func7 (by kernel_rfl)
    (of_decide_eq_true (by kernel_rfl)) (by unfold Func.isWrapper; first | (rw [if_pos (by decide +kernel)]; kernel_rfl) | (rw [if_neg (by decide +kernel)]; exact ⟨rfl, rfl⟩))
    (fun os started H enc _ => lifted os started H enc)

/-- THE STATEMENT -/
theorem proved : Rows.SumPartsSaid := over
#print axioms proved
end Go.Proofs.Ytedoafnjglikdaa.sumParts
