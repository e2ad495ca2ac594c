/-
  Proved: HeadNext returns true for every slice of heads and every turn: the next number is greater than each whole head's Seq, and the same however pages stand; one page more makes it no less.
  Conditions: none beside the statement's own.
-/
import Derived.Test.YtlbadfeobpnlcaaHown
namespace Go.Proofs.Ytlbadfeobpnlcaa.headNext
open Go.ChangeShapes Go.WideShapes Go.ChangeAt Go.RowKit
open Hd (Head rightB pageH)

set_option maxHeartbeats 1000000 in
theorem walk_long (A : Option Addr) (n c : Nat) (hs : List Head) (t : Int) (w : World) (hrow : HeadRow w A n hs) (hl : 30 < n) :
    Calls Try.prog 6 #[.slice A n c, .int .u8 t] w fun e w' => e = .returned (.bool true) ∧ Below w.heap.size w w' := by
  have hn := hrow.small
  unfold maxLen at hn
  have hl' : (30 : Int) < (n : Int) := by omega
  clear hrow
  go_enter Try.func6, Try.ntmps6
  go_wp2_with fail
  refine (awake_any _).mono ?_
  rintro e w1 ⟨rfl, hb1⟩
  go_wp2_with fail
  go_ret
  exact ⟨rfl, hb1⟩

theorem own_alloc {W : World} {base : Nat} {v : Value} {ps : List (List UInt8)} (h : OwnP W base v ps) (o : Obj) : OwnP (W.alloc o) base v ps := h.step ((Below.refl _ _).alloc (Nat.le_refl _) _)

theorem own_row {W : World} {base : Nat} {A : Option Addr} {n cap : Nat} {ps : List (List UInt8)} (h : OwnP W base (.slice A n cap) ps) (hs : ∀ p ∈ ps, p.length = 64) (hsm : ps.length ≤ 1000) (hn : ps.length = n) : PageRow W A n ps := by
  obtain ⟨A', cap', e, hp, _⟩ := h.form hs hsm
  injection e with e1 e2 e3
  subst e1 e2
  exact hp
theorem row_at {W : World} {g n : Nat} {ps : List (List UInt8)} {i : Nat} {p : List UInt8} (h : PageRow W (some ⟨g, 0, none⟩) n ps) (hi : ps[i]? = some p) : W.rangeAt g (i * 64) (byteVals p) := by
  have hin : i < n := by rw [← h.len]; exact (List.getElem?_eq_some_iff.1 hi).1
  obtain ⟨b, off, e, _, hc⟩ := h.cells (by omega)
  injection e with e
  injection e with e1 e2
  subst e1 e2
  have := hc i p hi
  rwa [Nat.zero_add] at this

set_option maxHeartbeats 4000000 in
theorem walk_main (A : Option Addr) (n c : Nat) (hs : List Head) (T : Nat) (w : World) (hrow : HeadRow w A n hs) (hl : n ≤ 30) (hT : T ≤ 255) :
    Calls Try.prog 6 #[.slice A n c, .int .u8 (T : Int)] w fun e w' => e = .returned (.bool true) ∧ Below w.heap.size w w' := by
  have HR := Lib.hid hrow
  have HL := Lib.hid hrow.len
  have hl' : ¬ (30 : Int) < (n : Int) := by omega
  clear hrow
  go_enter Try.func6, Try.ntmps6
  go_wp2_with fail
  refine (awake_any _).mono ?_
  rintro e w1 ⟨rfl, hb1⟩
  have HB1 := Lib.hid hb1
  clear hb1
  go_wp2_with fail
  clear hl'
  go_loopw [5, 22] (fun x i wr => ∃ k : Nat, k ≤ n ∧ i = .int .i64 k ∧ OwnP wr w.heap.size x (pagesOf (hs.take k)) ∧ Below w.heap.size w wr) (fun _ i _ => n - (intOf i).toNat)
  case atStart => exact ⟨0, Nat.zero_le _, rfl, OwnP.nil _ _, HB1.out⟩
  case round =>
    obtain ⟨k, hk, rfl, hown, hbel⟩ := hrel
    have O0 := Lib.hid hown
    have B0 := Lib.hid hbel
    clear hown hbel HB1
    by_cases hlt : k < n
    · obtain ⟨b, off, rfl, hb, hc⟩ := (HR.out.step B0.out).cells (by omega)
      obtain ⟨h, hh⟩ : ∃ h, hs[k]? = some h := ⟨_, List.getElem?_eq_getElem (by rw [HL.out]; exact hlt)⟩
      have HP := Lib.hid (hc k h hh)
      obtain ⟨m0, m1⟩ := HR.out.ok h (List.mem_of_getElem? hh)
      have hk0 : (0 : Int) ≤ (k : Int) := by omega
      have hk1 : (k : Int) < (n : Int) := by omega
      have hsm : (pagesOf (hs.take k)).length ≤ 1000 := by
        have h1 := pagesOf_length (hs.take k)
        have h2 : (hs.take k).length ≤ k := List.length_take_le _ _
        omega
      cases hr : rightB h with
      | false =>
        have HE := Lib.hid (fun (w : World) => encode_no h w hr)
        have HU := Lib.hid (pagesOf_no hs k h hh hr)
        clear hr hh hc hb m0 m1 HR
        generalize pagesOf (hs.take k) = ps at O0 HU hsm
        go_wp2_with (first
          | ((with_reducible refine wpList_load_headat headT HP.out rfl (.tmp 24) rfl ?_ ?_); (exact rfl))
          | ((with_reducible refine wpList_store_newhead headT (h := h) rfl (.tmp 8) (.tmp 25) rfl rfl ?_ ?_ ?_); (exact rfl); (exact rfl); intro W2 hH hB2 hz2; have H2 := Lib.hid hH; have O2 := Lib.hid (O0.out.step hB2); have B2 := Lib.hid (B0.out.trans (hB2.mono B0.out.size)); clear O0 B0 HP hH hB2 hz2)
          | ((with_reducible refine wpList_load_head headT H2.out rfl (.tmp 8) rfl rfl ?_)))
        refine (HE.out _).mono ?_
        rintro e w3 ⟨rfl, hb3⟩
        have O3 := Lib.hid (O2.out.step hb3)
        have B3 := Lib.hid (B2.out.trans (hb3.mono B2.out.size))
        clear O2 B2 H2 hb3 HE
        go_wp2_with ((with_reducible refine wpList_store_new rfl (.tmp 9) (.tmp 29) rfl rfl ?_ ?_ zeros_length ?_); (exact rfl); (exact rfl); intro W4 hP hB4 hz4; have O4 := Lib.hid (O3.out.step hB4); have B4 := Lib.hid (B3.out.trans (hB4.mono B3.out.size)); clear O3 B3 hP hB4 hz4)
        go_roundw
        case rel => exact ⟨k + 1, by omega, by go_num, by rw [HU.out]; exact O4.out, B4.out⟩
        case measure => simp [intOf]; omega
      | true =>
        have HE := Lib.hid (fun (w : World) => encode_yes h w hr m0 m1)
        have HU := Lib.hid (pagesOf_yes hs k h hh hr)
        have HPL := Lib.hid (Hd.pageH_length h)
        clear hr hh hc hb m0 m1 HR
        generalize pagesOf (hs.take k) = ps at O0 HU hsm
        generalize pageH h = p at HE HU HPL
        go_wp2_with (first
          | ((with_reducible refine wpList_load_headat headT HP.out rfl (.tmp 24) rfl ?_ ?_); (exact rfl))
          | ((with_reducible refine wpList_store_newhead headT (h := h) rfl (.tmp 8) (.tmp 25) rfl rfl ?_ ?_ ?_); (exact rfl); (exact rfl); intro W2 hH hB2 hz2; have H2 := Lib.hid hH; have O2 := Lib.hid (O0.out.step hB2); have B2 := Lib.hid (B0.out.trans (hB2.mono B0.out.size)); clear O0 B0 HP hH hB2 hz2)
          | ((with_reducible refine wpList_load_head headT H2.out rfl (.tmp 8) rfl rfl ?_)))
        refine (HE.out _).mono ?_
        rintro e w3 ⟨rfl, hb3⟩
        have O3 := Lib.hid (O2.out.step hb3)
        have B3 := Lib.hid (B2.out.trans (hb3.mono B2.out.size))
        clear O2 B2 H2 hb3 HE
        go_wp2_with (first
          | ((with_reducible refine wpList_store_new rfl (.tmp 9) (.tmp 29) rfl rfl ?_ ?_ HPL.out ?_); (exact rfl); (exact rfl); intro W4 hP hB4 hz4; have P4 := Lib.hid hP; have O4 := Lib.hid (O3.out.step hB4); have B4 := Lib.hid (B3.out.trans (hB4.mono B3.out.size)); clear O3 B3 hP hB4 hz4)
          | ((with_reducible refine wpList_load_page P4.out rfl (.tmp 9) rfl rfl ?_))
          | ((with_reducible refine wpList_buildPage HPL.out rfl (.tmp 34) rfl rfl ?_); have O5 := Lib.hid (own_alloc O4.out (.cells (byteVals p).toArray 28)); have B5 := Lib.hid (B4.out.alloc B4.out.size (.cells (byteVals p).toArray 28)); have P5 := Lib.hid (pageAt_new W4 p 28 HPL.out); clear O4 B4 P4; generalize W4.heap.size = G at P5 ⊢; generalize W4.alloc (.cells (byteVals p).toArray 28) = W5 at O5 B5 P5 ⊢)
          | ((with_reducible refine wpList_append_page O5.out hsm HPL.out P5.out B5.out.size rfl (.tmp 33) (.tmp 35) rfl ?_ ?_ ?_); (exact rfl); (exact rfl); intro g cap w6 ho6 hg6 hv6 hlt6; have O6 := Lib.hid ho6; have B6 := Lib.hid (B5.out.grown hg6 B5.out.size O5.out.base); clear O5 B5 P5 ho6 hg6 hv6 hlt6))
        go_roundw
        case rel => exact ⟨k + 1, by omega, by go_num, by rw [HU.out]; exact O6.out, B6.out⟩
        case measure => simp [intOf]; omega
    · have HK : Hid (hs.take k = hs) := Lib.hid (List.take_of_length_le (by rw [HL.out]; omega))
      rw [HK.out] at O0
      have hm30 : (pagesOf hs).length ≤ 30 := by
        have h1 := pagesOf_length hs
        have h2 := HL.out
        omega
      have HZ := Lib.hid (pagesOf_size hs)
      have HW := Lib.hid (pagesOf_whole hs HR.out.ok)
      clear HK HR
      generalize pagesOf hs = ps at O0 hm30 HZ HW
      obtain ⟨A5, cap, hx, hprow, hA5, hcap, hcapm⟩ := O0.out.form HZ.out (by omega)
      subst hx
      have HN := Lib.hid (next_any A5 ps.length cap ps wr hprow)
      have HA5 := Lib.hid hA5
      have HNn := Lib.hid (turned_next ps T)
      have HNs := Lib.hid (fun i => Hd.nextN_sub (ps.take i) ps (fun p hp => List.mem_of_mem_take hp))
      have HNg := Lib.hid (fun p hp => Hd.nextN_gt ps p hp)
      have hN0 := Hd.nextN_nonneg ps
      have hN1 := Hd.nextN_top ps HZ.out
      clear hprow hA5 HL
      unfold maxLen at hcapm
      obtain ⟨m, hm⟩ : ∃ m, ps.length = m := ⟨_, rfl⟩
      have HM := Lib.hid hm
      rw [hm] at HN hcap hm30 ⊢
      have HO : Hid (OwnP wr w.heap.size (.slice A5 m cap) ps) := Lib.hid (by rw [← hm]; exact O0.out)
      clear O0 hm
      generalize Hd.nextN ps = N at HN HNn HNs HNg hN0 hN1
      go_wp2_with fail
      refine HN.out.mono ?_
      rintro e w2 ⟨rfl, hb2⟩
      have O1 := Lib.hid (HO.out.step hb2)
      have B1 := Lib.hid (B0.out.trans (hb2.mono B0.out.size))
      clear HO B0 HN hb2
      go_wp2_with fail
      rename World => wo
      go_loopw [6, 42] (fun y i wr => ∃ k : Nat, k ≤ m ∧ i = .int .i64 k ∧ OwnP wr w.heap.size y (turned ps T k) ∧ OwnP wr w.heap.size (.slice A5 m cap) ps ∧ (y.ownBlock = none ∨ y.ownBlock ≠ (Value.slice A5 m cap).ownBlock) ∧ Below w.heap.size w wr) (fun _ i _ => m - (intOf i).toNat)
      case atStart => exact ⟨0, Nat.zero_le _, rfl, OwnP.nil _ _, O1.out, Or.inl rfl, B1.out⟩
      case round =>
        obtain ⟨k, hk, rfl, hown, hps, hsep, hbel⟩ := hrel
        have Y0 := Lib.hid hown
        have Q0 := Lib.hid hps
        have X0 := Lib.hid hsep
        have B0 := Lib.hid hbel
        clear hown hps hsep hbel O1 B1
        have hsm : ps.length ≤ 1000 := by rw [HM.out]; omega
        by_cases hlt : k < m
        · obtain ⟨g5, rfl, hb5, _⟩ := HA5.out (by rw [HM.out]; omega)
          have R0 := Lib.hid (own_row Q0.out HZ.out hsm HM.out)
          have hg5 : g5 < wr.heap.size := by obtain ⟨b, off, e, h5, _⟩ := R0.out.cells (by omega); injection e with e; injection e with e1 _; rw [e1]; exact h5
          have HG5 := Lib.hid hg5
          have hjm : (k + T) % m < m := Nat.mod_lt _ (by omega)
          obtain ⟨q, hq⟩ : ∃ q, ps[(k + T) % m]? = some q := ⟨_, List.getElem?_eq_getElem (by rw [HM.out]; exact hjm)⟩
          obtain ⟨p, hp⟩ : ∃ p, ps[k]? = some p := ⟨_, List.getElem?_eq_getElem (by rw [HM.out]; exact hlt)⟩
          have HQ := Lib.hid (row_at R0.out hq)
          have HQL := Lib.hid (HZ.out q (List.mem_of_getElem? hq))
          have HPL := Lib.hid (HZ.out p (List.mem_of_getElem? hp))
          have HTm : Hid (turned ps T (k + 1) = turned ps T k ++ [q]) := Lib.hid (by
            rw [turned_more, HM.out, List.getD_eq_getElem?_getD, hq]; rfl)
          have hts : (turned ps T k).length ≤ 1000 := by rw [turned_length]; omega
          have HD := Lib.hid (fun (w : World) => decode_yes p w HPL.out (HW.out p (List.mem_of_getElem? hp)))
          have hlt1 : ¬ N ≤ (Hd.readH p).seq := by
            have := HNg.out p (List.mem_of_getElem? hp)
            change Pg.getN p 0 4 < N at this
            show ¬ N ≤ Pg.getN p 0 4
            omega
          have HP : Hid (∀ W, PageRow W (some ⟨g5, 0, none⟩) m ps → W.rangeAt g5 (k * 64) (byteVals p)) := Lib.hid (fun W hW => row_at hW hp)
          have hle : ¬ N < Hd.nextN (ps.take k) := by have := HNs.out k; omega
          have hj : ((k : Int) + (T : Int)) % (m : Int) = (((k + T) % m : Nat) : Int) := by rw [Int.natCast_emod, Int.natCast_add]
          have hk0 : (0 : Int) ≤ (k : Int) := by omega
          have hk1 : (k : Int) < (m : Int) := by omega
          have hkc : (k : Int) ≤ (cap : Int) := by omega
          have hj0 : (0 : Int) ≤ (((k + T) % m : Nat) : Int) := by omega
          have hj1 : (((k + T) % m : Nat) : Int) < (m : Int) := by omega
          have hm0 : ¬ (m : Int) = 0 := by omega
          clear hq hp R0 hg5 HW HNg HNs HNn HA5
          generalize turned ps T k = ts at Y0 HTm hts
          generalize (k + T) % m = j at HQ hjm hj hj0 hj1
          generalize hzz : Hd.nextN (ps.take k) = z at hle
          have HZZ := Lib.hid hzz
          clear hzz
          generalize Hd.readH p = r at HD hlt1
          go_wp2_with (first
            | ((with_reducible refine wpList_load_at HQ.out HQL.out rfl (.tmp 54) rfl ?_ ?_); (exact rfl))
            | ((with_reducible refine wpList_buildPage HQL.out rfl (.tmp 55) rfl rfl ?_); have Y1 := Lib.hid (own_alloc Y0.out (.cells (byteVals q).toArray 28)); have Q1 := Lib.hid (own_alloc Q0.out (.cells (byteVals q).toArray 28)); have B1 := Lib.hid (B0.out.alloc B0.out.size (.cells (byteVals q).toArray 28)); have P1 := Lib.hid (pageAt_new wr q 28 HQL.out); have G1 : Hid (g5 < (wr.alloc (.cells (byteVals q).toArray 28)).heap.size) := Lib.hid (by simp; have := HG5.out; omega); clear Y0 Q0 B0 HQ HG5; generalize wr.heap.size = G at P1 ⊢; generalize wr.alloc (.cells (byteVals q).toArray 28) = W1 at Y1 Q1 B1 P1 G1 ⊢)
            | ((with_reducible refine wpList_append_page Y1.out hts HQL.out P1.out B1.out.size rfl (.tmp 45) (.tmp 56) rfl ?_ ?_ ?_); (exact rfl); (exact rfl); intro g cap2 w2 ho2 hg2 hv2 hlt2
               have Y2 := Lib.hid ho2
               have Q2 := Lib.hid (OwnP.kept Q1.out hg2 (by rcases X0.out with e | e <;> (right; (first | (rw [e]; exact (fun h => by cases h)) | exact fun h => e h.symm))))
               have B2 := Lib.hid (B1.out.grown hg2 B1.out.size Y1.out.base)
               have X2 : Hid ((Value.slice (some ⟨g, 0, none⟩) (ts.length + 1) cap2).ownBlock = none ∨ (Value.slice (some ⟨g, 0, none⟩) (ts.length + 1) cap2).ownBlock ≠ (Value.slice (some ⟨g5, 0, none⟩) m cap).ownBlock) := Lib.hid (by
                 right
                 intro e
                 have e' : g = g5 := by injection e
                 subst e'
                 rcases hv2 with h | h
                 · rcases X0.out with h' | h'
                   · rw [h'] at h; cases h
                   · exact h' h
                 · have := G1.out; omega)
               clear Y1 Q1 B1 P1 G1 X0 ho2 hg2 hv2 hlt2))
          have R2 := Lib.hid (own_row Q2.out HZ.out hsm HM.out)
          refine (next_any (some ⟨g5, 0, none⟩) k cap (ps.take k) w2 (R2.out.take k (by omega))).mono ?_
          rintro e w3 ⟨rfl, hb3⟩
          rw [HZZ.out]
          have Y3 := Lib.hid (Y2.out.step hb3)
          have Q3 := Lib.hid (Q2.out.step hb3)
          have B3 := Lib.hid (B2.out.trans (hb3.mono B2.out.size))
          have P3 := Lib.hid (HP.out w3 (R2.out.step hb3))
          clear Y2 Q2 B2 R2 hb3 HP
          go_wp2_with ((with_reducible refine wpList_load_at P3.out HPL.out rfl (.tmp 67) rfl ?_ ?_); (exact rfl))
          refine (HD.out _).mono ?_
          rintro e w4 ⟨rfl, hb4⟩
          have Y4 := Lib.hid (Y3.out.step hb4)
          have Q4 := Lib.hid (Q3.out.step hb4)
          have B4 := Lib.hid (B3.out.trans (hb4.mono B3.out.size))
          clear Y3 Q3 B3 P3 hb4 HD
          go_wp2_with ((with_reducible refine wpList_store_newhead headT (h := r) rfl (.tmp 13) (.tmp 70) rfl rfl ?_ ?_ ?_); (exact rfl); (exact rfl); intro W5 hH hB5 hz5; have d0 := hH.c0; have Y5 := Lib.hid (Y4.out.step hB5); have Q5 := Lib.hid (Q4.out.step hB5); have B5 := Lib.hid (B4.out.trans (hB5.mono B4.out.size)); clear Y4 Q4 B4 hH hB5 hz5)
          go_roundw
          case rel => exact ⟨k + 1, by omega, by go_num, by rw [HTm.out]; exact Y5.out, Q5.out, X2.out, B5.out⟩
          case measure => simp [intOf]; omega
        · obtain rfl : k = m := by omega
          have HTs : Hid (∀ p ∈ turned ps T k, p.length = 64) := Lib.hid (by
            by_cases h0 : 0 < ps.length
            · exact turned_size ps HZ.out T k h0
            · have e0 : k = 0 := by have := HM.out; omega
              subst e0
              intro p hp
              simp [turned] at hp)
          have hts : (turned ps T k).length = k := turned_length ps T k
          obtain ⟨A6, cap6, hy, hprow6, _⟩ := Y0.out.form HTs.out (by omega)
          subst hy
          have HN6 := Lib.hid (next_any A6 (turned ps T k).length cap6 (turned ps T k) wr hprow6)
          have HE : Hid (Hd.nextN (turned ps T k) = N) := Lib.hid (by have := HNn.out; rw [HM.out] at this; exact this)
          rw [HE.out] at HN6
          rw [hts] at HN6 ⊢
          clear hprow6 hts Y0 HNn HNs HNg HW HA5
          go_wp2_with fail
          refine HN6.out.mono ?_
          rintro e w7 ⟨rfl, hb7⟩
          have B7 := Lib.hid (B0.out.trans (hb7.mono B0.out.size))
          clear hb7 HN6
          go_wp2_with fail
          go_ret
          exact ⟨ret_bool (by simp), B7.out⟩

theorem walk (A : Option Addr) (n c : Nat) (hs : List Head) (t : Int) (w : World) (hrow : HeadRow w A n hs) (ht0 : 0 ≤ t) (ht1 : t ≤ 255) :
    Calls Try.prog 6 #[.slice A n c, .int .u8 t] w fun e w' => e = .returned (.bool true) ∧ Below w.heap.size w w' := by
  by_cases hl : 30 < n
  · exact walk_long A n c hs t w hrow hl
  · obtain ⟨T, rfl⟩ := Int.eq_ofNat_of_zero_le ht0
    exact walk_main A n c hs T w hrow (by omega) (by omega)

set_option maxRecDepth 100000 in
theorem lifted (os : Os) (started : os.Started) (H : Type) (enc : TypeId × Value → H) :
    ReturnsInHanded {} Try.checked os 6 .any (Rows.headNextSpec.pre6 enc Try.prog Try.f6 Rows.headNextRow.domain false) (Rows.headNextSpec.post enc Try.prog Try.f6 false true false false) := by
  refine returnsInHanded_of_change (C := Try.checked) own started (by kernel_rfl) Try.func6
    (ChangeSpec.witness6 (enc := enc) (C := Try.checked) false ⟨#[], #[.slice none 0 0, .int .u8 0], []⟩ 8 (by kernel_rfl) (by kernel_rfl) (by kernel_rfl) (by kernel_rfl)) ?_
  intro W base args ds gs before hval0 hW hcnd _
  have hval : ∀ (j : Nat) t v, Try.f6.params[j]? = some t → args[j]? = some v → Value.okWide Try.prog W .any base t v := hval0
  have hW' := hW
  obtain ⟨p, q, hA0, hV, rfl, hfz, hnd⟩ := hW
  have hA : DataW.TrodAll enc Try.prog W 0 (fun _ => true) true Try.f6.params.toList args.toList ds p := hA0
  rw [Try.params6] at hA hval
  obtain ⟨v0, vs0, d0, ds0, p0, q0, hargs, rfl, rfl, h0, r0⟩ := trodAll_cons hA
  obtain ⟨v1, vs1, d1, ds1, p1, q1, rfl, rfl, rfl, h1, r1⟩ := trodAll_cons r0
  obtain ⟨rfl, rfl, rfl⟩ := trodAll_nil r1
  obtain rfl : args = #[v0, v1] := by cases args; simp_all
  obtain ⟨rfl, rfl⟩ := trodVars_none hV
  have k0 := h0
  have lt0 : ∀ x ∈ p0, x.block < W.heap.size := by obtain ⟨m, hm⟩ := k0; exact DataW.trod_lt m _ _ _ hm
  have k1 := h1
  have lt1 : ∀ x ∈ p1, x.block < W.heap.size := by obtain ⟨m, hm⟩ := k1; exact DataW.trod_lt m _ _ _ hm
  obtain ⟨A0, n0, c0, hs0, rfl, w0⟩ := open_heads (hval 0 45 v0 rfl rfl) h0
  obtain ⟨x1, rfl, ed1, ep1, w1⟩ := open_int Try.underlying5 (hval 1 5 v1 rfl rfl) h1
  clear hA0 hval0
  refine (walk A0 n0 c0 hs0 x1 W w0 (bounds_u8 w1).1 (bounds_u8 w1).2).mono fun e W' ⟨he, bel⟩ => ?_
  subst he
  exact ⟨_, rfl, _, _, _, [], _, [], hW', trodAll_mk1 (shut_bool Try.underlying4 _), (trodAll_cons_mk (Below.trod laidOut (by kernel_rfl) (of_decide_eq_true (by kernel_rfl)) k0 bel lt0) (trodAll_cons_mk (Below.trod laidOut (by kernel_rfl) (of_decide_eq_true (by kernel_rfl)) k1 bel lt1) trodAll_mk0)), rfl, bel.frame _, fun h => by cases h⟩

theorem over : Rows.headNextRow.holds Try.pinned (OpenSpec.ofChange Rows.headNextSpec) :=
  OpenClaim.holds_of_wide 6 Try.f6 rfl rfl rfl rfl rfl rfl rfl ⟨rfl, rfl, rfl, rfl, rfl⟩ rfl rfl rfl rfl rfl (by kernel_rfl) Try.func6 (by kernel_rfl)
    (of_decide_eq_true (by kernel_rfl)) (by unfold Func.isWrapper; first | (rw [if_pos (by decide +kernel)]; kernel_rfl) | (rw [if_neg (by decide +kernel)]; exact ⟨rfl, rfl⟩))
    (fun os started H enc _ => lifted os started H enc)

/-- THE STATEMENT -/
theorem proved : Rows.HeadNextSaid := over
#print axioms proved
end Go.Proofs.Ytlbadfeobpnlcaa.headNext
