/-
  StoreOnce: whatever the input, the law returns true, and each argument reads behind the call as it read before. No conditions.
-/
import Derived.Test.YteedglcbodpcdaaMsd
import Derived.Test.YteedglcbodpcdaaMhb
namespace Go.Proofs.Yteedglcbodpcdaa.storeOnce
open Go.ChangeShapes Go.WideShapes Go.ChangeAt Go.RowKit
open Dk (zeros zeros_length)
open Jn (Chg Same upd)

set_option maxRecDepth 100000 in
theorem open_pages {H : Type} {enc : TypeId × Value → H} {W : World} {base : Nat} {v : Value} {d : DataW H} {p : List MemPlace} (hv : Value.okWide Try.prog W .any base 50 v)
    (h : DataW.Trod enc Try.prog W 0 (fun _ => true) true 50 v d p) : ∃ A n c ps, v = .slice A n c ∧ PageRow W A n ps := by
  obtain ⟨A, n, c, rfl⟩ := okWide_slice Try.underlying50 hv
  obtain ⟨fuel, hf⟩ := h
  rcases Go.Deep.open_slice Try.underlying50 hf with ⟨hcs, _⟩ | ⟨a, len, cap, m, k, D, Pl, hcs, _, hl, hm, hmm, _, hi⟩
  · simp [Value.cells] at hcs
    obtain ⟨rfl, rfl, rfl⟩ := hcs
    exact ⟨_, _, _, [], rfl, rfl, by unfold maxLen; omega, fun p hp => absurd hp (by simp), fun hn => by omega⟩
  · simp [Value.cells] at hcs
    obtain ⟨rfl, rfl, rfl⟩ := hcs
    simp only [if_true] at hmm
    have each : ∀ i, i < n → ∃ q : List UInt8, q.length = 64 ∧ ∀ j u, (byteVals q)[j]? = some u → W.cell? ((a.add (i * 64)).add j) = some u := by
      intro i hin
      obtain ⟨cs, hc, ht⟩ := hi i (by omega)
      rw [cellsP] at hc
      obtain ⟨_, hcl, hat⟩ := World.cells?_some hc
      obtain ⟨l, hll, hl'⟩ := page_cells ht
      refine ⟨l, hll, fun j u hu => ?_⟩
      rw [← hl'] at hu
      have hj : j < 64 := by have := (List.getElem?_eq_some_iff.1 hu).1; omega
      rw [hat j hj, hu]
    obtain ⟨ps, hpl, hps⟩ := list_of _ n each
    have hget : ∀ i p, ps[i]? = some p → p.length = 64 ∧ ∀ j u, (byteVals p)[j]? = some u → W.cell? ((a.add (i * 64)).add j) = some u := by
      intro i p hp
      have hin : i < n := by have := (List.getElem?_eq_some_iff.1 hp).1; omega
      obtain ⟨q, hq, h1⟩ := hps i hin
      rw [hp] at hq
      injection hq with hq
      rw [hq]; exact h1
    refine ⟨_, _, _, ps, rfl, hpl, by omega, fun p hp => ?_, fun hn => ?_⟩
    · obtain ⟨i, hi', he⟩ := List.getElem_of_mem hp
      exact (hget i p (by rw [List.getElem?_eq_getElem hi', he])).1
    · obtain ⟨p0, hp0⟩ : ∃ p, ps[0]? = some p := ⟨_, List.getElem?_eq_getElem (by omega)⟩
      obtain ⟨b, off, spot⟩ := a
      obtain ⟨hz0, hc0⟩ := hget 0 p0 hp0
      have hcell0 := hc0 0 _ (byteVals_at _ 0 (by omega))
      have hspot : spot = none := by simpa [Addr.add] using World.cell?_spot hcell0
      subst hspot
      refine ⟨b, off, rfl, ?_, fun i p hp j u hu => ?_⟩
      · rw [Addr.add_mid, Addr.add_mid] at hcell0
        exact World.block_lt_of_cell? W _ hcell0
      · have := (hget i p hp).2 j u hu
        rw [Addr.add_mid, Addr.add_mid] at this
        exact this
/-- two stores that the call has made, apart from one another -/
structure Two (w : World) (b c : Blk) (s v : Sto) (W : World) : Prop where
  st1 : StoreAt W b s
  st2 : StoreAt W c v
  apart : ∀ k ∈ b.all, k ∉ c.all
  bel : Below w.heap.size w W
  old1 : ∀ k ∈ b.all, w.heap.size ≤ k
  old2 : ∀ k ∈ c.all, w.heap.size ≤ k
theorem Two.byBelow {w : World} {b c : Blk} {s v : Sto} {W W' : World} (h : Two w b c s v W) (hb : Below W.heap.size W W') : Two w b c s v W' := ⟨h.st1.below hb, h.st2.below hb, h.apart, h.bel.trans (hb.mono h.bel.size), h.old1, h.old2⟩
theorem Two.by1 {w : World} {b c : Blk} {s s' v : Sto} {W W' : World} {L : List Nat} (h : Two w b c s v W) (hs : StoreAt W' b s') (ho : Only L W W') (hL : ∀ k ∈ L, k ∈ b.all) : Two w b c s' v W' :=
  ⟨hs, h.st2.only ho (fun k hk q => h.apart k (hL k q) hk), h.apart, Only.toBelowOld h.bel ho h.bel.size (fun k hk => h.old1 k (hL k hk)), h.old1, h.old2⟩
theorem Two.by2 {w : World} {b c : Blk} {s v v' : Sto} {W W' : World} {L : List Nat} (h : Two w b c s v W) (hs : StoreAt W' c v') (ho : Only L W W') (hL : ∀ k ∈ L, k ∈ c.all) : Two w b c s v' W' :=
  ⟨h.st1.only ho (fun k hk q => h.apart k hk (hL k q)), hs, h.apart, Only.toBelowOld h.bel ho h.bel.size (fun k hk => h.old2 k (hL k hk)), h.old1, h.old2⟩
theorem newWorld_size (w : World) (n : Nat) : (newWorld w n).heap.size = w.heap.size + 3 := by unfold newWorld; simp
/-- behind the first Open -/
structure MidO (w : World) (b : Blk) (S0 : Dk.St) (W : World) : Prop where
  st : StoreAt W b (sto0 S0 20 17 15 1)
  disk : DiskAt W (w.heap.size + 5) (w.heap.size + 3) (w.heap.size + 4) (Dk.fresh 40)
  bel : Below w.heap.size w W
  old : ∀ k ∈ b.all, w.heap.size ≤ k ∧ k ≠ w.heap.size + 3 ∧ k ≠ w.heap.size + 4 ∧ k ≠ w.heap.size + 5
theorem two_first (w : World) : ∃ S0, First S0 40 20 ∧ Calls Try.prog 9 #[.pointer (some ⟨w.heap.size + 2, 0, none⟩), .int .i64 20, .int .i64 17] (newWorld (newWorld w 40) 40) fun e W =>
    ∃ b : Blk, b.d = w.heap.size + 2 ∧ e = .returned (.tuple #[.pointer (some ⟨b.s, 0, none⟩), .int .i64 0]) ∧ MidO w b S0 W := by
  have s1 := newWorld_size w 40
  have s2 := newWorld_size (newWorld w 40) 40
  have hd1 := (newWorld_disk w 40 (by omega) (by omega)).below (newWorld_below (newWorld w 40) 40)
  have hd2 := newWorld_disk (newWorld w 40) 40 (by omega) (by omega)
  have hb : Below w.heap.size w (newWorld (newWorld w 40) 40) := (newWorld_below w 40).trans ((newWorld_below (newWorld w 40) 40).mono (by omega))
  rw [s1] at hd2 s2
  obtain ⟨s, hs, hc⟩ := sfirst_open hd1 (by omega) (by omega) (a := 20) (z := 17) (r := 15) room17 (by omega) (by omega) (by omega) (by omega)
  refine ⟨s, hs, hc.mono ?_⟩
  rintro e W ⟨b, b1, b2, b3, b4, b5, b6, b7, rfl, hS, ho⟩
  refine ⟨b, b1, rfl, hS, hd2.only ho (by simp <;> omega) (by simp <;> omega) (by simp <;> omega), Only.toBelowOld hb ho (by omega) (fun k hk => by simp at hk; omega), fun k hk => ?_⟩
  unfold Blk.all at hk
  simp only [List.mem_cons, List.not_mem_nil, or_false] at hk
  omega
theorem two_second {w : World} {b : Blk} {S0 : Dk.St} {W : World} (h : MidO w b S0 W) : ∃ V0, First V0 40 20 ∧ Calls Try.prog 9 #[.pointer (some ⟨w.heap.size + 5, 0, none⟩), .int .i64 20, .int .i64 17] W fun e W' =>
    ∃ c : Blk, c.d = w.heap.size + 5 ∧ e = .returned (.tuple #[.pointer (some ⟨c.s, 0, none⟩), .int .i64 0]) ∧ Two w b c (sto0 S0 20 17 15 1) (sto0 V0 20 17 15 1) W' := by
  obtain ⟨s, hs, hc⟩ := sfirst_open h.disk (by omega) (by omega) (a := 20) (z := 17) (r := 15) room17 (by omega) (by omega) (by omega) (by omega)
  refine ⟨s, hs, hc.mono ?_⟩
  rintro e W' ⟨c, b1, b2, b3, b4, b5, b6, b7, rfl, hS, ho⟩
  have hsz := h.bel.size
  have hlt := h.disk.dlt
  refine ⟨c, b1, rfl, h.st.only ho (fun k hk q => by have := h.old k hk; simp at q; omega), hS, fun k hk q => ?_, Only.toBelowOld h.bel ho hsz (fun k hk => by simp at hk; omega), fun k hk => (h.old k hk).1, fun k hk => ?_⟩
  · have h1 := h.old k hk
    have h2 := h.st.lt k hk
    unfold Blk.all at q
    simp only [List.mem_cons, List.not_mem_nil, or_false] at q
    omega
  · unfold Blk.all at hk
    simp only [List.mem_cons, List.not_mem_nil, or_false] at hk
    omega

set_option maxRecDepth 100000 in
set_option maxHeartbeats 1000000 in
theorem walk_long (A : Option Addr) (n ca : Nat) (x y : Value) (w : World) (hn : n ≤ maxLen) (h : 14 < n) :
    Calls Try.prog 5 #[.slice A n ca, x, y] w fun e w' => e = .returned (.bool true) ∧ Below w.heap.size w w' := by
  unfold maxLen at hn
  have h' : (14 : Int) < (n : Int) := by omega
  go_enter Try.func5, Try.ntmps5
  go_wp2_with fail
  refine (awake_any _).mono ?_
  rintro e w1 ⟨rfl, hb1⟩
  go_wp2_with fail
  go_ret
  exact ⟨rfl, hb1⟩

set_option maxRecDepth 100000 in
set_option maxHeartbeats 8000000 in
theorem walk_main (A : Option Addr) (n ca : Nat) (bs : List UInt8) (A2 : Option Addr) (n2 c2 : Nat) (ps : List (List UInt8)) (y : Int) (w : World) (hn : n ≤ 14) (hrow : ByteRow w A n ca bs) (hrow2 : PageRow w A2 n2 ps) (hy0 : 0 ≤ y) (hy1 : y ≤ 255) :
    Calls Try.prog 5 #[.slice A n ca, .slice A2 n2 c2, .int .u8 y] w fun e w' => e = .returned (.bool true) ∧ Below w.heap.size w w' := by
  have hn2 := hrow2.small
  unfold maxLen at hn2
  have HR1 := Lib.hid hrow
  have HR2 := Lib.hid hrow2
  clear hrow hrow2
  have hn' : ¬ ((14 : Int) < (n : Int)) := by omega
  go_enter Try.func5, Try.ntmps5
  go_wp2_with fail
  refine (awake_any _).mono ?_
  rintro e w1 ⟨rfl, hb1⟩
  have HB1 := Lib.hid hb1
  clear hb1
  have HN1 : Hid (∀ W, Calls Try.prog 8 #[.int .i64 40] W fun e w' => e = .returned (.tuple #[.pointer (some ⟨W.heap.size + 2, 0, none⟩), .int .i64 0]) ∧ w' = newWorld W 40) := Lib.hid (fun W => new_any 40 W (by omega) (by omega))
  obtain ⟨S0, hS0, hO1⟩ := two_first w1
  have HO1 := Lib.hid hO1
  have HS0 := Lib.hid hS0
  clear hO1 hS0
  go_wp2_with fail
  refine (HN1.out _).mono ?_
  rintro e w2 ⟨rfl, rfl⟩
  go_wp2_with fail
  refine (HN1.out _).mono ?_
  rintro e w2 ⟨rfl, rfl⟩
  rw [newWorld_size]
  generalize newWorld (newWorld w1 40) 40 = w3 at HO1 ⊢
  clear HN1
  go_wp2_with fail
  refine HO1.out.mono ?_
  rintro e w4 ⟨b, hbd, rfl, hM⟩
  rw [← hbd]
  obtain ⟨V0, hV0, hO2⟩ := two_second hM
  have HO2 := Lib.hid hO2
  have HV0 := Lib.hid hV0
  clear hO2 hV0 HO1 hM hbd
  go_wp2_with fail
  refine HO2.out.mono ?_
  rintro e w5 ⟨c, hcd, rfl, hT⟩
  have HT0 := Lib.hid (show Two w b c (sto0 S0 20 17 15 1) (sto0 V0 20 17 15 1) w5 from ⟨hT.st1, hT.st2, hT.apart, HB1.out.trans (hT.bel.mono HB1.out.size), fun k hk => Nat.le_trans HB1.out.size (hT.old1 k hk), fun k hk => Nat.le_trans HB1.out.size (hT.old2 k hk)⟩)
  rw [show w1.heap.size + 3 + 2 = c.d by omega]
  have HON := Lib.hid (on_start HS0.out HV0.out)
  clear HO2 hT HB1 HS0 HV0 hcd
  generalize sto0 S0 20 17 15 1 = s0 at HT0 HON
  generalize sto0 V0 20 17 15 1 = v0 at HT0 HON
  go_wp2_with fail
  go_loopw [50] (fun i wr => ∃ (k : Nat) (M : Pgs) (s v : Sto), k ≤ n ∧ i = .int .i64 k ∧ On S0 V0 M k s v ∧ Two w b c s v wr) (fun i _ => n - (intOf i).toNat)
  case atStart => exact ⟨0, _, _, _, Nat.zero_le _, rfl, HON.out, HT0.out⟩
  case round =>
    obtain ⟨k, M, s, v, hk, rfl, hon, htw⟩ := hrel
    have HON1 := Lib.hid hon
    have HT1 := Lib.hid htw
    clear hon htw HON HT0
    by_cases hlt : k < n
    · obtain ⟨ab, ao, rfl, hab, hac⟩ := HR1.out.cells (by omega)
      have hcell : wr.cell? ⟨ab, ao + k, none⟩ = some (.int .u8 ((bs.getD k 0).toNat : Int)) := (HT1.out.bel.cell (p := ⟨ab, ao + k, none⟩) hab).trans (hac k hlt)
      clear hab hac
      generalize bs.getD k 0 = x at hcell
      have hx := x.toNat_lt
      obtain ⟨j, hj, hj20⟩ : ∃ j : Nat, (x.toNat : Int) % 20 = (j : Int) ∧ j < 20 := ⟨x.toNat % 20, by omega, by omega⟩
      have HPUT := Lib.hid (fun (p : List UInt8) (hp : p.length = 64) => on_put HON1.out hj20 (by omega) hp)
      have HBN : Hid (∀ L : List Nat, (∀ q ∈ L, q ∈ b.all ∨ q ∈ c.all) → wr.heap.size ∉ L) := Lib.hid (fun L hL q => by
        rcases hL _ q with g | g
        · have := HT1.out.st1.lt _ g; omega
        · have := HT1.out.st2.lt _ g; omega)
      by_cases hk2 : k < n2
      · obtain ⟨pb, po, rfl, hpb, hpc⟩ := HR2.out.cells (by omega)
        have hk2' : (k : Int) < (n2 : Int) := by omega
        obtain ⟨p, hp⟩ : ∃ p, ps[k]? = some p := ⟨_, List.getElem?_eq_getElem (by rw [HR2.out.len]; exact hk2)⟩
        have HPL : Hid (p.length = 64) := Lib.hid (HR2.out.size p (List.mem_of_getElem? hp))
        have HRG : Hid (wr.rangeAt pb (po + k * 64) (byteVals p)) := Lib.hid (fun j v hv => (HT1.out.bel.cell (p := ⟨pb, po + k * 64 + j, none⟩) hpb).trans (hpc k p hp j v hv))
        have HBL : Hid ((byteVals p).length = 64) := Lib.hid (by rw [byteVals_length]; exact HPL.out)
        clear hp hpb hpc
        go_wp2_with (first
          | (with_reducible refine wpList_load_mid rfl 35 (.tmp 61) rfl pb (po + k * 64) rfl (byteVals p) _ (World.rangeAt_alloc HRG.out _) Try.underlying35 rfl (page_info.trans (congrArg some HBL.out.symm)) ?_)
          | ((with_reducible refine wpList_store_new rfl (.tmp 17) (.tmp 62) rfl rfl ?_ ?_ HPL.out ?_); (exact rfl); (exact rfl); intro W2 hP2 hB2 hz2; have HP2 := Lib.hid hP2; have HT2 := Lib.hid (HT1.out.byBelow hB2); clear hP2 hB2 hz2)
          | (with_reducible refine wpList_load_page HP2.out rfl (.tmp 17) rfl rfl ?_))
        obtain ⟨e1, e2, hON2⟩ := HPUT.out p HPL.out
        have HON2 := Lib.hid hON2
        have HW : Hid (Calls Try.prog 11 #[.pointer (some ⟨b.s, 0, none⟩), .int .i64 (j : Int), pageV p] W2 fun e w' => e = .returned (.int .i64 0) ∧ StoreAt w' b (sput s (j : Int) p) ∧ Only [b.t] W2 w') := Lib.hid (by
          have := sput_any HT2.out.st1 (j : Int) p HPL.out
          rw [e1] at this
          exact this)
        have HW2 : Hid (∀ W s', Two w b c s' v W → Calls Try.prog 11 #[.pointer (some ⟨c.s, 0, none⟩), .int .i64 (j : Int), pageV p] W fun e w' => e = .returned (.int .i64 0) ∧ StoreAt w' c (sput v (j : Int) p) ∧ Only [c.t] W w') := Lib.hid (fun W s' hW => by
          have := sput_any hW.st2 (j : Int) p HPL.out
          rw [e2] at this
          exact this)
        clear e1 e2 hON2 HPUT
        generalize sput s (j : Int) p = s1 at HW HON2
        generalize sput v (j : Int) p = v1 at HW2 HON2
        refine HW.out.mono ?_
        rintro e W3 ⟨rfl, hS3, hO3⟩
        have HT3 := Lib.hid (HT2.out.by1 hS3 hO3 (by simp [Blk.all]))
        have HP3 := Lib.hid (HP2.out.only hO3 (HBN.out _ (by simp [Blk.all])))
        clear HW hS3 hO3 HT2 HP2
        go_wp2_with (with_reducible refine wpList_load_guarded HP3.out (.tmp 17) rfl rfl (by kernel_rfl) ?_)
        refine (HW2.out _ _ HT3.out).mono ?_
        rintro e W4 ⟨rfl, hS4, hO4⟩
        have HT4 := Lib.hid (HT3.out.by2 hS4 hO4 (by simp [Blk.all]))
        clear HW2 hS4 hO4 HT3 HP3
        by_cases hcut : (k : Int) % 3 = y % 3
        · have hc1 : ((k : Int) % 3 == y % 3) = true := by simpa using hcut
          obtain ⟨e3, hON3, _⟩ := on_keep HON2.out (by omega)
          have HON3 := Lib.hid hON3
          have HKP : Hid (Calls Try.prog 13 #[.pointer (some ⟨b.s, 0, none⟩)] W4 fun e w' => e = .returned (.int .i64 0) ∧ StoreAt w' b (skeep s1) ∧ Only [b.j, b.d, b.l, b.m, b.g, b.t] W4 w') := Lib.hid (by
            have := skeep_any HT4.out.st1 (by rw [HON2.out.sd.2.1]; omega) (by rw [HON2.out.sd.2.1]; omega)
            rw [e3] at this
            exact this)
          clear e3 hON3
          go_wp2_with fail
          refine HKP.out.mono ?_
          rintro e W5 ⟨rfl, hS5, hO5⟩
          have HT5 := Lib.hid (HT4.out.by1 hS5 hO5 (by simp [Blk.all]))
          clear HKP hS5 hO5 HT4
          go_wp2_with fail
          go_roundw
          case rel => exact ⟨k + 1, _, _, _, by omega, by go_num, HON3.out, HT5.out⟩
          case measure => simp [intOf]; omega
        · have hc1 : ((k : Int) % 3 == y % 3) = false := by simpa using hcut
          go_wp2_with fail
          go_roundw
          case rel => exact ⟨k + 1, _, _, _, by omega, by go_num, HON2.out, HT4.out⟩
          case measure => simp [intOf]; omega
      · have hk2' : ¬ (k : Int) < (n2 : Int) := by omega
        have HP2 := Lib.hid (pageAt_zeros wr 35)
        have HT2 := Lib.hid (HT1.out.byBelow ((Below.refl _ _).alloc (Nat.le_refl _) (.cells zeroCells 35)))
        have HPL : Hid (zeros.length = 64) := Lib.hid zeros_length
        rw [zeroCells_def] at HP2 HT2
        go_wp2_with (with_reducible refine wpList_load_page HP2.out rfl (.tmp 17) rfl rfl ?_)
        rw [← zeroCells_def] at HP2 HT2 ⊢
        generalize wr.alloc (.cells zeroCells 35) = W2 at HP2 HT2 ⊢
        generalize zeros = p at HP2 HPL ⊢
        obtain ⟨e1, e2, hON2⟩ := HPUT.out p HPL.out
        have HON2 := Lib.hid hON2
        have HW : Hid (Calls Try.prog 11 #[.pointer (some ⟨b.s, 0, none⟩), .int .i64 (j : Int), pageV p] W2 fun e w' => e = .returned (.int .i64 0) ∧ StoreAt w' b (sput s (j : Int) p) ∧ Only [b.t] W2 w') := Lib.hid (by
          have := sput_any HT2.out.st1 (j : Int) p HPL.out
          rw [e1] at this
          exact this)
        have HW2 : Hid (∀ W s', Two w b c s' v W → Calls Try.prog 11 #[.pointer (some ⟨c.s, 0, none⟩), .int .i64 (j : Int), pageV p] W fun e w' => e = .returned (.int .i64 0) ∧ StoreAt w' c (sput v (j : Int) p) ∧ Only [c.t] W w') := Lib.hid (fun W s' hW => by
          have := sput_any hW.st2 (j : Int) p HPL.out
          rw [e2] at this
          exact this)
        clear e1 e2 hON2 HPUT
        generalize sput s (j : Int) p = s1 at HW HON2
        generalize sput v (j : Int) p = v1 at HW2 HON2
        refine HW.out.mono ?_
        rintro e W3 ⟨rfl, hS3, hO3⟩
        have HT3 := Lib.hid (HT2.out.by1 hS3 hO3 (by simp [Blk.all]))
        have HP3 := Lib.hid (HP2.out.only hO3 (HBN.out _ (by simp [Blk.all])))
        clear HW hS3 hO3 HT2 HP2
        go_wp2_with (with_reducible refine wpList_load_guarded HP3.out (.tmp 17) rfl rfl (by kernel_rfl) ?_)
        refine (HW2.out _ _ HT3.out).mono ?_
        rintro e W4 ⟨rfl, hS4, hO4⟩
        have HT4 := Lib.hid (HT3.out.by2 hS4 hO4 (by simp [Blk.all]))
        clear HW2 hS4 hO4 HT3 HP3
        by_cases hcut : (k : Int) % 3 = y % 3
        · have hc1 : ((k : Int) % 3 == y % 3) = true := by simpa using hcut
          obtain ⟨e3, hON3, _⟩ := on_keep HON2.out (by omega)
          have HON3 := Lib.hid hON3
          have HKP : Hid (Calls Try.prog 13 #[.pointer (some ⟨b.s, 0, none⟩)] W4 fun e w' => e = .returned (.int .i64 0) ∧ StoreAt w' b (skeep s1) ∧ Only [b.j, b.d, b.l, b.m, b.g, b.t] W4 w') := Lib.hid (by
            have := skeep_any HT4.out.st1 (by rw [HON2.out.sd.2.1]; omega) (by rw [HON2.out.sd.2.1]; omega)
            rw [e3] at this
            exact this)
          clear e3 hON3
          go_wp2_with fail
          refine HKP.out.mono ?_
          rintro e W5 ⟨rfl, hS5, hO5⟩
          have HT5 := Lib.hid (HT4.out.by1 hS5 hO5 (by simp [Blk.all]))
          clear HKP hS5 hO5 HT4
          go_wp2_with fail
          go_roundw
          case rel => exact ⟨k + 1, _, _, _, by omega, by go_num, HON3.out, HT5.out⟩
          case measure => simp [intOf]; omega
        · have hc1 : ((k : Int) % 3 == y % 3) = false := by simpa using hcut
          go_wp2_with fail
          go_roundw
          case rel => exact ⟨k + 1, _, _, _, by omega, by go_num, HON2.out, HT4.out⟩
          case measure => simp [intOf]; omega
    · obtain rfl : k = n := by omega
      obtain ⟨e1, hON2, hg⟩ := on_keep HON1.out (by omega)
      obtain ⟨e2, hvs, hvg, hvst, hvd, hvq, hva, hvz⟩ := on_vkeep hON2 (by omega)
      obtain ⟨y1, _, y3, y4, y5, y6⟩ := on_sync hON2.ss hON2.sd.1 hON2.sd.2.1 hON2.f1
      obtain ⟨z1, _, z3, z4, z5, z6⟩ := on_sync hvs hvd hvq hON2.f2
      rw [hON2.sd.2.2.1, hON2.sd.2.2.2.1, hg] at y5
      rw [hva, hvz, hvg] at z5
      have HLA := Lib.hid (fun (i : Nat) (hi : i < 20) => once_same hON2.f1 hON2.f2 y5 z5 y6 z6 hi)
      have HK1 : Hid (Calls Try.prog 13 #[.pointer (some ⟨b.s, 0, none⟩)] wr fun e w' => e = .returned (.int .i64 0) ∧ StoreAt w' b (skeep s) ∧ Only [b.j, b.d, b.l, b.m, b.g, b.t] wr w') := Lib.hid (by
        have := skeep_any HT1.out.st1 (by rw [HON1.out.sd.2.1]; omega) (by rw [HON1.out.sd.2.1]; omega)
        rw [e1] at this
        exact this)
      have HK2 : Hid (∀ W, Two w b c (skeep s) v W → Calls Try.prog 13 #[.pointer (some ⟨c.s, 0, none⟩)] W fun e w' => e = .returned (.int .i64 0) ∧ StoreAt w' c (skeep v) ∧ Only [c.j, c.d, c.l, c.m, c.g, c.t] W w') := Lib.hid (fun W hW => by
        have := skeep_any hW.st2 (by rw [HON1.out.vd.2.1]; omega) (by rw [HON1.out.vd.2.1]; omega)
        rw [e2] at this
        exact this)
      have HG1 : Hid (∀ W, Two w b c (skeep s) (skeep v) W → Calls Try.prog 19 #[.pointer (some ⟨b.s, 0, none⟩)] W fun e w' => e = .returned (.int .i64 (cntO M : Int)) ∧ W = w') := Lib.hid (fun W hW => by
        have := sgroup_any hW.st1
        rw [hg] at this
        exact this)
      have HG2 : Hid (∀ W, Two w b c (skeep s) (skeep v) W → Calls Try.prog 19 #[.pointer (some ⟨c.s, 0, none⟩)] W fun e w' => e = .returned (.int .i64 (cntO M : Int)) ∧ W = w') := Lib.hid (fun W hW => by
        have := sgroup_any hW.st2
        rw [hvg] at this
        exact this)
      have HY1 : Hid (∀ W, Two w b c (skeep s) (skeep v) W → Calls Try.prog 15 #[.pointer (some ⟨b.s, 0, none⟩)] W fun e w' => e = .returned (.int .i64 0) ∧ StoreAt w' b (ssync (skeep s)) ∧ Only [b.j, b.d, b.l, b.m, b.g] W w') := Lib.hid (fun W hW => by
        have := ssync_any hW.st1 (by rw [hON2.sd.2.1]; omega) (by rw [hON2.sd.2.1]; omega)
        rw [y1] at this
        exact this)
      have HY2 : Hid (∀ W, Two w b c (ssync (skeep s)) (skeep v) W → Calls Try.prog 15 #[.pointer (some ⟨c.s, 0, none⟩)] W fun e w' => e = .returned (.int .i64 0) ∧ StoreAt w' c (ssync (skeep v)) ∧ Only [c.j, c.d, c.l, c.m, c.g] W w') := Lib.hid (fun W hW => by
        have := ssync_any hW.st2 (by rw [hvq]; omega) (by rw [hvq]; omega)
        rw [z1] at this
        exact this)
      have HE1 : Hid (∀ W, Two w b c (ssync (skeep s)) (ssync (skeep v)) W → Calls Try.prog 19 #[.pointer (some ⟨b.s, 0, none⟩)] W fun e w' => e = .returned (.int .i64 0) ∧ W = w') := Lib.hid (fun W hW => by
        have := sgroup_any hW.st1
        rw [y3] at this
        exact this)
      have HE2 : Hid (∀ W, Two w b c (ssync (skeep s)) (ssync (skeep v)) W → Calls Try.prog 18 #[.pointer (some ⟨c.s, 0, none⟩)] W fun e w' => e = .returned (.int .i64 0) ∧ W = w') := Lib.hid (fun W hW => by
        have := sstep_any hW.st2
        rw [z4, hvst] at this
        exact this)
      clear e1 e2 hON2 hg hvs hvg hvst hvd hvq hva hvz y1 y3 y4 y5 y6 z1 z3 z4 z5 z6 HON1
      generalize ssync (skeep s) = s3 at *
      generalize ssync (skeep v) = v3 at *
      generalize skeep s = s2 at *
      generalize skeep v = v2 at *
      generalize cntO M = G at *
      go_wp2_with fail
      refine HK1.out.mono ?_
      rintro e w6 ⟨rfl, hS6, hO6⟩
      have HT6 := Lib.hid (HT1.out.by1 hS6 hO6 (by simp [Blk.all]))
      clear HK1 hS6 hO6 HT1
      go_wp2_with fail
      refine (HK2.out _ HT6.out).mono ?_
      rintro e w7 ⟨rfl, hS7, hO7⟩
      have HT7 := Lib.hid (HT6.out.by2 hS7 hO7 (by simp [Blk.all]))
      clear HK2 hS7 hO7 HT6
      go_wp2_with fail
      refine (HG1.out _ HT7.out).mono ?_
      rintro e w' ⟨rfl, rfl⟩
      go_wp2_with fail
      refine (HG2.out _ HT7.out).mono ?_
      rintro e w' ⟨rfl, rfl⟩
      go_wp2_with fail
      refine (HY1.out _ HT7.out).mono ?_
      rintro e w8 ⟨rfl, hS8, hO8⟩
      have HT8 := Lib.hid (HT7.out.by1 hS8 hO8 (by simp [Blk.all]))
      clear HG1 HG2 HY1 hS8 hO8 HT7
      go_wp2_with fail
      refine (HY2.out _ HT8.out).mono ?_
      rintro e w9 ⟨rfl, hS9, hO9⟩
      have HT9 := Lib.hid (HT8.out.by2 hS9 hO9 (by simp [Blk.all]))
      clear HY2 hS9 hO9 HT8
      go_wp2_with fail
      go_loopw [18] (fun i wr => ∃ k : Nat, k ≤ 20 ∧ i = .int .i64 k ∧ Two w b c s3 v3 wr) (fun i _ => 20 - (intOf i).toNat)
      case atStart => exact ⟨0, by omega, rfl, HT9.out⟩
      case round =>
        obtain ⟨i, hi, rfl, htw⟩ := hrel
        have HTA := Lib.hid htw
        clear htw HT9
        by_cases hlt2 : i < 20
        · have hi20 : (i : Int) < 20 := by omega
          obtain ⟨P, hP⟩ : ∃ P, Dk.lastsP s3.dk (i : Int) = P := ⟨_, rfl⟩
          have hP2 : Dk.lastsP v3.dk (i : Int) = P := (HLA.out i hlt2).symm.trans hP
          have HPL : Hid (P.length = 64) := Lib.hid (hP ▸ Dk.lastsP_len HTA.out.st1.disk.ok (i : Int))
          have HL1 : Hid (Calls Try.prog 22 #[.pointer (some ⟨b.d, 0, none⟩), .int .i64 (i : Int)] wr fun e w' => e = .returned (pageV P) ∧ Below wr.heap.size wr w') := Lib.hid (by
            have := lasts_any HTA.out.st1.disk (i : Int)
            rw [hP] at this
            exact this)
          have HL2 : Hid (∀ W, Two w b c s3 v3 W → Calls Try.prog 22 #[.pointer (some ⟨c.d, 0, none⟩), .int .i64 (i : Int)] W fun e w' => e = .returned (pageV P) ∧ Below W.heap.size W w') := Lib.hid (fun W hW => by
            have := lasts_any hW.st2.disk (i : Int)
            rw [hP2] at this
            exact this)
          clear hP hP2
          have HN1 := fun (x y : Operand) (w : World) => run_neGuard_page w x y P P
          have HN2 := fun (w : World) => run_neq_same w P HPL.out
          go_wp2_with fail
          refine HL1.out.mono ?_
          rintro e wa ⟨rfl, hba⟩
          have HTB := Lib.hid (HTA.out.byBelow hba)
          clear HL1 HTA hba
          go_wp2_with fail
          refine (HL2.out _ HTB.out).mono ?_
          rintro e wb ⟨rfl, hbb⟩
          have HTC := Lib.hid (HTB.out.byBelow hbb)
          clear HL2 HTB hbb
          go_wp2_with fail
          go_roundw
          case rel => exact ⟨i + 1, by omega, by go_num, HTC.out⟩
          case measure => simp [intOf]; omega
        · have hi20 : ¬ (i : Int) < 20 := by omega
          go_wp2_with fail
          refine (HE1.out _ HTA.out).mono ?_
          rintro e w' ⟨rfl, rfl⟩
          go_wp2_with fail
          refine (HE2.out _ HTA.out).mono ?_
          rintro e w' ⟨rfl, rfl⟩
          go_wp2_with fail
          go_ret
          exact ⟨rfl, HTA.out.bel⟩
theorem walk (A : Option Addr) (n ca : Nat) (bs : List UInt8) (A2 : Option Addr) (n2 c2 : Nat) (ps : List (List UInt8)) (y : Int) (w : World) (hrow : ByteRow w A n ca bs) (hrow2 : PageRow w A2 n2 ps) (hy0 : 0 ≤ y) (hy1 : y ≤ 255) :
    Calls Try.prog 5 #[.slice A n ca, .slice A2 n2 c2, .int .u8 y] w fun e w' => e = .returned (.bool true) ∧ Below w.heap.size w w' := by
  by_cases h : 14 < n
  · exact walk_long A n ca _ _ w hrow.small h
  · exact walk_main A n ca bs A2 n2 c2 ps y w (by omega) hrow hrow2 hy0 hy1

set_option maxRecDepth 100000 in
theorem lifted (os : Os) (started : os.Started) (H : Type) (enc : TypeId × Value → H) :
    ReturnsInHanded {} Try.checked os 5 .any (Rows.storeOnceSpec.pre6 enc Try.prog Try.f5 Rows.storeOnceRow.domain false) (Rows.storeOnceSpec.post enc Try.prog Try.f5 false true false false) := by
  refine returnsInHanded_of_change (C := Try.checked) own started (by kernel_rfl) Try.func5
    (ChangeSpec.witness6 (enc := enc) (C := Try.checked) false ⟨#[], #[.slice none 0 0, .slice none 0 0, .int .u8 0], []⟩ 8 (by kernel_rfl) (by kernel_rfl) (by kernel_rfl) (by kernel_rfl)) ?_
  intro W base args ds gs before hval0 hW hcnd _
  have hval : ∀ (j : Nat) t v, Try.f5.params[j]? = some t → args[j]? = some v → Value.okWide Try.prog W .any base t v := hval0
  have hW' := hW
  obtain ⟨p, q, hA0, hV, rfl, hfz, hnd⟩ := hW
  have hA : DataW.TrodAll enc Try.prog W 0 (fun _ => true) true Try.f5.params.toList args.toList ds p := hA0
  rw [Try.params5] at hA hval
  obtain ⟨v0, vs0, d0, ds0, p0, q0, hargs, rfl, rfl, h0, r0⟩ := trodAll_cons hA
  obtain ⟨v1, vs1, d1, ds1, p1, q1, rfl, rfl, rfl, h1, r1⟩ := trodAll_cons r0
  obtain ⟨v2, vs2, d2, ds2, p2, q2, rfl, rfl, rfl, h2, r2⟩ := trodAll_cons r1
  obtain ⟨rfl, rfl, rfl⟩ := trodAll_nil r2
  obtain rfl : args = #[v0, v1, v2] := by cases args; simp_all
  obtain ⟨rfl, rfl⟩ := trodVars_none hV
  have k0 := h0
  have lt0 : ∀ x ∈ p0, x.block < W.heap.size := by obtain ⟨m, hm⟩ := k0; exact DataW.trod_lt m _ _ _ hm
  have k1 := h1
  have lt1 : ∀ x ∈ p1, x.block < W.heap.size := by obtain ⟨m, hm⟩ := k1; exact DataW.trod_lt m _ _ _ hm
  obtain ⟨A0, n0, c0, bs0, rfl, w0⟩ := open_bytes (hval 0 23 v0 rfl rfl) h0
  obtain ⟨A1, m1, c1, ps1, rfl, w1⟩ := open_pages (hval 1 50 v1 rfl rfl) h1
  have k2 := h2
  have lt2 : ∀ x ∈ p2, x.block < W.heap.size := by obtain ⟨m, hm⟩ := k2; exact DataW.trod_lt m _ _ _ hm
  obtain ⟨x2, rfl, ed2, ep2, w2⟩ := open_int Try.underlying5 (hval 2 5 v2 rfl rfl) h2
  clear hA0 hval0
  refine (walk A0 n0 c0 bs0 A1 m1 c1 ps1 x2 W w0 w1 (bounds_u8 w2).1 (bounds_u8 w2).2).mono fun e W' ⟨he, bel⟩ => ?_
  subst he
  exact ⟨_, rfl, _, _, _, [], _, [], hW', trodAll_mk1 (shut_bool Try.underlying4 _), (trodAll_cons_mk (Below.trod laidOut (by kernel_rfl) (of_decide_eq_true (by kernel_rfl)) k0 bel lt0) (trodAll_cons_mk (Below.trod laidOut (by kernel_rfl) (of_decide_eq_true (by kernel_rfl)) k1 bel lt1) (trodAll_cons_mk (Below.trod laidOut (by kernel_rfl) (of_decide_eq_true (by kernel_rfl)) k2 bel lt2) trodAll_mk0))), rfl, bel.frame _, fun h => by cases h⟩

theorem over : Rows.storeOnceRow.holds Try.pinned (OpenSpec.ofChange Rows.storeOnceSpec) :=
  OpenClaim.holds_of_wide 5 Try.f5 rfl rfl rfl rfl rfl rfl rfl ⟨rfl, rfl, rfl, rfl, rfl⟩ rfl rfl rfl rfl rfl (by kernel_rfl) Try.func5 (by kernel_rfl)
    (of_decide_eq_true (by kernel_rfl)) (by unfold Func.isWrapper; first | (rw [if_pos (by decide +kernel)]; kernel_rfl) | (rw [if_neg (by decide +kernel)]; exact ⟨rfl, rfl⟩))
    (fun os started H enc _ => lifted os started H enc)

/-- THE STATEMENT -/
theorem proved : Rows.StoreOnceSaid := over
#print axioms proved
end Go.Proofs.Yteedglcbodpcdaa.storeOnce
