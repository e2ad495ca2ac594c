/-
  StoreLasts: whatever the input, the law returns true, and each argument reads behind the call as it read before. No conditions.
-/
import Derived.Test.YteedglcbodpcdaaMse
namespace Go.Proofs.Yteedglcbodpcdaa.storeLasts
open Go.ChangeShapes Go.WideShapes Go.ChangeAt Go.RowKit
open Dk (zeros zeros_length)
open Jn (Chg Cl Same upd)

theorem oprow_below {w w' : World} {A : Option Addr} {n : Nat} {os : List OpV} (h : OpRow w A n os) (hb : Below w.heap.size w w') : OpRow w' A n os where
  len := h.len
  small := h.small
  ok := fun o ho => ⟨(h.ok o ho).page, (h.ok o ho).lo, (h.ok o ho).hi, (h.ok o ho).keep.below hb⟩
  cells := fun h0 => by
    obtain ⟨b, off, rfl, hlt, hc⟩ := h.cells h0
    exact ⟨b, off, rfl, Nat.lt_of_lt_of_le hlt hb.size, fun i o hi j v hv => (hb.cell (p := ⟨b, off + i * 67 + j, none⟩) hlt).trans (hc i o hi j v hv)⟩
theorem anyQ {w : World} {b : Blk} {s : Sto} (h : StoreAt w b s) (ho : s.over = true) (q : Int) : StoreAt w b { s with q := q } := by
  obtain ⟨q', hj, _⟩ := h.ja
  exact ⟨h.row, ⟨q', hj, fun e => by have : s.over = false := e; rw [ho] at this; cases this⟩, h.disk, h.step, h.group, h.nd, ⟨h.ok.slen, h.ok.glen, h.ok.spg, h.ok.gpg, h.ok.scnt, h.ok.gcnt, h.ok.a9, h.ok.z9, h.ok.reg, h.ok.room, h.ok.r1, h.ok.r32, h.ok.rz⟩⟩
theorem ssync_all {w : World} {b : Blk} {s : Sto} (h : StoreAt w b s) (hq : s.over = true ∨ (0 ≤ s.q ∧ s.q < 4294967290)) : Calls Try.prog 15 #[.pointer (some ⟨b.s, 0, none⟩)] w fun e w' =>
    e = .returned (.int .i64 (ssyncE s)) ∧ StoreAt w' b (ssync s) ∧ Only [b.j, b.d, b.l, b.m, b.g] w w' := by
  rcases hq with ho | ⟨h1, h2⟩
  · have hc := ssync_any (anyQ h ho 0) (Int.le_refl 0) (show (0 : Int) < 4294967290 by omega)
    have e1 : ssyncE { s with q := 0 } = ssyncE s := by rw [(over_sync ho).1]; exact (over_sync (s := { s with q := 0 }) ho).1
    have e2 : ssync { s with q := 0 } = { s with q := 0 } := (over_sync (s := { s with q := 0 }) ho).2
    rw [e1, e2] at hc
    refine hc.mono ?_
    rintro e w' ⟨g1, g2, g3⟩
    refine ⟨g1, ?_, g3⟩
    rw [(over_sync ho).2]
    exact anyQ g2 ho s.q
  · exact ssync_any h h1 h2
theorem over_keep {s : Sto} (h : s.over = true) : skeepE s = 5 ∧ skeep s = s := by
  refine ⟨?_, ?_⟩
  · unfold skeepE; rw [if_pos h]
  · unfold skeep; rw [if_pos h]
theorem skeep_all {w : World} {b : Blk} {s : Sto} (h : StoreAt w b s) (hq : s.over = true ∨ (0 ≤ s.q ∧ s.q < 4294967290)) : Calls Try.prog 13 #[.pointer (some ⟨b.s, 0, none⟩)] w fun e w' =>
    e = .returned (.int .i64 (skeepE s)) ∧ StoreAt w' b (skeep s) ∧ Only [b.j, b.d, b.l, b.m, b.g, b.t] w w' := by
  rcases hq with ho | ⟨h1, h2⟩
  · have hc := skeep_any (anyQ h ho 0) (Int.le_refl 0) (show (0 : Int) < 4294967290 by omega)
    have e1 : skeepE { s with q := 0 } = skeepE s := by rw [(over_keep ho).1]; exact (over_keep (s := { s with q := 0 }) ho).1
    have e2 : skeep { s with q := 0 } = { s with q := 0 } := (over_keep (s := { s with q := 0 }) ho).2
    rw [e1, e2] at hc
    refine hc.mono ?_
    rintro e w' ⟨g1, g2, g3⟩
    refine ⟨g1, ?_, g3⟩
    rw [(over_keep ho).2]
    exact anyQ g2 ho s.q
  · exact skeep_any h h1 h2
theorem fuse_store {w w' : World} {b : Blk} {s : Dk.St} {q : Int} (h : StoreAt w b (sto0 s 20 16 14 q)) {k : Int} (hd : DiskAt w' b.d b.l b.m (Dk.fuse s k)) (ho : Only [b.d] w w') : StoreAt w' b (sto0 (Dk.fuse s k) 20 16 14 q) := by
  have ne := Blk.ne h.nd
  obtain ⟨q', hj, hq⟩ := h.ja
  have e : ∀ x, x ∈ b.all → x ≠ b.d → w'.heap[x]? = w.heap[x]? := fun x hx hn => ho.block x (h.lt x hx) (by simpa using hn)
  have m1 : b.s ∈ b.all ∧ b.j ∈ b.all ∧ b.t ∈ b.all ∧ b.g ∈ b.all := by simp [Blk.all]
  exact ⟨h.row.block (e _ m1.1 (by omega)), ⟨q', hj.block (e _ m1.2.1 (by omega)), hq⟩, hd, h.step.block (e _ m1.2.2.1 (by omega)), h.group.block (e _ m1.2.2.2 (by omega)), h.nd, ⟨h.ok.slen, h.ok.glen, h.ok.spg, h.ok.gpg, h.ok.scnt, h.ok.gcnt, h.ok.a9, h.ok.z9, h.ok.reg, h.ok.room, h.ok.r1, h.ok.r32, h.ok.rz⟩⟩
/-- the Open behind the crash -/
theorem last_open {m : Nat} {sts : List (List (List UInt8))} {sure : Nat} {s : Sto} (h : Ls m sts sure s) (hm : m ≤ 80) (keep : List UInt8) {W : World} {d l mm : Nat} (hd : DiskAt W d l mm (Dk.crash s.dk keep)) :
    ∃ (R : Dk.St) (k : Nat), sure ≤ k ∧ k < sts.length ∧ R.last.length = 40 ∧ Is (fun i => R.last.getD i []) (sts.getD k []) ∧ Calls Try.prog 9 #[.pointer (some ⟨d, 0, none⟩), .int .i64 20, .int .i64 16] W fun e w' =>
      (∃ x, e = .returned (.tuple #[.pointer (some ⟨x, 0, none⟩), .int .i64 0])) ∧ DiskAt w' d l mm R ∧ Only [d, l, mm] W w' := by
  obtain ⟨X, cs, B, c1, c2, c3, c4, c5, c6⟩ := ls_end h hm keep
  have hlen : (Dk.crash s.dk keep).last.length = 40 := by rw [Dk.crash_len]; exact h.dims.len
  obtain ⟨R, P, hc, hl, ht⟩ := good_open (r := 14) hd (Jn.crash_cl c4 keep) c5 c1 c2 (by omega) (by omega) (by omega) room16 (by omega) (by omega) c3 (by rw [hlen]; omega)
  rw [hlen] at hl
  rcases ht with ⟨t1, _, t3⟩ | ⟨_, t2, _⟩
  · obtain ⟨k, k1, k2, k3⟩ := c6 _ t3
    refine ⟨R.1, k, k1, k2, hl, k3, (sopen_any ⟨hd.dlt, hd.llt, hd.mlt⟩ (by rw [hl]; omega) (by omega) (by omega) room16 (by omega) (by omega) (by omega) hc).mono ?_⟩
    rintro e w' ⟨g1, g2, g3⟩
    rcases g3 with ⟨_, b, _, _, _, _, _, _, _, _, _, g4, _⟩ | ⟨g4, _⟩
    · exact ⟨⟨b.s, g4⟩, g1, g2⟩
    · exact absurd t1 g4
  · have : (Dk.crash s.dk keep).lim = false := rfl
    rw [this] at t2; cases t2

/-- behind the last Open -/
structure EndW (w : World) (d l m : Nat) (R : Dk.St) (g : Nat) (sts : List (List (List UInt8))) (W : World) : Prop where
  disk : DiskAt W d l m R
  cells : ∀ i x, sts[i]? = some x → W.rangeAt g (i * 1280) (byteVals x.flatten)
  lt : g < W.heap.size
  bel : Below w.heap.size w W
theorem EndW.byBelow {w : World} {d l m : Nat} {R : Dk.St} {g : Nat} {sts : List (List (List UInt8))} {W W' : World} (h : EndW w d l m R g sts W) (hb : Below W.heap.size W W') : EndW w d l m R g sts W' :=
  ⟨h.disk.below hb, fun i x hx => rangeAt_block (h.cells i x hx) (hb.block g h.lt), Nat.lt_of_lt_of_le h.lt hb.size, h.bel.trans (hb.mono h.bel.size)⟩
theorem is_lasts {R : Dk.St} (hl : R.last.length = 40) {i : Nat} (hi : i < 20) : Dk.lastsP R (i : Int) = R.last.getD i [] := by
  unfold Dk.lastsP
  rw [if_pos (by rw [hl]; exact Dk.has_mk (by omega)), Int.toNat_natCast]; rfl
set_option maxRecDepth 100000 in
set_option maxHeartbeats 1000000 in
theorem walk_great (A : Option Addr) (n ca : Nat) (os : List OpV) (x : Value) (A2 : Option Addr) (n2 c2 : Nat) (w : World) (hrow : OpRow w A n os) (hn2 : n2 ≤ maxLen) (h : greatB n os = true ∨ 600 < n2) :
    Calls Try.prog 3 #[.slice A n ca, x, .slice A2 n2 c2] w fun e w' => e = .returned (.bool true) ∧ Below w.heap.size w w' := by
  unfold maxLen at hn2
  have HG : Hid (∀ W, Below w.heap.size w W → Calls Try.prog 7 #[.slice A n ca] W fun e w' => e = .returned (.bool (greatB n os)) ∧ Below W.heap.size W w') := Lib.hid (fun W hb => great_any A n ca os W (oprow_below hrow hb))
  clear hrow
  generalize greatB n os = g at HG h
  go_enter Try.func3, Try.ntmps3
  go_wp2_with fail
  refine (awake_any _).mono ?_
  rintro e w1 ⟨rfl, hb1⟩
  have HB1 := Lib.hid hb1
  clear hb1
  go_wp2_with fail
  refine (HG.out _ HB1.out).mono ?_
  rintro e w2 ⟨rfl, hb2⟩
  have HB2 := Lib.hid (HB1.out.trans (hb2.mono HB1.out.size))
  clear hb2
  cases g with
  | true =>
    go_wp2_with fail
    go_ret
    exact ⟨rfl, HB2.out⟩
  | false =>
    have h6 : (600 : Int) < (n2 : Int) := by
      rcases h with h | h
      · cases h
      · omega
    clear h
    go_wp2_with fail
    go_ret
    exact ⟨rfl, HB2.out⟩

set_option maxRecDepth 100000 in
set_option maxHeartbeats 16000000 in
theorem walk_main (A : Option Addr) (n ca : Nat) (os : List OpV) (fz : Int) (A2 : Option Addr) (n2 c2 : Nat) (keep : List UInt8) (w : World) (hn : n ≤ 80) (hn2 : n2 ≤ 600) (hg : greatB n os = false) (hrow : OpRow w A n os) (hrow2 : ByteRow w A2 n2 c2 keep) (hf0 : -9223372036854775808 ≤ fz) (hf1 : fz ≤ 9223372036854775807) :
    Calls Try.prog 3 #[.slice A n ca, .int .i64 fz, .slice A2 n2 c2] w fun e w' => e = .returned (.bool true) ∧ Below w.heap.size w w' := by
  have HG : Hid (∀ W, Below w.heap.size w W → Calls Try.prog 7 #[.slice A n ca] W fun e w' => e = .returned (.bool false) ∧ Below W.heap.size W w') := Lib.hid (fun W hb => by
    have := great_any A n ca os W (oprow_below hrow hb)
    rw [hg] at this
    exact this)
  have HR := Lib.hid hrow
  have HR2 := Lib.hid hrow2
  clear hrow hrow2 hg
  have hn2' : ¬ ((600 : Int) < (n2 : Int)) := by omega
  go_enter Try.func3, Try.ntmps3
  go_wp2_with fail
  refine (awake_any _).mono ?_
  rintro e w1 ⟨rfl, hb1⟩
  have HB1 := Lib.hid hb1
  clear hb1
  go_wp2_with fail
  refine (HG.out _ HB1.out).mono ?_
  rintro e w2 ⟨rfl, hb2⟩
  have HB2 := Lib.hid (HB1.out.trans (hb2.mono HB1.out.size))
  clear hb2 HG HB1
  have HNW : Hid (Calls Try.prog 8 #[.int .i64 40] w2 fun e w' => e = .returned (.tuple #[.pointer (some ⟨w2.heap.size + 2, 0, none⟩), .int .i64 0]) ∧ w' = newWorld w2 40) := Lib.hid (new_any 40 w2 (by omega) (by omega))
  obtain ⟨S0, hS0, hO⟩ := slive_first (w := w2) (n := 40) (a := 20) (z := 16) (r := 14) (by omega) (by omega) room16 (by omega) (by omega) (by omega) (by omega)
  have HO : Hid (Calls Try.prog 9 #[.pointer (some ⟨w2.heap.size + 2, 0, none⟩), .int .i64 20, .int .i64 16] (newWorld w2 40) fun e w' => ∃ b : Blk, b.d = w2.heap.size + 2 ∧ e = .returned (.tuple #[.pointer (some ⟨b.s, 0, none⟩), .int .i64 0]) ∧ SLive w2 b (sto0 S0 20 16 14 1) w') := Lib.hid hO
  have HLS := Lib.hid (ls_start hS0 fz hf0 hf1)
  clear hO hS0
  generalize hdd : w2.heap.size + 2 = dd at HNW HO
  clear hdd
  go_wp2_with fail
  refine HNW.out.mono ?_
  rintro e w3 ⟨rfl, rfl⟩
  clear HNW
  generalize newWorld w2 40 = w3 at HO ⊢
  go_wp2_with fail
  refine HO.out.mono ?_
  rintro e w4 ⟨b, rfl, rfl, hL⟩
  have HL4 : Hid (SLive w b (sto0 S0 20 16 14 1) w4) := Lib.hid ⟨hL.st, HB2.out.trans (hL.bel.mono HB2.out.size), fun k hk => Nat.le_trans HB2.out.size (hL.old k hk)⟩
  clear HO hL HB2
  go_wp2_with fail
  refine (fuse_any HL4.out.st.disk fz hf0 hf1).mono ?_
  rintro e w5 ⟨rfl, hd5, ho5, hz5⟩
  have HL5 := Lib.hid (HL4.out.byOnly (fuse_store HL4.out.st hd5 ho5) ho5 (by simp [Blk.all]))
  clear hd5 ho5 hz5 HL4
  generalize sto0 (Dk.fuse S0 fz) 20 16 14 1 = s0 at HLS HL5
  have HZL : Hid ((List.replicate 20 zeros).length = 20) := Lib.hid (by simp)
  have HZS : Hid (∀ p ∈ List.replicate 20 zeros, p.length = 64) := Lib.hid (fun p hp => by rw [List.eq_of_mem_replicate hp]; exact zeros_length)
  obtain ⟨Z0, hZ0⟩ : ∃ Z, List.replicate 20 zeros = Z := ⟨_, rfl⟩
  have HZ0 := Lib.hid hZ0
  rw [hZ0] at HZL HZS HLS
  clear hZ0
  go_wp2_with (first
    | ((with_reducible refine wpList_buildRows1 Z0 HZL.out HZS.out (.tmp 44) rfl ?_ ?_ ?_); (exact rfl); (rw [← HZ0.out]; exact rfl)))
  have HW5 : Hid (LsW w b s0 (.slice (some ⟨w5.heap.size, 0, none⟩) 1 1) [Z0] (w5.alloc (.cells (byteVals Z0.flatten).toArray 36))) := Lib.hid ⟨HL5.out.st.alloc _, sts_one w5 w.heap.size _ HZL.out HZS.out HL5.out.bel.size, HL5.out.bel.alloc HL5.out.bel.size _, HL5.out.old, fun k hk q => by
    have := HL5.out.st.lt k hk
    simp [Value.ownBlock] at q
    omega⟩
  generalize w5.alloc (.cells (byteVals Z0.flatten).toArray 36) = w6 at HW5 ⊢
  have HS1 : Hid ([Z0].length = 1) := Lib.hid rfl
  generalize [Z0] = sts0 at HW5 HLS HS1
  generalize w5.heap.size = g0 at HW5 ⊢
  clear HL5 HZL HZS
  go_loopw [11, 12, 48] (fun v sr i wr => ∃ (k : Nat) (sts : List (List (List UInt8))) (sure : Nat) (s : Sto) (A' : Option Addr) (c' : Nat), k ≤ n ∧ i = .int .i64 k ∧ sr = .int .i64 sure ∧ v = .slice A' sts.length c' ∧ Hid (Ls k sts sure s) ∧ LsW w b s (.slice A' sts.length c') sts wr) (fun _ _ i _ => n - (intOf i).toNat)
  case atStart => exact ⟨0, sts0, 0, s0, _, _, Nat.zero_le _, rfl, rfl, by rw [HS1.out], HLS, by rw [HS1.out]; exact HW5.out⟩
  case round =>
    obtain ⟨k, sts, sure, s, A', c', hk, rfl, rfl, rfl, HLs, hw⟩ := hrel
    rename World => wo
    have HW := Lib.hid hw
    clear hw HW5 HLS
    have hlen : sts.length ≤ 81 := by have := HLs.out.few; omega
    have hsure : sure < sts.length := HLs.out.lt
    have HQQ := Lib.hid (HLs.out.q (by omega))
    obtain ⟨N, hN⟩ : ∃ N, sts.length = N := ⟨_, rfl⟩
    have HN := Lib.hid hN
    rw [hN] at hlen hsure HW ⊢
    clear hN
    by_cases hlt : k < n
    · obtain ⟨ob, oo, rfl, hob, hoc⟩ := HR.out.cells (by omega)
      obtain ⟨o, ho⟩ : ∃ o, os[k]? = some o := ⟨_, List.getElem?_eq_getElem (by rw [HR.out.len]; exact hlt)⟩
      have HOK := Lib.hid (HR.out.ok o (List.mem_of_getElem? ho))
      have HPG := Lib.hid HOK.out.page
      have HRG : Hid (wo.rangeAt ob (oo + k * 67) (opVals o)) := Lib.hid (fun j v hv => (HW.out.bel.cell (p := ⟨ob, oo + k * 67 + j, none⟩) hob).trans (hoc k o ho j v hv))
      have HOL := Lib.hid (opVals_length HOK.out)
      have hlt' : (k : Int) < (n : Int) := by omega
      have hz39 := zeroOp
      clear hob hoc ho
      by_cases K0 : o.K = 0
      · have z0 : (o.K == 0) = true := by simpa using K0
        clear K0
        go_wp2_with (first
          | (with_reducible refine wpList_load_op HOL.out HRG.out rfl (.tmp 50) rfl rfl ?_)
          | ((with_reducible refine wpList_store_op HPG.out rfl (.tmp 14) (.tmp 51) rfl rfl ?_ opZero_size ?_); (exact rfl); intro W2 hV hB2 hz2; have HV := Lib.hid hV; have HL2 := Lib.hid (HW.out.byBelow hB2); have v0 := hV.k; have v1 := hV.n; clear hV hB2 hz2)
          | (with_reducible refine wpList_load_opPage HV.out HPG.out rfl (.tmp 59) rfl rfl ?_)
          | (go_at_call 11; refine (sput_any HL2.out.st o.N o.page HPG.out).mono ?_; rintro e w3 ⟨rfl, hs3, ho3⟩; have HL3 := Lib.hid (HL2.out.byOnly hs3 ho3 (by simp [Blk.all])); clear hs3 ho3))
        go_roundw
        case rel => exact ⟨k + 1, sts, sure, _, _, _, by omega, by go_num, rfl, by rw [HN.out], Lib.hid (ls_put HLs.out o.N HPG.out), by rw [HN.out]; exact HL3.out⟩
        case measure => simp [intOf]; omega
      · have z0 : (o.K == 0) = false := by simpa using K0
        clear K0
        by_cases K2 : o.K = 2
        · have z2 : (o.K == 2) = true := by simpa using K2
          clear K2
          have hzr := rows_zero
          go_wp2_with (first
          | (with_reducible refine wpList_load_op HOL.out HRG.out rfl (.tmp 50) rfl rfl ?_)
          | ((with_reducible refine wpList_store_op HPG.out rfl (.tmp 14) (.tmp 51) rfl rfl ?_ opZero_size ?_); (exact rfl); intro W2 hV hB2 hz2; have HV := Lib.hid hV; have HL2 := Lib.hid (HW.out.byBelow hB2); have v0 := hV.k; have v1 := hV.n; clear hV hB2 hz2))
          have HNW0 := Lib.hid (now_start HL2.out 36)
          generalize W2.heap.size = B at HNW0 ⊢
          generalize W2.alloc (.cells (zeroRow 20) 36) = W3 at HNW0 ⊢
          clear HL2 HV v0 v1 hzr
          go_loopw [64] (fun i wr => ∃ j : Nat, j ≤ 20 ∧ i = .int .i64 j ∧ NowW w b s (.slice A' N c') sts B j wr) (fun i _ => 20 - (intOf i).toNat)
          case atStart => exact ⟨0, by omega, rfl, HNW0.out⟩
          case round =>
            obtain ⟨j, hj, rfl, hnw⟩ := hrel
            rename World => wi
            have HNW1 := Lib.hid hnw
            clear hnw HNW0
            by_cases hj20 : j < 20
            · have hj20' : (j : Int) < 20 := by omega
              have HPL : Hid ((sreadP s (j : Int)).length = 64) := Lib.hid (sread_len HNW1.out.ls.st.ok HNW1.out.ls.st.disk.ok _)
              have HRD := Lib.hid (sread_any HNW1.out.ls.st (j : Int))
              have HPUT := Lib.hid (fun (W : World) (hW : NowW w b s (.slice A' N c') sts B j W) => hW.put hj20 HPL.out)
              generalize sreadP s (j : Int) = p at HPL HRD HPUT
              generalize sreadE s (j : Int) = E at HRD
              go_wp2_with fail
              refine HRD.out.mono ?_
              rintro e w4 ⟨rfl, hb4⟩
              have HNW2 := Lib.hid (HNW1.out.byBelow hb4)
              clear hb4 HNW1 HRD
              go_wp2_with (with_reducible refine wpList_store_row HNW2.out.rows j (by rw [rdK_length _ _ (by omega)]; exact hj20) HPL.out rfl (.tmp 74) (.tmp 72) rfl rfl rfl ?_)
              go_roundw
              case rel => exact ⟨j + 1, by omega, by go_num, HPUT.out _ HNW2.out⟩
              case measure => simp [intOf]; omega
            · obtain rfl : j = 20 := by omega
              have HKP := Lib.hid (skeep_all HNW1.out.ls.st HQQ.out)
              have HXX := Lib.hid (nowL_ok HNW1.out.ls.st.ok HNW1.out.ls.st.disk.ok)
              rcases ls_keep HLs.out (by omega) with ⟨e1, hL⟩ | ⟨e1, hL⟩
              · rw [e1] at HKP
                have HLL := Lib.hid hL
                clear e1 hL
                obtain ⟨X, hX⟩ : ∃ X, nowL s = X := ⟨_, rfl⟩
                have HXE := Lib.hid hX
                rw [hX] at HXX HLL
                clear hX
                go_wp2_with fail
                refine HKP.out.mono ?_
                rintro e w5 ⟨rfl, hs5, ho5⟩
                have hkk := HNW1.out.keep hs5 ho5 (by simp [Blk.all])
                have HL5 := Lib.hid hkk.1
                have HRW : Hid (RowsAt w5 B X) := Lib.hid (by rw [← HXE.out]; exact hkk.2)
                clear hkk hs5 ho5 HKP HNW1
                generalize skeep s = s5 at HL5 HLL
                obtain ⟨i0, hi0, hz0, hs0, hb0⟩ := info_parts info_rows
                have HI0 := Lib.hid hi0
                have HZ0 := Lib.hid hz0
                have HS0 := Lib.hid hs0
                have HB0 := Lib.hid hb0
                clear hi0 hz0 hs0 hb0
                have HAP := Lib.hid (show w5.ownsRow w.heap.size 36 1280 (.slice A' N c') N (stsV sts) from by have := HL5.out.sts; unfold StsAt at this; rw [HN.out] at this; exact this)
                go_wp2_with (first
                  | (with_reducible refine wpList_load_rows HRW.out HXX.out.1 rfl (.tmp 15) rfl rfl ?_)
                  | ((with_reducible refine wpList_buildRows1 X HXX.out.1 HXX.out.2 (.tmp 80) rfl ?_ ?_ ?_); (exact rfl); (exact rfl))
                  | (at_builtin; go_must (refine wpList_append_own_at _ rfl (.tmp 79) (.tmp 81) 37 rfl w.heap.size 36 i0 _ 1280 1280 Try.underlying37 HI0.out HZ0.out HS0.out HB0.out zeroRow20 (by omega) _ N _ rfl (HAP.out.alloc _) ⟨w5.heap.size, 0, none⟩ 1 1 (byteVals X.flatten) rfl (by rw [byteVals_length, flat_length X HXX.out.2, HXX.out.1]) (cell_new _ _ _) (byteVals_one _) (by unfold maxLen; omega) (by omega) (by have := HL5.out.bel.size; simp; omega) ?_); intro v' w9 hown' hgrow hnil hloc; obtain ⟨A9, c9, rfl⟩ := owns_slice hown'; have HNX := Lib.hid (HL5.out.grow (X := X) (by rw [HN.out]; exact hown') hgrow hloc); clear hown' hgrow hnil hloc))
                go_roundw
                case rel => exact ⟨k + 1, sts ++ [X], sure, s5, _, _, by omega, by go_num, rfl, by rw [List.length_append, HN.out]; rfl, HLL, by rw [List.length_append, HN.out]; exact HNX.out⟩
                case measure => simp [intOf]; omega
              · rw [e1] at HKP
                have HLL := Lib.hid hL
                clear e1 hL
                go_wp2_with fail
                refine HKP.out.mono ?_
                rintro e w5 ⟨rfl, hs5, ho5⟩
                have HL5 := Lib.hid (HNW1.out.keep hs5 ho5 (by simp [Blk.all])).1
                clear hs5 ho5 HKP HNW1
                go_wp2_with fail
                go_roundw
                case rel => exact ⟨k + 1, sts, sure, _, _, _, by omega, by go_num, rfl, by rw [HN.out], HLL, by rw [HN.out]; exact HL5.out⟩
                case measure => simp [intOf]; omega
        · have z2 : (o.K == 2) = false := by simpa using K2
          clear K2
          by_cases K3 : o.K = 3
          · have z3 : (o.K == 3) = true := by simpa using K3
            clear K3
            go_wp2_with (first
          | (with_reducible refine wpList_load_op HOL.out HRG.out rfl (.tmp 50) rfl rfl ?_)
          | ((with_reducible refine wpList_store_op HPG.out rfl (.tmp 14) (.tmp 51) rfl rfl ?_ opZero_size ?_); (exact rfl); intro W2 hV hB2 hz2; have HV := Lib.hid hV; have HL2 := Lib.hid (HW.out.byBelow hB2); have v0 := hV.k; have v1 := hV.n; clear hV hB2 hz2)
              | (go_at_call 14; refine (sdrop_any HL2.out.st).mono ?_; rintro e w3 ⟨rfl, hs3, ho3⟩; have HL3 := Lib.hid (HL2.out.byOnly hs3 ho3 (by simp [Blk.all])); clear hs3 ho3))
            go_roundw
            case rel => exact ⟨k + 1, sts, sure, _, _, _, by omega, by go_num, rfl, by rw [HN.out], Lib.hid (ls_drop HLs.out), by rw [HN.out]; exact HL3.out⟩
            case measure => simp [intOf]; omega
          · have z3 : (o.K == 3) = false := by simpa using K3
            clear K3
            by_cases K4 : o.K = 4
            · have z4 : (o.K == 4) = true := by simpa using K4
              clear K4
              rcases ls_sync HLs.out (by omega) with ⟨e1, hL⟩ | ⟨e1, hL⟩
              · have HSY := Lib.hid (fun (W : World) (hW : StoreAt W b s) => ssync_all hW HQQ.out)
                rw [e1] at HSY
                have HLL := Lib.hid hL
                rw [HN.out] at HLL
                clear e1 hL
                go_wp2_with (first
          | (with_reducible refine wpList_load_op HOL.out HRG.out rfl (.tmp 50) rfl rfl ?_)
          | ((with_reducible refine wpList_store_op HPG.out rfl (.tmp 14) (.tmp 51) rfl rfl ?_ opZero_size ?_); (exact rfl); intro W2 hV hB2 hz2; have HV := Lib.hid hV; have HL2 := Lib.hid (HW.out.byBelow hB2); have v0 := hV.k; have v1 := hV.n; clear hV hB2 hz2)
                  | (go_at_call 15; refine (HSY.out _ HL2.out.st).mono ?_; rintro e w3 ⟨rfl, hs3, ho3⟩; have HL3 := Lib.hid (HL2.out.byOnly hs3 ho3 (by simp [Blk.all])); clear hs3 ho3))
                go_roundw
                case rel => exact ⟨k + 1, sts, N - 1, _, _, _, by omega, by go_num, (by congr 1; omega), by rw [HN.out], HLL, by rw [HN.out]; exact HL3.out⟩
                case measure => simp [intOf]; omega
              · have HSY := Lib.hid (fun (W : World) (hW : StoreAt W b s) => ssync_all hW HQQ.out)
                rw [e1] at HSY
                have HLL := Lib.hid hL
                clear e1 hL
                go_wp2_with (first
          | (with_reducible refine wpList_load_op HOL.out HRG.out rfl (.tmp 50) rfl rfl ?_)
          | ((with_reducible refine wpList_store_op HPG.out rfl (.tmp 14) (.tmp 51) rfl rfl ?_ opZero_size ?_); (exact rfl); intro W2 hV hB2 hz2; have HV := Lib.hid hV; have HL2 := Lib.hid (HW.out.byBelow hB2); have v0 := hV.k; have v1 := hV.n; clear hV hB2 hz2)
                  | (go_at_call 15; refine (HSY.out _ HL2.out.st).mono ?_; rintro e w3 ⟨rfl, hs3, ho3⟩; have HL3 := Lib.hid (HL2.out.byOnly hs3 ho3 (by simp [Blk.all])); clear hs3 ho3))
                go_roundw
                case rel => exact ⟨k + 1, sts, sure, _, _, _, by omega, by go_num, rfl, by rw [HN.out], HLL, by rw [HN.out]; exact HL3.out⟩
                case measure => simp [intOf]; omega
            · have z4 : (o.K == 4) = false := by simpa using K4
              clear K4
              go_wp2_with (first
          | (with_reducible refine wpList_load_op HOL.out HRG.out rfl (.tmp 50) rfl rfl ?_)
          | ((with_reducible refine wpList_store_op HPG.out rfl (.tmp 14) (.tmp 51) rfl rfl ?_ opZero_size ?_); (exact rfl); intro W2 hV hB2 hz2; have HV := Lib.hid hV; have HL2 := Lib.hid (HW.out.byBelow hB2); have v0 := hV.k; have v1 := hV.n; clear hV hB2 hz2))
              go_roundw
              case rel => exact ⟨k + 1, sts, sure, s, _, _, by omega, by go_num, rfl, by rw [HN.out], Lib.hid (ls_none HLs.out), by rw [HN.out]; exact HL2.out⟩
              case measure => simp [intOf]; omega
    · obtain rfl : k = n := by omega
      have hkn : ¬ ((k : Int) < (k : Int)) := by omega
      have HKA := Lib.hid (HR2.out.keep (L := [b.d, b.l, b.m]) (by omega) HW.out.bel (fun q hq => HW.out.old q (by unfold Blk.all; simp at hq ⊢; omega)))
      have HCR := Lib.hid (crash_any HW.out.st.disk A2 c2 keep HKA.out)
      rw [HR2.out.len] at HCR
      have hst : StsAt wo w.heap.size (.slice A' N c') sts := HW.out.sts
      obtain ⟨_, hc1, hc2, g, rfl, hgb, hgl, hcells⟩ := hst.at HLs.out.lens (by rw [HN.out]; omega)
      have HFR : Hid (g ∉ [b.d, b.l, b.m]) := Lib.hid (fun q => HW.out.far g (by unfold Blk.all; simp at q ⊢; omega) rfl)
      have HCL := Lib.hid hcells
      have HGL := Lib.hid hgl
      have HGB := Lib.hid hgb
      have HLN := Lib.hid HLs.out.lens
      unfold maxLen at hc2
      clear hst hcells hgl hgb HKA
      go_wp2_with fail
      refine HCR.out.mono ?_
      rintro e w7 ⟨rfl, hd7, ho7⟩
      obtain ⟨R, k0, k1, k2, hRl, hIs, hop⟩ := last_open HLs.out (by omega) keep hd7
      have HOP := Lib.hid hop
      have HIS := Lib.hid hIs
      have HRL := Lib.hid hRl
      rw [HN.out] at k2
      have HO7 := Lib.hid ho7
      clear HCR hd7 ho7 hop hIs hRl
      go_wp2_with fail
      refine HOP.out.mono ?_
      rintro e w8 ⟨⟨xb, rfl⟩, hd8, ho8⟩
      have HE8 : Hid (EndW w b.d b.l b.m R g sts w8) := Lib.hid (by
        have hoo : Only [b.d, b.l, b.m] wo w8 := HO7.out.trans ho8
        exact ⟨hd8, fun i x hx => rangeAt_block (HCL.out i x hx) (hoo.block g HGL.out HFR.out), Nat.lt_of_lt_of_le HGL.out hoo.size, Only.toBelowOld HW.out.bel hoo HW.out.bel.size (fun q hq => HW.out.old q (by unfold Blk.all; simp at hq ⊢; omega))⟩)
      clear HOP hd8 ho8 HO7 HCL HFR HW HLs HGL HGB HQQ
      have hs1 : (sure : Int) ≤ (N : Int) := by omega
      have hs2 : (N : Int) ≤ (c' : Int) := by omega
      go_wp2_with fail
      go_loopw [110] (fun i wr => ∃ j : Nat, j ≤ k0 - sure ∧ i = .int .i64 j ∧ EndW w b.d b.l b.m R g sts wr) (fun i _ => sts.length - (intOf i).toNat)
      case atStart => exact ⟨0, Nat.zero_le _, rfl, HE8.out⟩
      case round =>
        obtain ⟨j, hj, rfl, hew⟩ := hrel
        rename World => we
        have HE := Lib.hid hew
        clear hew HE8
        have hjl : sure + j < sts.length := by omega
        obtain ⟨X, hX⟩ : ∃ X, sts[sure + j]? = some X := ⟨_, List.getElem?_eq_getElem hjl⟩
        have HXX := Lib.hid (HLN.out X (List.mem_of_getElem? hX))
        have HRG : Hid (we.rangeAt g (sure * 1280 + j * 1280) (byteVals X.flatten)) := Lib.hid (by
          have := HE.out.cells _ X hX
          rwa [show (sure + j) * 1280 = sure * 1280 + j * 1280 by omega] at this)
        have HINF : Hid ((Try.prog.info? 36).map (·.size) = some (byteVals X.flatten).length) := Lib.hid (by rw [rows_info, byteVals_length, flat_length X HXX.out.2, HXX.out.1])
        have hj' : (j : Int) < ((sts.length - sure : Nat) : Int) := by omega
        have HSM := Lib.hid (fun (W : World) (hW : EndW w b.d b.l b.m R g sts W) => same_any hW.disk X HXX.out.1 HXX.out.2)
        have HT : Hid (j = k0 - sure → ∀ i : Nat, i < 20 → Dk.lastsP R (i : Int) = X.getD i []) := Lib.hid (fun e i hi => by
          rw [is_lasts HRL.out hi]
          have h1 := HIS.out i hi
          have h2 : sts.getD k0 [] = X := by
            rw [show k0 = sure + j by omega, List.getD_eq_getElem?_getD, hX]; rfl
          rw [h2] at h1
          exact h1)
        have hzr := rows_zero
        clear hX
        go_wp2_with (first
          | ((with_reducible refine wpList_load_mid rfl 36 (.tmp 112) rfl g (sure * 1280 + j * 1280) rfl (byteVals X.flatten) _ HRG.out Try.underlying36 rfl HINF.out ?_); (rw [rowsV_def]))
          | ((with_reducible refine wpList_store_newrows HXX.out.2 HXX.out.1 rfl (.tmp 20) (.tmp 113) rfl rfl ?_ zeroRow20 ?_); (exact rfl); intro W2 hR2 hB2 hz2; have HR3 := Lib.hid hR2; have HE2 := Lib.hid (HE.out.byBelow hB2); clear hR2 hB2 hz2)
          | (with_reducible refine wpList_load_rows HR3.out HXX.out.1 rfl (.tmp 20) rfl rfl ?_))
        refine (HSM.out _ HE2.out).mono ?_
        rintro e w9 ⟨rfl, hb9⟩
        have HE3 := Lib.hid (HE2.out.byBelow hb9)
        clear hb9 HSM HE2 HR3
        generalize hD : decide (∀ i : Nat, i < 20 → Dk.lastsP R (i : Int) = X.getD i []) = D
        have HD := Lib.hid hD
        clear hD
        cases D with
        | true =>
          go_wp2_with fail
          go_ret
          exact ⟨rfl, HE3.out.bel⟩
        | false =>
          have hne : j ≠ k0 - sure := fun e => by
            have h1 := of_decide_eq_false HD.out
            exact h1 (HT.out e)
          go_wp2_with fail
          go_roundw
          case rel => exact ⟨j + 1, by omega, by go_num, HE3.out⟩
          case measure => simp [intOf]; omega
theorem walk (A : Option Addr) (n ca : Nat) (os : List OpV) (fz : Int) (A2 : Option Addr) (n2 c2 : Nat) (keep : List UInt8) (w : World) (hrow : OpRow w A n os) (hrow2 : ByteRow w A2 n2 c2 keep) (hf0 : -9223372036854775808 ≤ fz) (hf1 : fz ≤ 9223372036854775807) :
    Calls Try.prog 3 #[.slice A n ca, .int .i64 fz, .slice A2 n2 c2] w fun e w' => e = .returned (.bool true) ∧ Below w.heap.size w w' := by
  by_cases h : greatB n os = true ∨ 600 < n2
  · exact walk_great A n ca os _ A2 n2 c2 w hrow hrow2.small h
  · have h1 : greatB n os = false := by
      cases e : greatB n os with
      | false => rfl
      | true => exact absurd (Or.inl e) h
    have h2 : n ≤ 80 := by
      unfold greatB at h1
      rw [Bool.or_eq_false_iff] at h1
      have := of_decide_eq_false h1.1
      omega
    exact walk_main A n ca os fz A2 n2 c2 keep w h2 (by have : ¬ 600 < n2 := fun g => h (Or.inr g); omega) h1 hrow hrow2 hf0 hf1

set_option maxRecDepth 100000 in
theorem lifted (os : Os) (started : os.Started) (H : Type) (enc : TypeId × Value → H) :
    ReturnsInHanded {} Try.checked os 3 .any (Rows.storeLastsSpec.pre6 enc Try.prog Try.f3 Rows.storeLastsRow.domain false) (Rows.storeLastsSpec.post enc Try.prog Try.f3 false true false false) := by
  refine returnsInHanded_of_change (C := Try.checked) own started (by kernel_rfl) Try.func3
    (ChangeSpec.witness6 (enc := enc) (C := Try.checked) false ⟨#[], #[.slice none 0 0, .int .i64 0, .slice none 0 0], []⟩ 8 (by kernel_rfl) (by kernel_rfl) (by kernel_rfl) (by kernel_rfl)) ?_
  intro W base args ds gs before hval0 hW hcnd _
  have hval : ∀ (j : Nat) t v, Try.f3.params[j]? = some t → args[j]? = some v → Value.okWide Try.prog W .any base t v := hval0
  have hW' := hW
  obtain ⟨p, q, hA0, hV, rfl, hfz, hnd⟩ := hW
  have hA : DataW.TrodAll enc Try.prog W 0 (fun _ => true) true Try.f3.params.toList args.toList ds p := hA0
  rw [Try.params3] at hA hval
  obtain ⟨v0, vs0, d0, ds0, p0, q0, hargs, rfl, rfl, h0, r0⟩ := trodAll_cons hA
  obtain ⟨v1, vs1, d1, ds1, p1, q1, rfl, rfl, rfl, h1, r1⟩ := trodAll_cons r0
  obtain ⟨v2, vs2, d2, ds2, p2, q2, rfl, rfl, rfl, h2, r2⟩ := trodAll_cons r1
  obtain ⟨rfl, rfl, rfl⟩ := trodAll_nil r2
  obtain rfl : args = #[v0, v1, v2] := by cases args; simp_all
  obtain ⟨rfl, rfl⟩ := trodVars_none hV
  have k0 := h0
  have lt0 : ∀ x ∈ p0, x.block < W.heap.size := by obtain ⟨m, hm⟩ := k0; exact DataW.trod_lt m _ _ _ hm
  have k1 := h1
  have lt1 : ∀ x ∈ p1, x.block < W.heap.size := by obtain ⟨m, hm⟩ := k1; exact DataW.trod_lt m _ _ _ hm
  obtain ⟨A0, n0, c0, os0, rfl, w0⟩ := open_ops (hval 0 22 v0 rfl rfl) h0
  have k2 := h2
  have lt2 : ∀ x ∈ p2, x.block < W.heap.size := by obtain ⟨m, hm⟩ := k2; exact DataW.trod_lt m _ _ _ hm
  obtain ⟨x1, rfl, ed1, ep1, w1⟩ := open_int Try.underlying3 (hval 1 3 v1 rfl rfl) h1
  obtain ⟨A2, n2, c2, bs2, rfl, w2⟩ := open_bytes (hval 2 23 v2 rfl rfl) h2
  clear hA0 hval0
  refine (walk A0 n0 c0 os0 x1 A2 n2 c2 bs2 W w0 w2 (bounds_i64 w1).1 (bounds_i64 w1).2).mono fun e W' ⟨he, bel⟩ => ?_
  subst he
  exact ⟨_, rfl, _, _, _, [], _, [], hW', trodAll_mk1 (shut_bool Try.underlying4 _), (trodAll_cons_mk (Below.trod laidOut (by kernel_rfl) (of_decide_eq_true (by kernel_rfl)) k0 bel lt0) (trodAll_cons_mk (Below.trod laidOut (by kernel_rfl) (of_decide_eq_true (by kernel_rfl)) k1 bel lt1) (trodAll_cons_mk (Below.trod laidOut (by kernel_rfl) (of_decide_eq_true (by kernel_rfl)) k2 bel lt2) trodAll_mk0))), rfl, bel.frame _, fun h => by cases h⟩

theorem over : Rows.storeLastsRow.holds Try.pinned (OpenSpec.ofChange Rows.storeLastsSpec) :=
  OpenClaim.holds_of_wide 3 Try.f3 rfl rfl rfl rfl rfl rfl rfl ⟨rfl, rfl, rfl, rfl, rfl⟩ rfl rfl rfl rfl rfl (by kernel_rfl) Try.func3 (by kernel_rfl)
    (of_decide_eq_true (by kernel_rfl)) (by unfold Func.isWrapper; first | (rw [if_pos (by decide +kernel)]; kernel_rfl) | (rw [if_neg (by decide +kernel)]; exact ⟨rfl, rfl⟩))
    (fun os started H enc _ => lifted os started H enc)

/-- THE STATEMENT -/
theorem proved : Rows.StoreLastsSaid := over
#print axioms proved
end Go.Proofs.Yteedglcbodpcdaa.storeLasts
