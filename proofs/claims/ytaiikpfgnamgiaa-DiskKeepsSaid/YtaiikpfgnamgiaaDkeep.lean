/-
  DiskKeeps: the walk.
-/
import Derived.Test.YtaiikpfgnamgiaaDkeepm
import Derived.Deep.QuietTactic
import Derived.BigQuiet
namespace Go.Proofs.Ytaiikpfgnamgiaa.diskKeeps
open Go.ChangeShapes Go.WideShapes Go.ChangeAt Go.RowKit
open Dk (zeros zeros_length)

def LW (s : Dk.St) (k : Nat) : List (List UInt8) := upto 8 k (fun i => Dk.lastsP s (i : Int)) (fun _ => zeros)
def LN (s : Dk.St) (k : Nat) : List (List UInt8) := upto 8 k (fun i => Dk.readP s (i : Int)) (fun _ => zeros)
theorem L_zero (f : Nat → List UInt8) : upto 8 0 f (fun _ => zeros) = List.replicate 8 zeros := upto_zero 8 f _ _ (by simp) (fun i hi => by rw [List.getElem?_replicate, if_pos hi])
theorem LW_at {s : Dk.St} (_h : s.Ok) (h8 : s.last.length = 8) {k : Nat} (hk : k < 8) : (LW s 8)[k]? = some (Dk.lastAt s k) := by
  unfold LW
  rw [upto_at _ _ _ _ k hk, if_pos hk]
  unfold Dk.lastsP
  rw [if_pos (by rw [h8]; exact Dk.has_mk hk), Int.toNat_natCast]
theorem LN_at {s : Dk.St} (hd : s.down = false) (h8 : s.last.length = 8) {k : Nat} (hk : k < 8) : (LN s 8)[k]? = some (Dk.nowAt s k) := by
  unfold LN
  rw [upto_at _ _ _ _ k hk, if_pos hk]
  unfold Dk.readP
  rw [if_pos (Dk.reach_mk hd (by rw [h8]; exact Dk.has_mk hk)), Int.toNat_natCast]
def tcount (s : Dk.St) (keep : List UInt8) (k : Nat) : Nat := if s.down = true then 0 else tornTo s keep k
theorem tcount_zero (s : Dk.St) (keep : List UInt8) : tcount s keep 0 = 0 := by unfold tcount; split <;> rfl
theorem tcount_le (s : Dk.St) (keep : List UInt8) (k : Nat) : tcount s keep k ≤ k := by
  unfold tcount
  split
  · exact Nat.zero_le _
  · exact tornTo_le s keep k
theorem tcount_ends {s : Dk.St} (h : s.Ok) (h8 : s.last.length = 8) (keep : List UInt8) : tcount s keep 8 ≤ Dk.count s ∧ tcount s keep 8 ≤ keep.length := by
  have h1 := torn_cached h keep
  have h2 := torn_kept (s := s) keep
  rw [h8] at h1 h2
  unfold tcount
  split
  · exact ⟨Nat.zero_le _, Nat.zero_le _⟩
  · exact ⟨h1, h2⟩

set_option maxHeartbeats 2000000 in
set_option maxRecDepth 100000 in
theorem walk_many (A : Option Addr) (q ca : Nat) (A2 : Option Addr) (n c2 : Nat) (w : World) (hq : q ≤ maxLen) (hn : n ≤ maxLen) (h : 100 < q ∨ (q ≤ 100 ∧ 600 < n)) :
    Calls Try.prog 4 #[.slice A q ca, .slice A2 n c2] w fun e w' => e = .returned (.bool true) ∧ Below w.heap.size w w' := by
  unfold maxLen at hq hn
  rcases h with h | ⟨h, h'⟩
  · have h1 : (100 : Int) < (q : Int) := by omega
    go_enter Try.func4, Try.ntmps4
    go_wp2_with (go_at_call 7; refine (awake_any _).mono ?_; rintro e w1 ⟨rfl, hb1⟩)
    go_ret
    exact ⟨rfl, hb1⟩
  · have h1 : ¬ (100 : Int) < (q : Int) := by omega
    have h2 : (600 : Int) < (n : Int) := by omega
    go_enter Try.func4, Try.ntmps4
    go_wp2_with (go_at_call 7; refine (awake_any _).mono ?_; rintro e w1 ⟨rfl, hb1⟩)
    go_ret
    exact ⟨rfl, hb1⟩
set_option maxHeartbeats 16000000 in
set_option maxRecDepth 100000 in
theorem walk_main (A : Option Addr) (q ca : Nat) (os : List OpV) (A2 : Option Addr) (n c2 : Nat) (keep : List UInt8) (w : World) (hq : q ≤ 100) (hn : n ≤ 600) (hrow : OpRow w A q os) (hrow2 : ByteRow w A2 n c2 keep) :
    Calls Try.prog 4 #[.slice A q ca, .slice A2 n c2] w fun e w' => e = .returned (.bool true) ∧ Below w.heap.size w w' := by
  have HR := Lib.hid hrow
  have HR2 := Lib.hid hrow2
  have h1 : ¬ (100 : Int) < (q : Int) := by omega
  have h2 : ¬ (600 : Int) < (n : Int) := by omega
  clear hrow hrow2
  go_enter Try.func4, Try.ntmps4
  go_wp2_with fail
  refine (awake_any _).mono ?_
  rintro e w1 ⟨rfl, hb1⟩
  have HNW : Hid (Calls Try.prog 8 #[.int .i64 8] w1 fun e w' => e = .returned (.tuple #[.pointer (some ⟨w1.heap.size + 2, 0, none⟩), .int .i64 0]) ∧ w' = newWorld w1 8) := Lib.hid (new_any 8 w1 (by omega) (by omega))
  go_wp2_with fail
  refine HNW.out.mono ?_
  rintro e w2 ⟨rfl, rfl⟩
  have hl0 := Live.start w1 8 (by omega) (by omega)
  have HL0 : Hid (Live w (w1.heap.size + 2) w1.heap.size (w1.heap.size + 1) (Dk.fresh 8) (newWorld w1 8)) := Lib.hid ⟨hl0.disk, hb1.trans (hl0.below.mono hb1.size), by have := hb1.size; omega⟩
  clear hl0 hb1 HNW
  generalize newWorld w1 8 = w2 at HL0 ⊢
  generalize w1.heap.size + 2 = d at HL0 ⊢
  generalize w1.heap.size + 1 = m at HL0
  generalize w1.heap.size = l at HL0
  go_wp2_with fail
  go_loopw [37] (fun i wr => ∃ (k : Nat) (s : Dk.St), k ≤ q ∧ i = .int .i64 k ∧ Hid (s.last.length = 8) ∧ Live w d l m s wr) (fun i _ => q - (intOf i).toNat)
  case atStart => exact ⟨0, _, Nat.zero_le _, rfl, Lib.hid (by unfold Dk.fresh; simp), HL0.out⟩
  case round =>
    obtain ⟨k, s, hk, rfl, HS8, hlive⟩ := hrel
    rename World => wo
    have HL1 := Lib.hid hlive
    clear hlive HL0
    by_cases hlt : k < q
    · obtain ⟨ob, oo, rfl, hob, hoc⟩ := HR.out.cells (by omega)
      obtain ⟨o, ho⟩ : ∃ o, os[k]? = some o := ⟨_, List.getElem?_eq_getElem (by rw [HR.out.len]; exact hlt)⟩
      have HOK := Lib.hid (HR.out.ok o (List.mem_of_getElem? ho))
      have HPG := Lib.hid HOK.out.page
      have HRG : Hid (wo.rangeAt ob (oo + k * 67) (opVals o)) := Lib.hid (fun j v hv => (HL1.out.below.cell (p := ⟨ob, oo + k * 67 + j, none⟩) hob).trans (hoc k o ho j v hv))
      have HOL := Lib.hid (opVals_length HOK.out)
      have hz34 := zeroOp
      clear hob hoc ho
      by_cases K0 : o.K = 0
      · have z0 : (o.K == 0) = true := by simpa using K0
        clear K0
        go_wp2_with (first
          | (with_reducible refine wpList_load_op HOL.out HRG.out rfl (.tmp 39) rfl rfl ?_)
          | ((with_reducible refine wpList_store_op HPG.out rfl (.tmp 8) (.tmp 40) rfl rfl ?_ opZero_size ?_); (exact rfl); intro W2 hV hB2 hz2; have HV := Lib.hid hV; have HL2 := Lib.hid (HL1.out.byBelow hB2); have v0 := hV.k; have v1 := hV.n; clear hV hB2 hz2)
          | (with_reducible refine wpList_load_opPage HV.out HPG.out rfl (.tmp 48) rfl rfl ?_)
          | (go_at_call 10; refine (write_any HL2.out.disk o.N o.page HPG.out).mono ?_; rintro e w3 ⟨rfl, hd3, ho3⟩))
        go_roundw
        case rel => exact ⟨k + 1, _, by omega, by go_num, Lib.hid ((Dk.write_len _ _ _).trans HS8.out), HL2.out.byOnly hd3 ho3 (by simp)⟩
        case measure => simp [intOf]; omega
      · have z0 : (o.K == 0) = false := by simpa using K0
        clear K0
        by_cases K2 : o.K = 2
        · have z2 : (o.K == 2) = true := by simpa using K2
          clear K2
          go_wp2_with (first
            | (with_reducible refine wpList_load_op HOL.out HRG.out rfl (.tmp 39) rfl rfl ?_)
            | ((with_reducible refine wpList_store_op HPG.out rfl (.tmp 8) (.tmp 40) rfl rfl ?_ opZero_size ?_); (exact rfl); intro W2 hV hB2 hz2; have HL2 := Lib.hid (HL1.out.byBelow hB2); have v0 := hV.k; clear hV hB2 hz2)
            | (go_at_call 14; refine (flush_any HL2.out.disk).mono ?_; rintro e w3 ⟨rfl, hd3, ho3⟩))
          go_roundw
          case rel => exact ⟨k + 1, _, by omega, by go_num, Lib.hid ((Dk.flush_len _).trans HS8.out), HL2.out.byOnly hd3 ho3 (by simp)⟩
          case measure => simp [intOf]; omega
        · have z2 : (o.K == 2) = false := by simpa using K2
          clear K2
          by_cases K3 : o.K = 3
          · have z3 : (o.K == 3) = true := by simpa using K3
            clear K3
            go_wp2_with (first
              | (with_reducible refine wpList_load_op HOL.out HRG.out rfl (.tmp 39) rfl rfl ?_)
              | ((with_reducible refine wpList_store_op HPG.out rfl (.tmp 8) (.tmp 40) rfl rfl ?_ opZero_size ?_); (exact rfl); intro W2 hV hB2 hz2; have HL2 := Lib.hid (HL1.out.byBelow hB2); have v0 := hV.k; have v1 := hV.n; clear hV hB2 hz2)
              | (go_at_call 16; refine (fuse_any HL2.out.disk o.N HOK.out.lo HOK.out.hi).mono ?_; rintro e w3 ⟨rfl, hd3, ho3, hz3⟩))
            go_roundw
            case rel => exact ⟨k + 1, Dk.fuse s o.N, by omega, by go_num, Lib.hid HS8.out, HL2.out.byOnly hd3 ho3 (by simp)⟩
            case measure => simp [intOf]; omega
          · have z3 : (o.K == 3) = false := by simpa using K3
            clear K3
            go_wp2_with (first
              | (with_reducible refine wpList_load_op HOL.out HRG.out rfl (.tmp 39) rfl rfl ?_)
              | ((with_reducible refine wpList_store_op HPG.out rfl (.tmp 8) (.tmp 40) rfl rfl ?_ opZero_size ?_); (exact rfl); intro W2 hV hB2 hz2; have HL2 := Lib.hid (HL1.out.byBelow hB2); have v0 := hV.k; clear hV hB2 hz2))
            go_roundw
            case rel => exact ⟨k + 1, _, by omega, by go_num, HS8, HL2.out⟩
            case measure => simp [intOf]; omega
    · have hz52 := zero8
      have HK1 := Lib.hid (KS.start HL1.out 52)
      have HSOK := Lib.hid HL1.out.disk.ok
      obtain ⟨dn, hdn⟩ : ∃ dn, s.down = dn := ⟨_, rfl⟩
      have HDN := Lib.hid hdn
      clear hdn
      go_wp2_with fail
      generalize (wo.alloc (.cells (zeroRow 8) 52)).alloc (.cells (zeroRow 8) 52) = w3 at HK1 ⊢
      generalize wo.heap.size + 1 = y at HK1 ⊢
      generalize wo.heap.size = x at HK1 ⊢
      have HDW : Hid (Calls Try.prog 23 #[.pointer (some ⟨d, 0, none⟩)] w3 fun e w' => e = .returned (.bool dn) ∧ w3 = w') := Lib.hid (by
        have := down_any HK1.out.live.disk
        rw [HDN.out] at this
        exact this)
      refine HDW.out.mono ?_
      rintro e w' ⟨rfl, rfl⟩
      clear HDW HL1 hz52
      go_wp2_with fail
      go_loopw [64] (fun v wi => ∃ k : Nat, k ≤ 8 ∧ v = .int .i64 k ∧ KS w d l m x y s (LW s k) (LN s k) wi) (fun v _ => 8 - (intOf v).toNat)
      case atStart => exact ⟨0, by omega, rfl, by unfold LW LN; rw [L_zero, L_zero]; exact HK1.out⟩
      case round =>
        obtain ⟨j, hj, rfl, hks⟩ := hrel
        rename World => wp
        have HK2 := Lib.hid hks
        clear hks HK1
        by_cases hj8 : j < 8
        · have hj0 : (0 : Int) ≤ (j : Int) := by omega
          have hjI : (j : Int) < 8 := by omega
          have HA := Lib.hid (lasts_any HK2.out.live.disk (j : Int))
          have HPL := Lib.hid (Dk.lastsP_len HSOK.out (j : Int))
          have HQL := Lib.hid (Dk.readP_len HSOK.out (j : Int))
          have HLW : Hid (LW s (j + 1) = (LW s j).set j (Dk.lastsP s (j : Int))) := Lib.hid (upto_succ _ _ _ _ hj8)
          have HLN : Hid (LN s (j + 1) = (LN s j).set j (Dk.readP s (j : Int))) := Lib.hid (upto_succ _ _ _ _ hj8)
          have HLL : Hid (j < (LW s j).length ∧ j < (LN s j).length) := Lib.hid ⟨by unfold LW; rw [upto_length]; exact hj8, by unfold LN; rw [upto_length]; exact hj8⟩
          have HB0 : Hid (∀ W, KS w d l m x y s ((LW s j).set j (Dk.lastsP s (j : Int))) (LN s j) W → Calls Try.prog 12 #[.pointer (some ⟨d, 0, none⟩), .int .i64 (j : Int)] W fun e w' => e = .returned (.tuple #[pageV (Dk.readP s (j : Int)), .int .i64 (Dk.reachE s (j : Int))]) ∧ Below W.heap.size W w') := Lib.hid (fun W hW => read_any hW.live.disk (j : Int))
          generalize Dk.lastsP s (j : Int) = Pa at HA HPL HLW HB0
          generalize Dk.readP s (j : Int) = Pb at HQL HLN HB0
          generalize Dk.reachE s (j : Int) = Er at HB0
          go_wp2_with fail
          refine HA.out.mono ?_
          rintro e w4 ⟨rfl, hb4⟩
          have HK4 := Lib.hid (HK2.out.byBelow hb4)
          have HK5 := Lib.hid (HK4.out.putX j HLL.out.1 Pa HPL.out)
          clear hb4 HA HK2
          go_wp2_with (with_reducible refine wpList_store_row HK4.out.rx j HLL.out.1 HPL.out rfl (.tmp 71) (.tmp 70) rfl rfl rfl ?_)
          clear HK4
          generalize w4.setCells x (j * 64) (byteVals Pa) = w5 at HK5 ⊢
          refine (HB0.out _ HK5.out).mono ?_
          rintro e w6 ⟨rfl, hb6⟩
          have HK6 := Lib.hid (HK5.out.byBelow hb6)
          have HK7 := Lib.hid (HK6.out.putY j HLL.out.2 Pb HQL.out)
          clear hb6 HK5 HB0
          go_wp2_with (with_reducible refine wpList_store_row HK6.out.ry j HLL.out.2 HQL.out rfl (.tmp 79) (.tmp 77) rfl rfl rfl ?_)
          go_roundw
          case rel => exact ⟨j + 1, by omega, by go_num, by rw [HLW.out, HLN.out]; exact HK7.out⟩
          case measure => simp [intOf]; omega
        · obtain rfl : j = 8 := by omega
          have HC1 := Lib.hid (cached_any HK2.out.live.disk)
          have HLT := Lib.hid (HK2.out.live)
          have hlen := HR2.out.len
          have HCR : Hid (Calls Try.prog 18 #[.pointer (some ⟨d, 0, none⟩), .slice A2 n c2] wp fun e w' => e = .returned (.tuple #[]) ∧ DiskAt w' d l m (Dk.crash s keep) ∧ Only [d, l, m] wp w') := Lib.hid (by
            have := crash_any HK2.out.live.disk A2 c2 keep (HR2.out.keep (by omega) HK2.out.live.below (fun k hk => by have := HK2.out.live.old; simp at hk; omega))
            rw [hlen] at this
            exact this)
          have HKN : Hid (keep.length = n) := Lib.hid hlen
          have HENDS := Lib.hid (tcount_ends HSOK.out HS8.out keep)
          have HCL : Hid (Dk.count s ≤ 8) := Lib.hid (by have := Dk.count_le s; rw [HSOK.out.same, HS8.out] at this; exact this)
          clear hlen HLT
          generalize Dk.count s = cnt at HC1 HENDS HCL
          go_wp2_with fail
          refine HC1.out.mono ?_
          rintro e w' ⟨rfl, rfl⟩
          go_wp2_with fail
          refine HCR.out.mono ?_
          rintro e w4 ⟨rfl, hd4, ho4⟩
          have HK3 := Lib.hid (HK2.out.byOnly hd4 ho4 (by simp))
          clear HC1 HCR HK2 hd4 ho4
          have HC2 : Hid (Calls Try.prog 21 #[.pointer (some ⟨d, 0, none⟩)] w4 fun e w' => e = .returned (.int .i64 0) ∧ w4 = w') := Lib.hid (by
            have := cached_any HK3.out.live.disk
            rw [crash_count] at this
            exact this)
          have HC3 : Hid (Calls Try.prog 23 #[.pointer (some ⟨d, 0, none⟩)] w4 fun e w' => e = .returned (.bool false) ∧ w4 = w') := Lib.hid (down_any HK3.out.live.disk)
          go_wp2_with fail
          refine HC2.out.mono ?_
          rintro e w' ⟨rfl, rfl⟩
          go_wp2_with fail
          refine HC3.out.mono ?_
          rintro e w' ⟨rfl, rfl⟩
          clear HC2 HC3
          go_wp2_with fail
          go_loopw [14, 93] (fun c v wi => ∃ k : Nat, k ≤ 8 ∧ v = .int .i64 k ∧ c = .int .i64 (tcount s keep k : Nat) ∧ KS w d l m x y (Dk.crash s keep) (LW s 8) (LN s 8) wi) (fun _ v _ => 8 - (intOf v).toNat)
          case atStart => exact ⟨0, by omega, rfl, by rw [tcount_zero]; rfl, HK3.out⟩
          case round =>
            obtain ⟨k, hk, rfl, rfl, hks⟩ := hrel
            rename World => w6
            have HKS := Lib.hid hks
            clear hks HK3
            have htk := tcount_le s keep k
            by_cases hlt : k < 8
            · have hls : k < s.last.length := by rw [HS8.out]; exact hlt
              obtain ⟨P, hP⟩ : ∃ P, after s keep k = P := ⟨_, rfl⟩
              have HPA := Lib.hid hP
              have HPL : Hid (P.length = 64) := Lib.hid (hP ▸ after_len HSOK.out keep hls)
              have HRD : Hid (Calls Try.prog 12 #[.pointer (some ⟨d, 0, none⟩), .int .i64 (k : Int)] w6 fun e w' => e = .returned (.tuple #[pageV P, .int .i64 0]) ∧ Below w6.heap.size w6 w') := Lib.hid (by
                have := read_any HKS.out.live.disk (k : Int)
                rw [crash_read s keep hls, crash_reach s keep hls, hP] at this
                exact this)
              have HLS : Hid (∀ W, KS w d l m x y (Dk.crash s keep) (LW s 8) (LN s 8) W → Calls Try.prog 24 #[.pointer (some ⟨d, 0, none⟩), .int .i64 (k : Int)] W fun e w' => e = .returned (pageV P) ∧ Below W.heap.size W w') := Lib.hid (fun W hW => by
                have := lasts_any hW.live.disk (k : Int)
                rw [crash_lasts s keep hls, hP] at this
                exact this)
              have HLSX := Lib.hid hls
              clear hP hls
              have HN1 := fun (x y : Operand) (w : World) => run_neGuard_page w x y P P
              have HN2 := fun (w : World) => run_neq_same w P HPL.out
              have hk0 : (0 : Int) ≤ (k : Int) := by omega
              have hk8 : (k : Int) < 8 := by omega
              go_wp2_with fail
              refine HRD.out.mono ?_
              rintro e w7 ⟨rfl, hb7⟩
              have HK7 := Lib.hid (HKS.out.byBelow hb7)
              clear HRD HKS hb7
              go_wp2_with ((with_reducible refine wpList_store_new rfl (.tmp 16) (.tmp 100) rfl rfl ?_ ?_ HPL.out ?_); (exact rfl); (exact rfl); intro W4 hP4 hB4 hz4; have HQ4 := Lib.hid hP4; have HK4 := Lib.hid (HK7.out.byBelow hB4); clear hP4 hB4 hz4)
              clear HK7
              generalize w7.heap.size = Bp at HQ4 ⊢
              refine wp_region_noPanic ?_
              refine wp_region_held_drew (S := fun W => KS w d l m x y (Dk.crash s keep) (LW s 8) (LN s 8) W ∧ PageAt W Bp P) (by kernel_rfl) ⟨HK4.out.byBelow (Below.refl _ _).drew, HQ4.out.drew⟩ (fun hHeld => ?_)
              refine take_at (i := 0) (d := some 102) (v := .int .i64 0) rfl rfl (by kernel_rfl) (by kernel_rfl) (by kernel_rfl) (fun _ _ _ h => h) (Or.inl ⟨by kernel_rfl, ?_⟩) hHeld ?_
              · intro w hSw; clear hSw; go_simp
              (try simp only [Act.put, List.setIfInBounds_toArray, List.set_cons_zero, List.set_cons_succ])
              refine take_at (i := 1) (d := some 103) (v := .bool false) rfl rfl (by kernel_rfl) (by kernel_rfl) (by kernel_rfl) (fun _ _ _ h => h) (Or.inl ⟨by kernel_rfl, ?_⟩) hHeld ?_
              · intro w hSw; clear hSw; go_simp
              (try simp only [Act.put, List.setIfInBounds_toArray, List.set_cons_zero, List.set_cons_succ])
              refine take_at (i := 2) (d := some 104) (v := .bool false) rfl rfl (by kernel_rfl) (by kernel_rfl) (by kernel_rfl) (fun _ _ _ h => h) (Or.inl ⟨by kernel_rfl, ?_⟩) hHeld ?_
              · intro w hSw; clear hSw; go_simp
              (try simp only [Act.put, List.setIfInBounds_toArray, List.set_cons_zero, List.set_cons_succ])
              refine take_at (i := 3) (d := some 105) (v := pageV P) rfl rfl (by kernel_rfl) (by kernel_rfl) (by kernel_rfl) (fun _ _ _ h => h) (yields_page (by kernel_rfl) (.tmp 16) rfl rfl HPL.out (fun _ hSw => hSw.2.range)) hHeld ?_
              (try simp only [Act.put, List.setIfInBounds_toArray, List.set_cons_zero, List.set_cons_succ])
              refine take_at (i := 4) (d := some 106) (v := .pointer (some ⟨d, 0, none⟩)) rfl rfl (by kernel_rfl) (by kernel_rfl) (by kernel_rfl) (fun _ _ _ h => h) (Or.inl ⟨by kernel_rfl, ?_⟩) hHeld ?_
              · intro w hSw; clear hSw; go_simp
              (try simp only [Act.put, List.setIfInBounds_toArray, List.set_cons_zero, List.set_cons_succ])
              refine take_at (i := 5) (d := some 107) (v := .int .i64 (k : Int)) rfl rfl (by kernel_rfl) (by kernel_rfl) (by kernel_rfl) (fun _ _ _ h => h) (Or.inl ⟨by kernel_rfl, ?_⟩) hHeld ?_
              · intro w hSw; clear hSw; go_simp
              (try simp only [Act.put, List.setIfInBounds_toArray, List.set_cons_zero, List.set_cons_succ])
              refine wpAnyH_ready (rs := [6]) (by kernel_rfl) (by simp) ?_
              refine AllReadyH.cons rfl (fun K hK => ?_) AllReadyH.nil
              go_simp
              (go_at_call 24; refine (HLS.out _ hHeld.1).mono ?_; rintro e w5 ⟨rfl, hb5⟩)
              (try go_wp2_with fail)
              refine hK.out _ _ ⟨hHeld.1.byBelow hb5, hHeld.2.below hb5 hHeld.2.lt⟩ (fun hHeld => ?_)
              clear hK K
              (try simp only [Act.put, List.setIfInBounds_toArray, List.set_cons_zero, List.set_cons_succ])
              refine take_at (i := 7) (d := some 109) (v := .bool false) rfl rfl (by kernel_rfl) (by kernel_rfl) (by kernel_rfl) (fun _ _ _ h => h) (Or.inl ⟨by kernel_rfl, ?_⟩) hHeld ?_
              · intro w hSw; clear hSw; go_simp
              (try simp only [Act.put, List.setIfInBounds_toArray, List.set_cons_zero, List.set_cons_succ])
              refine take_at (i := 8) (d := some 110) (v := .bool false) rfl rfl (by kernel_rfl) (by kernel_rfl) (by kernel_rfl) (fun _ _ _ h => h) (Or.inl ⟨by kernel_rfl, ?_⟩) hHeld ?_
              · intro w hSw; clear hSw; go_simp
              (try simp only [Act.put, List.setIfInBounds_toArray, List.set_cons_zero, List.set_cons_succ])
              refine wpAnyH_done (by kernel_rfl) ?_ _
              refine NoPanic.normal ?_
              have HH := Lib.hid hHeld
              clear HN1 HN2 HLS HQ4 HK4
              cases dn with
              | true =>
                have HTC : Hid (tcount s keep (k + 1) = tcount s keep k) := Lib.hid (by unfold tcount; rw [HDN.out]; rfl)
                go_wp2_with fail
                go_roundw
                case rel => exact ⟨k + 1, by omega, by go_num, by rw [HTC.out], HH.out.1⟩
                case measure => simp [intOf]; omega
              | false =>
                obtain ⟨Ws, hWs⟩ : ∃ Ws, Dk.lastAt s k = Ws := ⟨_, rfl⟩
                obtain ⟨Nw, hNw⟩ : ∃ Nw, Dk.nowAt s k = Nw := ⟨_, rfl⟩
                have HWA := Lib.hid hWs
                have HWL : Hid (Ws.length = 64) := Lib.hid (hWs ▸ Dk.lastAt_len HSOK.out HLSX.out)
                have HNL : Hid (Nw.length = 64) := Lib.hid (hNw ▸ Dk.nowAt_len HSOK.out HLSX.out)
                have HWI : Hid ((LW s 8)[k]? = some Ws) := Lib.hid (by rw [← hWs]; exact LW_at HSOK.out HS8.out hlt)
                have HNI : Hid ((LN s 8)[k]? = some Nw) := Lib.hid (by rw [← hNw]; exact LN_at HDN.out HS8.out hlt)
                obtain ⟨M, hM64, hMx⟩ := after_mixed HSOK.out keep HLSX.out
                rw [HPA.out, hWs, hNw] at hMx
                have HMX := Lib.hid (mixed_parts HNL.out HWL.out hM64 hMx)
                have HTT : Hid (∀ j, tcount s keep j = tornTo s keep j) := Lib.hid (fun j => by unfold tcount; rw [HDN.out]; rfl)
                rw [HTT.out] at htk ⊢
                clear hWs hNw hMx
                go_wp2_with fail
                go_loopw [18] (fun v wi => ∃ t : Nat, t ≤ 64 ∧ v = .int .i64 t ∧ KS w d l m x y (Dk.crash s keep) (LW s 8) (LN s 8) wi ∧ PageAt wi Bp P) (fun v _ => 64 - (intOf v).toNat)
                case atStart => exact ⟨0, by omega, rfl, HH.out.1, HH.out.2⟩
                case round =>
                  obtain ⟨t, ht, rfl, hks, hpg⟩ := hrel
                  rename World => w9
                  by_cases ht64 : t < 64
                  · have b1 := hpg.cell t ht64
                    have b2 := hks.ry.byte HNI.out ht64
                    have htI : (t : Int) < 64 := by omega
                    have ht0 : (0 : Int) ≤ (t : Int) := by omega
                    have HKS := Lib.hid hks
                    have HPG := Lib.hid hpg
                    clear hks hpg
                    by_cases heq : P.getD t 0 = Nw.getD t 0
                    · rw [heq] at b1
                      clear heq
                      generalize Nw.getD t 0 = xb at b1 b2
                      go_wp2_with fail
                      go_quiet (fail)
                      go_wp2_with fail
                      go_roundw
                      case rel => exact ⟨t + 1, by omega, by go_num, HKS.out.drewN _, ⟨HPG.out.len, HPG.out.range, HPG.out.free⟩⟩
                      case measure => simp [intOf]; omega
                    · have HMT : Hid (M ≤ t) := Lib.hid (by
                        rcases Nat.lt_or_ge t M with g | g
                        · exact absurd ((HMX.out t ht64).1 g) heq
                        · exact g)
                      have HT64 : Hid (t ≤ 64) := Lib.hid ht
                      have hne : (((P.getD t 0).toNat : Int) == ((Nw.getD t 0).toNat : Int)) = false := by
                        rw [beq_eq_false_iff_ne]
                        intro q
                        exact heq (UInt8.toNat_inj.1 (by omega))
                      clear heq
                      generalize P.getD t 0 = xa at b1 hne
                      generalize Nw.getD t 0 = xb at b2 hne
                      go_wp2_with fail
                      go_quiet (fail)
                      go_wp2_with fail
                      clear b1 b2 hne htI ht0
                      go_loopw [18] (fun v wi => ∃ t : Nat, t ≤ 64 ∧ v = .int .i64 t ∧ Hid (M ≤ t) ∧ KS w d l m x y (Dk.crash s keep) (LW s 8) (LN s 8) wi ∧ PageAt wi Bp P) (fun v _ => 64 - (intOf v).toNat)
                      case atStart => exact ⟨_, HT64.out, rfl, HMT, HKS.out.drewN _, ⟨HPG.out.len, HPG.out.range, HPG.out.free⟩⟩
                      case round =>
                        obtain ⟨t, ht, rfl, HM, hks, hpg⟩ := hrel
                        rename World => w8
                        by_cases ht64 : t < 64
                        · have b1 := hpg.cell t ht64
                          have b2 := hks.rx.byte HWI.out ht64
                          rw [(HMX.out t ht64).2 HM.out] at b1
                          have htI : (t : Int) < 64 := by omega
                          have ht0 : (0 : Int) ≤ (t : Int) := by omega
                          have HKS := Lib.hid hks
                          have HPG := Lib.hid hpg
                          clear hks hpg
                          generalize Ws.getD t 0 = xb at b1 b2
                          go_wp2_with fail
                          go_quiet (fail)
                          go_wp2_with fail
                          go_roundw
                          case rel => exact ⟨t + 1, by omega, by go_num, Lib.hid (by have := HM.out; omega), HKS.out.drewN _, ⟨HPG.out.len, HPG.out.range, HPG.out.free⟩⟩
                          case measure => simp [intOf]; omega
                        · obtain rfl : t = 64 := by omega
                          have HK9 := Lib.hid hks
                          have HQ9 := Lib.hid hpg
                          clear hks hpg
                          by_cases hpw : P = Ws
                          · have HTC : Hid (tornTo s keep (k + 1) = tornTo s keep k) := Lib.hid (by rw [tornTo, HPA.out, HWA.out, if_pos hpw]; rfl)
                            have HN1 := fun (x y : Operand) (w : World) => run_neGuard_page w x y P Ws
                            have HN2 : ∀ (w : World), (binOp .neq 31 (pageV P) (pageV Ws)).run Try.prog w = .ok (.bool false) w := fun w => by rw [run_neq_page w P Ws HPL.out HWL.out, decide_eq_true hpw]; rfl
                            clear hpw
                            go_wp2_with fail
                            refine wp_region_noPanic ?_
                            refine wp_region_held_drew (S := fun W => KS w d l m x y (Dk.crash s keep) (LW s 8) (LN s 8) W ∧ PageAt W Bp P) (by kernel_rfl) ⟨HK9.out.byBelow (Below.refl _ _).drew, HQ9.out.drew⟩ (fun hHeld => ?_)
                            refine take_at (i := 0) (d := some 140) (v := pageV P) rfl rfl (by kernel_rfl) (by kernel_rfl) (by kernel_rfl) (fun _ _ _ h => h) (yields_page (by kernel_rfl) (.tmp 16) rfl rfl HPL.out (fun _ hSw => hSw.2.range)) hHeld ?_
                            (try simp only [Act.put, List.setIfInBounds_toArray, List.set_cons_zero, List.set_cons_succ])
                            refine take_at (i := 1) (d := some 141) (v := .int .i64 (k : Int)) rfl rfl (by kernel_rfl) (by kernel_rfl) (by kernel_rfl) (fun _ _ _ h => h) (Or.inl ⟨by kernel_rfl, ?_⟩) hHeld ?_
                            · intro w hSw; clear hSw; go_simp
                            (try simp only [Act.put, List.setIfInBounds_toArray, List.set_cons_zero, List.set_cons_succ])
                            refine take_at (i := 2) (d := some 142) (v := .pointer (some ⟨x, k * 64, none⟩)) rfl rfl (by kernel_rfl) (by kernel_rfl) (by kernel_rfl) (fun _ _ _ h => h) (Or.inl ⟨by kernel_rfl, ?_⟩) hHeld ?_
                            · intro w hSw; clear hSw; go_simp
                            (try simp only [Act.put, List.setIfInBounds_toArray, List.set_cons_zero, List.set_cons_succ])
                            refine take_at (i := 3) (d := some 143) (v := pageV Ws) rfl rfl (by kernel_rfl) (by kernel_rfl) (by kernel_rfl) (fun _ _ _ h => h) (yields_page (by kernel_rfl) (.tmp 142) rfl rfl HWL.out (fun _ hSw => (hSw.1.rx.range k Ws HWI.out))) hHeld ?_
                            (try simp only [Act.put, List.setIfInBounds_toArray, List.set_cons_zero, List.set_cons_succ])
                            refine take_at (i := 4) (d := some 144) (v := .bool false) rfl rfl (by kernel_rfl) (by kernel_rfl) (by kernel_rfl) (fun _ _ _ h => h) (Or.inl ⟨by kernel_rfl, ?_⟩) hHeld ?_
                            · intro w hSw; clear hSw; go_simp
                            (try simp only [Act.put, List.setIfInBounds_toArray, List.set_cons_zero, List.set_cons_succ])
                            refine wpAnyH_done (by kernel_rfl) ?_ _
                            refine NoPanic.normal ?_
                            go_wp2_with fail
                            go_roundw
                            case rel => exact ⟨k + 1, by omega, by go_num, by rw [HTT.out, HTC.out], hHeld.1⟩
                            case measure => simp [intOf]; omega
                          · have HTC : Hid (tornTo s keep (k + 1) = tornTo s keep k + 1) := Lib.hid (by rw [tornTo, HPA.out, HWA.out, if_neg hpw])
                            have HN1 := fun (x y : Operand) (w : World) => run_neGuard_page w x y P Ws
                            have HN2 : ∀ (w : World), (binOp .neq 31 (pageV P) (pageV Ws)).run Try.prog w = .ok (.bool true) w := fun w => by rw [run_neq_page w P Ws HPL.out HWL.out, decide_eq_false hpw]; rfl
                            clear hpw
                            go_wp2_with fail
                            refine wp_region_noPanic ?_
                            refine wp_region_held_drew (S := fun W => KS w d l m x y (Dk.crash s keep) (LW s 8) (LN s 8) W ∧ PageAt W Bp P) (by kernel_rfl) ⟨HK9.out.byBelow (Below.refl _ _).drew, HQ9.out.drew⟩ (fun hHeld => ?_)
                            refine take_at (i := 0) (d := some 140) (v := pageV P) rfl rfl (by kernel_rfl) (by kernel_rfl) (by kernel_rfl) (fun _ _ _ h => h) (yields_page (by kernel_rfl) (.tmp 16) rfl rfl HPL.out (fun _ hSw => hSw.2.range)) hHeld ?_
                            (try simp only [Act.put, List.setIfInBounds_toArray, List.set_cons_zero, List.set_cons_succ])
                            refine take_at (i := 1) (d := some 141) (v := .int .i64 (k : Int)) rfl rfl (by kernel_rfl) (by kernel_rfl) (by kernel_rfl) (fun _ _ _ h => h) (Or.inl ⟨by kernel_rfl, ?_⟩) hHeld ?_
                            · intro w hSw; clear hSw; go_simp
                            (try simp only [Act.put, List.setIfInBounds_toArray, List.set_cons_zero, List.set_cons_succ])
                            refine take_at (i := 2) (d := some 142) (v := .pointer (some ⟨x, k * 64, none⟩)) rfl rfl (by kernel_rfl) (by kernel_rfl) (by kernel_rfl) (fun _ _ _ h => h) (Or.inl ⟨by kernel_rfl, ?_⟩) hHeld ?_
                            · intro w hSw; clear hSw; go_simp
                            (try simp only [Act.put, List.setIfInBounds_toArray, List.set_cons_zero, List.set_cons_succ])
                            refine take_at (i := 3) (d := some 143) (v := pageV Ws) rfl rfl (by kernel_rfl) (by kernel_rfl) (by kernel_rfl) (fun _ _ _ h => h) (yields_page (by kernel_rfl) (.tmp 142) rfl rfl HWL.out (fun _ hSw => (hSw.1.rx.range k Ws HWI.out))) hHeld ?_
                            (try simp only [Act.put, List.setIfInBounds_toArray, List.set_cons_zero, List.set_cons_succ])
                            refine take_at (i := 4) (d := some 144) (v := .bool true) rfl rfl (by kernel_rfl) (by kernel_rfl) (by kernel_rfl) (fun _ _ _ h => h) (Or.inl ⟨by kernel_rfl, ?_⟩) hHeld ?_
                            · intro w hSw; clear hSw; go_simp
                            (try simp only [Act.put, List.setIfInBounds_toArray, List.set_cons_zero, List.set_cons_succ])
                            refine wpAnyH_done (by kernel_rfl) ?_ _
                            refine NoPanic.normal ?_
                            go_wp2_with fail
                            go_roundw
                            case rel => exact ⟨k + 1, by omega, by go_num, by rw [HTT.out, HTC.out]; go_num, hHeld.1⟩
                            case measure => simp [intOf]; omega
                  · obtain rfl : t = 64 := by omega
                    have HMT : Hid (M ≤ 64) := Lib.hid hM64
                    have HT64 : Hid ((64 : Nat) ≤ 64) := Lib.hid (Nat.le_refl _)
                    have HKS := Lib.hid hks
                    have HPG := Lib.hid hpg
                    clear hks hpg
                    go_wp2_with fail
                    go_quiet (fail)
                    go_wp2_with fail
                    go_loopw [18] (fun v wi => ∃ t : Nat, t ≤ 64 ∧ v = .int .i64 t ∧ Hid (M ≤ t) ∧ KS w d l m x y (Dk.crash s keep) (LW s 8) (LN s 8) wi ∧ PageAt wi Bp P) (fun v _ => 64 - (intOf v).toNat)
                    case atStart => exact ⟨_, HT64.out, rfl, HMT, HKS.out.drewN _, ⟨HPG.out.len, HPG.out.range, HPG.out.free⟩⟩
                    case round =>
                      obtain ⟨t, ht, rfl, HM, hks, hpg⟩ := hrel
                      rename World => w8
                      by_cases ht64 : t < 64
                      · have b1 := hpg.cell t ht64
                        have b2 := hks.rx.byte HWI.out ht64
                        rw [(HMX.out t ht64).2 HM.out] at b1
                        have htI : (t : Int) < 64 := by omega
                        have ht0 : (0 : Int) ≤ (t : Int) := by omega
                        have HKS := Lib.hid hks
                        have HPG := Lib.hid hpg
                        clear hks hpg
                        generalize Ws.getD t 0 = xb at b1 b2
                        go_wp2_with fail
                        go_quiet (fail)
                        go_wp2_with fail
                        go_roundw
                        case rel => exact ⟨t + 1, by omega, by go_num, Lib.hid (by have := HM.out; omega), HKS.out.drewN _, ⟨HPG.out.len, HPG.out.range, HPG.out.free⟩⟩
                        case measure => simp [intOf]; omega
                      · obtain rfl : t = 64 := by omega
                        have HK9 := Lib.hid hks
                        have HQ9 := Lib.hid hpg
                        clear hks hpg
                        by_cases hpw : P = Ws
                        · have HTC : Hid (tornTo s keep (k + 1) = tornTo s keep k) := Lib.hid (by rw [tornTo, HPA.out, HWA.out, if_pos hpw]; rfl)
                          have HN1 := fun (x y : Operand) (w : World) => run_neGuard_page w x y P Ws
                          have HN2 : ∀ (w : World), (binOp .neq 31 (pageV P) (pageV Ws)).run Try.prog w = .ok (.bool false) w := fun w => by rw [run_neq_page w P Ws HPL.out HWL.out, decide_eq_true hpw]; rfl
                          clear hpw
                          go_wp2_with fail
                          refine wp_region_noPanic ?_
                          refine wp_region_held_drew (S := fun W => KS w d l m x y (Dk.crash s keep) (LW s 8) (LN s 8) W ∧ PageAt W Bp P) (by kernel_rfl) ⟨HK9.out.byBelow (Below.refl _ _).drew, HQ9.out.drew⟩ (fun hHeld => ?_)
                          refine take_at (i := 0) (d := some 140) (v := pageV P) rfl rfl (by kernel_rfl) (by kernel_rfl) (by kernel_rfl) (fun _ _ _ h => h) (yields_page (by kernel_rfl) (.tmp 16) rfl rfl HPL.out (fun _ hSw => hSw.2.range)) hHeld ?_
                          (try simp only [Act.put, List.setIfInBounds_toArray, List.set_cons_zero, List.set_cons_succ])
                          refine take_at (i := 1) (d := some 141) (v := .int .i64 (k : Int)) rfl rfl (by kernel_rfl) (by kernel_rfl) (by kernel_rfl) (fun _ _ _ h => h) (Or.inl ⟨by kernel_rfl, ?_⟩) hHeld ?_
                          · intro w hSw; clear hSw; go_simp
                          (try simp only [Act.put, List.setIfInBounds_toArray, List.set_cons_zero, List.set_cons_succ])
                          refine take_at (i := 2) (d := some 142) (v := .pointer (some ⟨x, k * 64, none⟩)) rfl rfl (by kernel_rfl) (by kernel_rfl) (by kernel_rfl) (fun _ _ _ h => h) (Or.inl ⟨by kernel_rfl, ?_⟩) hHeld ?_
                          · intro w hSw; clear hSw; go_simp
                          (try simp only [Act.put, List.setIfInBounds_toArray, List.set_cons_zero, List.set_cons_succ])
                          refine take_at (i := 3) (d := some 143) (v := pageV Ws) rfl rfl (by kernel_rfl) (by kernel_rfl) (by kernel_rfl) (fun _ _ _ h => h) (yields_page (by kernel_rfl) (.tmp 142) rfl rfl HWL.out (fun _ hSw => (hSw.1.rx.range k Ws HWI.out))) hHeld ?_
                          (try simp only [Act.put, List.setIfInBounds_toArray, List.set_cons_zero, List.set_cons_succ])
                          refine take_at (i := 4) (d := some 144) (v := .bool false) rfl rfl (by kernel_rfl) (by kernel_rfl) (by kernel_rfl) (fun _ _ _ h => h) (Or.inl ⟨by kernel_rfl, ?_⟩) hHeld ?_
                          · intro w hSw; clear hSw; go_simp
                          (try simp only [Act.put, List.setIfInBounds_toArray, List.set_cons_zero, List.set_cons_succ])
                          refine wpAnyH_done (by kernel_rfl) ?_ _
                          refine NoPanic.normal ?_
                          go_wp2_with fail
                          go_roundw
                          case rel => exact ⟨k + 1, by omega, by go_num, by rw [HTT.out, HTC.out], hHeld.1⟩
                          case measure => simp [intOf]; omega
                        · have HTC : Hid (tornTo s keep (k + 1) = tornTo s keep k + 1) := Lib.hid (by rw [tornTo, HPA.out, HWA.out, if_neg hpw])
                          have HN1 := fun (x y : Operand) (w : World) => run_neGuard_page w x y P Ws
                          have HN2 : ∀ (w : World), (binOp .neq 31 (pageV P) (pageV Ws)).run Try.prog w = .ok (.bool true) w := fun w => by rw [run_neq_page w P Ws HPL.out HWL.out, decide_eq_false hpw]; rfl
                          clear hpw
                          go_wp2_with fail
                          refine wp_region_noPanic ?_
                          refine wp_region_held_drew (S := fun W => KS w d l m x y (Dk.crash s keep) (LW s 8) (LN s 8) W ∧ PageAt W Bp P) (by kernel_rfl) ⟨HK9.out.byBelow (Below.refl _ _).drew, HQ9.out.drew⟩ (fun hHeld => ?_)
                          refine take_at (i := 0) (d := some 140) (v := pageV P) rfl rfl (by kernel_rfl) (by kernel_rfl) (by kernel_rfl) (fun _ _ _ h => h) (yields_page (by kernel_rfl) (.tmp 16) rfl rfl HPL.out (fun _ hSw => hSw.2.range)) hHeld ?_
                          (try simp only [Act.put, List.setIfInBounds_toArray, List.set_cons_zero, List.set_cons_succ])
                          refine take_at (i := 1) (d := some 141) (v := .int .i64 (k : Int)) rfl rfl (by kernel_rfl) (by kernel_rfl) (by kernel_rfl) (fun _ _ _ h => h) (Or.inl ⟨by kernel_rfl, ?_⟩) hHeld ?_
                          · intro w hSw; clear hSw; go_simp
                          (try simp only [Act.put, List.setIfInBounds_toArray, List.set_cons_zero, List.set_cons_succ])
                          refine take_at (i := 2) (d := some 142) (v := .pointer (some ⟨x, k * 64, none⟩)) rfl rfl (by kernel_rfl) (by kernel_rfl) (by kernel_rfl) (fun _ _ _ h => h) (Or.inl ⟨by kernel_rfl, ?_⟩) hHeld ?_
                          · intro w hSw; clear hSw; go_simp
                          (try simp only [Act.put, List.setIfInBounds_toArray, List.set_cons_zero, List.set_cons_succ])
                          refine take_at (i := 3) (d := some 143) (v := pageV Ws) rfl rfl (by kernel_rfl) (by kernel_rfl) (by kernel_rfl) (fun _ _ _ h => h) (yields_page (by kernel_rfl) (.tmp 142) rfl rfl HWL.out (fun _ hSw => (hSw.1.rx.range k Ws HWI.out))) hHeld ?_
                          (try simp only [Act.put, List.setIfInBounds_toArray, List.set_cons_zero, List.set_cons_succ])
                          refine take_at (i := 4) (d := some 144) (v := .bool true) rfl rfl (by kernel_rfl) (by kernel_rfl) (by kernel_rfl) (fun _ _ _ h => h) (Or.inl ⟨by kernel_rfl, ?_⟩) hHeld ?_
                          · intro w hSw; clear hSw; go_simp
                          (try simp only [Act.put, List.setIfInBounds_toArray, List.set_cons_zero, List.set_cons_succ])
                          refine wpAnyH_done (by kernel_rfl) ?_ _
                          refine NoPanic.normal ?_
                          go_wp2_with fail
                          go_roundw
                          case rel => exact ⟨k + 1, by omega, by go_num, by rw [HTT.out, HTC.out]; go_num, hHeld.1⟩
                          case measure => simp [intOf]; omega
            · obtain rfl : k = 8 := by omega
              have hq1 := HENDS.out.1
              have hq2 := HENDS.out.2
              rw [HKN.out] at hq2
              have hq1' : ((tcount s keep 8 : Nat) : Int) ≤ (cnt : Int) := by omega
              have hq2' : ((tcount s keep 8 : Nat) : Int) ≤ (n : Int) := by omega
              have hn0 : (0 : Int) ≤ (n : Int) := by omega
              generalize tcount s keep 8 = tc at hq1 hq2 hq1' hq2' htk ⊢
              go_wp2
              go_ret
              exact ⟨rfl, HKS.out.live.below⟩
end Go.Proofs.Ytaiikpfgnamgiaa.diskKeeps
