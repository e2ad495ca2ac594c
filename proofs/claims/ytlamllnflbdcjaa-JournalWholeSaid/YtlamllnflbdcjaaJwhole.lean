/-
  JournalWhole: the walk.
-/
import Derived.Test.YtlamllnflbdcjaaJargs
namespace Go.Proofs.Ytlamllnflbdcjaa.journalWhole
open Go.ChangeShapes Go.WideShapes Go.ChangeAt Go.RowKit
open Dk (zeros zeros_length)
open Hd (Head rightB pageH)
open Jn (Chg quietH liveH Cl Quiet LiveD May Same upd)

/-- the Off in its variable -/
structure XI (w : World) (xb : Nat) (f : Int) (Af : Option Addr) (nf cf : Nat) (Ak : Option Addr) (nk ck : Nat) (W : World) : Prop where
  row : RowAt W xb [.int .i64 f, .slice Af nf cf, .slice Ak nk ck]
  below : Below w.heap.size w W
  fresh : w.heap.size ≤ xb
section
variable {w : World} {xb : Nat} {f : Int} {Af : Option Addr} {nf cf : Nat} {Ak : Option Addr} {nk ck : Nat} {W W' : World}
theorem XI.call (h : XI w xb f Af nf cf Ak nk ck W) (hb : Below W.heap.size W W') : XI w xb f Af nf cf Ak nk ck W' := ⟨h.row.below hb h.row.lt, h.below.trans (hb.mono h.below.size), h.fresh⟩
theorem XI.only {L : List Nat} (h : XI w xb f Af nf cf Ak nk ck W) (ho : Only L W W') (hx : xb ∉ L) (hL : ∀ x ∈ L, w.heap.size ≤ x) : XI w xb f Af nf cf Ak nk ck W' := ⟨h.row.only ho hx, Only.toBelowOld h.below ho h.below.size hL, h.fresh⟩
theorem XI.c0 (h : XI w xb f Af nf cf Ak nk ck W) : W.cell? ⟨xb, 0, none⟩ = some (.int .i64 f) := h.row.cell 0 _ rfl
theorem XI.c1 (h : XI w xb f Af nf cf Ak nk ck W) : W.cell? ⟨xb, 1, none⟩ = some (.slice Af nf cf) := h.row.cell 1 _ rfl
theorem XI.c2 (h : XI w xb f Af nf cf Ak nk ck W) : W.cell? ⟨xb, 2, none⟩ = some (.slice Ak nk ck) := h.row.cell 2 _ rfl
end
/-- the disk beside it -/
structure WI (w : World) (xb : Nat) (f : Int) (Af : Option Addr) (nf cf : Nat) (Ak : Option Addr) (nk ck : Nat) (d l m j : Nat) (s : Dk.St) (W : World) : Prop where
  x : XI w xb f Af nf cf Ak nk ck W
  disk : DiskAt W d l m s
  olds : ∀ x ∈ [d, l, m, j], w.heap.size ≤ x
  far : xb ∉ [d, l, m, j]
section
variable {w : World} {xb : Nat} {f : Int} {Af : Option Addr} {nf cf : Nat} {Ak : Option Addr} {nk ck : Nat} {d l m j : Nat} {s s' : Dk.St} {W W' : World}
theorem WI.call (h : WI w xb f Af nf cf Ak nk ck d l m j s W) (hb : Below W.heap.size W W') : WI w xb f Af nf cf Ak nk ck d l m j s W' := ⟨h.x.call hb, h.disk.below hb, h.olds, h.far⟩
theorem WI.step {L : List Nat} (h : WI w xb f Af nf cf Ak nk ck d l m j s W) (ho : Only L W W') (hL : ∀ x ∈ L, x ∈ [d, l, m, j]) (hd : DiskAt W' d l m s') : WI w xb f Af nf cf Ak nk ck d l m j s' W' :=
  ⟨h.x.only ho (fun e => h.far (hL _ e)) (fun x hx => h.olds x (hL x hx)), hd, h.olds, h.far⟩
theorem WI.keep (h : WI w xb f Af nf cf Ak nk ck d l m j s W) {A : Option Addr} {n c : Nat} {bs : List UInt8} (hb : ByteRow w A n c bs) (hn : n ≤ 1000) : KeepAt W A c bs [d, l, m] :=
  hb.keep hn h.x.below (fun k hk => h.olds k (by simp at hk ⊢; omega))
theorem WI.chgs (h : WI w xb f Af nf cf Ak nk ck d l m j s W) {A : Option Addr} {cs : List Chg} (hr : ChAt w A [] cs) : ChAt W A [d, l, m, j] cs := hr.arg h.x.below h.olds
end
/-- and what the pages were, and are to be -/
structure WR (w : World) (xb : Nat) (f : Int) (Af : Option Addr) (nf cf : Nat) (Ak : Option Addr) (nk ck : Nat) (d l m j Bw Ba : Nat) (X Y : List (List UInt8)) (s : Dk.St) (W : World) : Prop where
  i : WI w xb f Af nf cf Ak nk ck d l m j s W
  rw : RowsAt W Bw X
  ra : RowsAt W Ba Y
  lw : Bw < W.heap.size
  la : Ba < W.heap.size
  fw : Bw ∉ [d, l, m, j]
  fa : Ba ∉ [d, l, m, j]
  ne : Bw ≠ Ba
  oa : w.heap.size ≤ Ba
  xa : xb ≠ Ba
section
variable {w : World} {xb : Nat} {f : Int} {Af : Option Addr} {nf cf : Nat} {Ak : Option Addr} {nk ck : Nat} {d l m j Bw Ba : Nat} {X Y : List (List UInt8)} {s s' : Dk.St} {W W' : World}
theorem WR.call (h : WR w xb f Af nf cf Ak nk ck d l m j Bw Ba X Y s W) (hb : Below W.heap.size W W') : WR w xb f Af nf cf Ak nk ck d l m j Bw Ba X Y s W' :=
  ⟨h.i.call hb, h.rw.below hb h.lw, h.ra.below hb h.la, Nat.lt_of_lt_of_le h.lw hb.size, Nat.lt_of_lt_of_le h.la hb.size, h.fw, h.fa, h.ne, h.oa, h.xa⟩
theorem WR.step {L : List Nat} (h : WR w xb f Af nf cf Ak nk ck d l m j Bw Ba X Y s W) (ho : Only L W W') (hL : ∀ x ∈ L, x ∈ [d, l, m, j]) (hd : DiskAt W' d l m s') : WR w xb f Af nf cf Ak nk ck d l m j Bw Ba X Y s' W' :=
  ⟨h.i.step ho hL hd, h.rw.block (ho.block Bw h.lw (fun e => h.fw (hL _ e))), h.ra.block (ho.block Ba h.la (fun e => h.fa (hL _ e))), Nat.lt_of_lt_of_le h.lw ho.size, Nat.lt_of_lt_of_le h.la ho.size, h.fw, h.fa, h.ne, h.oa, h.xa⟩
theorem WR.put (h : WR w xb f Af nf cf Ak nk ck d l m j Bw Ba X Y s W) (i : Nat) (hi : i < Y.length) (p : List UInt8) (hp : p.length = 64) : WR w xb f Af nf cf Ak nk ck d l m j Bw Ba X (Y.set i p) s (W.setCells Ba (i * 64) (byteVals p)) := by
  have ho : Only [Ba] W (W.setCells Ba (i * 64) (byteVals p)) := Only.setCells Ba (by simp) _ _ _ (Only.refl _ _)
  have hf := h.fa
  simp at hf
  exact ⟨⟨h.i.x.only ho (by simp; exact h.xa) (by simp; exact h.oa), h.i.disk.only ho (by simp; omega) (by simp; omega) (by simp; omega), h.i.olds, h.i.far⟩, h.rw.block (ho.block Bw h.lw (by simp; exact h.ne)), h.ra.put i hi p hp, by rw [heap_setCells]; exact h.lw, by rw [heap_setCells]; exact h.la, h.fw, h.fa, h.ne, h.oa, h.xa⟩
end

set_option maxRecDepth 100000 in
set_option maxHeartbeats 8000000 in
theorem walk (w : World) (A1 : Option Addr) (n1 c1 : Nat) (cs1 : List Chg) (r1 : ChRow w A1 n1 cs1) (A2 : Option Addr) (n2 c2 : Nat) (cs2 : List Chg) (r2 : ChRow w A2 n2 cs2) (f : Int) (Af : Option Addr) (nf cf : Nat) (fs : List Int) (Ak : Option Addr) (nk ck : Nat) (ks : List Kp) (hf : -9223372036854775808 ≤ f ∧ f ≤ 9223372036854775807) (rf : IntRow w Af nf fs) (rk : KeepRow w Ak nk ks) :
    Calls Try.prog 3 #[.slice A1 n1 c1, .slice A2 n2 c2, .agg #[.int .i64 f, .slice Af nf cf, .slice Ak nk ck]] w fun e w' => e = .returned (.bool true) ∧ Below w.heap.size w w' := by
  have HX : Hid (XI w w.heap.size f Af nf cf Ak nk ck (w.alloc (.cells #[.int .i64 f, .slice Af nf cf, .slice Ak nk ck] 26))) := Lib.hid ⟨rowAt_new w [.int .i64 f, .slice Af nf cf, .slice Ak nk ck] 26, (Below.refl _ _).alloc (Nat.le_refl _) _, Nat.le_refl _⟩
  have R1 := Lib.hid r1
  have R2 := Lib.hid r2
  have RF := Lib.hid rf
  have RK := Lib.hid rk
  have HF := Lib.hid hf
  have m1 := r1.small
  have m2 := r2.small
  have m3 := rf.small
  have m4 := rk.small
  unfold maxLen at m1 m2 m3 m4
  clear r1 r2 rf rk hf
  go_enter Try.func3, Try.ntmps3
  go_wp2_with fail
  generalize w.alloc (.cells #[.int .i64 f, .slice Af nf cf, .slice Ak nk ck] 26) = w1 at HX ⊢
  generalize w.heap.size = xb at HX ⊢
  refine (awake_any _).mono ?_
  rintro e w2 ⟨rfl, hb2⟩
  have HX2 := Lib.hid (HX.out.call hb2)
  clear HX hb2
  go_wp2_with (first
    | ((with_reducible refine wpList_buildOp A1 n1 c1 rfl (.tmp 27) rfl (some 28) rfl ?_ ?_); (exact rfl))
    | ((with_reducible refine wpList_buildOp A2 n2 c2 rfl (.tmp 29) rfl (some 30) rfl ?_ ?_); (exact rfl))
    | ((with_reducible refine wpList_buildOps A1 A2 n1 c1 n2 c2 rfl (.tmp 28) (.tmp 30) rfl ?_ ?_ ?_); (exact rfl); (exact rfl)))
  have HG : Hid (Calls Try.prog 5 #[.slice (some ⟨w2.heap.size, 0, none⟩) 2 2, .int .i64 2] (w2.alloc (.cells (opVals A1 n1 c1 ++ opVals A2 n2 c2).toArray 33)) fun e w' => e = .returned (.bool (anyB [⟨A1, n1, c1⟩, ⟨A2, n2, c2⟩])) ∧ Below (w2.alloc (.cells (opVals A1 n1 c1 ++ opVals A2 n2 c2).toArray 33)).heap.size (w2.alloc (.cells (opVals A1 n1 c1 ++ opVals A2 n2 c2).toArray 33)) w') := Lib.hid (great_any w2.heap.size [⟨A1, n1, c1⟩, ⟨A2, n2, c2⟩] (by simp) (opsAt_new w2 ⟨A1, n1, c1⟩ ⟨A2, n2, c2⟩ 33) rfl (by
    intro y hy
    simp only [List.mem_cons, List.not_mem_nil, or_false] at hy
    rcases hy with rfl | rfl
    · exact R1.out.small
    · exact R2.out.small))
  have HX3 := Lib.hid (HX2.out.call (W' := w2.alloc (.cells (opVals A1 n1 c1 ++ opVals A2 n2 c2).toArray 33)) ((Below.refl _ _).alloc (Nat.le_refl _) _))
  clear HX2
  generalize w2.alloc (.cells (opVals A1 n1 c1 ++ opVals A2 n2 c2).toArray 33) = w3 at HG HX3 ⊢
  generalize w2.heap.size = gb at HG ⊢
  refine HG.out.mono ?_
  rintro e w4 ⟨rfl, hb4⟩
  have HX4 := Lib.hid (HX3.out.call hb4)
  clear HG HX3 hb4
  have x1 := HX4.out.c1
  have x2 := HX4.out.c2
  have HAB : Hid (anyB [⟨A1, n1, c1⟩, ⟨A2, n2, c2⟩] = false → n1 ≤ 60 ∧ n2 ≤ 60) := Lib.hid (fun h => by
    unfold anyB at h
    simp at h
    omega)
  cases hab : anyB [⟨A1, n1, c1⟩, ⟨A2, n2, c2⟩] with
  | true =>
    clear HAB hab
    go_wp2_with fail
    go_ret
    exact ⟨rfl, HX4.out.below⟩
  | false =>
    obtain ⟨n160, n260⟩ := HAB.out hab
    clear HAB hab
    by_cases hnf : 10 < nf
    · have hnf' : (10 : Int) < (nf : Int) := by omega
      go_wp2_with fail
      go_ret
      exact ⟨rfl, HX4.out.below⟩
    · have hnf' : ¬ (10 : Int) < (nf : Int) := by omega
      by_cases hnk : 10 < nk
      · have hnk' : (10 : Int) < (nk : Int) := by omega
        go_wp2_with fail
        go_ret
        exact ⟨rfl, HX4.out.below⟩
      · have hnk' : ¬ (10 : Int) < (nk : Int) := by omega
        go_wp2_with fail
        clear x1 x2
        go_loopw [48] (fun i wr => ∃ y : Nat, y ≤ nk ∧ i = .int .i64 y ∧ XI w xb f Af nf cf Ak nk ck wr ∧ ∀ (z : Nat) (k : Kp), ks[z]? = some k → z < y → k.n ≤ 600) (fun i _ => nk - (intOf i).toNat)
        case atStart => exact ⟨0, Nat.zero_le _, rfl, HX4.out, fun z k _ hz => by omega⟩
        case round =>
          obtain ⟨y, hy, rfl, hx5, hsm⟩ := hrel
          have HX5 := Lib.hid hx5
          have HSM := Lib.hid hsm
          clear hx5 hsm HX4
          by_cases hlt : y < nk
          · obtain ⟨b, off, rfl, hb, hc⟩ := RK.out.cells (by omega)
            obtain ⟨k, hk⟩ : ∃ k, ks[y]? = some k := ⟨_, List.getElem?_eq_getElem (by rw [RK.out.len]; exact hlt)⟩
            have hcell : wr.cell? ⟨b, off + y, none⟩ = some (.slice k.A k.n k.c) := (HX5.out.below.cell (p := ⟨b, off + y, none⟩) hb).trans (hc y k hk)
            have hkm := (RK.out.ok k (List.mem_of_getElem? hk)).small
            unfold maxLen at hkm
            have HK := Lib.hid hk
            clear hb hc hk
            by_cases h600 : 600 < k.n
            · have h600' : (600 : Int) < (k.n : Int) := by omega
              go_wp2_with fail
              go_ret
              exact ⟨rfl, HX5.out.below⟩
            · have h600' : ¬ (600 : Int) < (k.n : Int) := by omega
              go_wp2_with fail
              go_roundw
              case rel => exact ⟨y + 1, by omega, by go_num, HX5.out, fun z k' hz hlt' => by
                by_cases e : z = y
                · subst e
                  have := HK.out
                  rw [hz] at this
                  injection this with this
                  rw [this]; omega
                · exact HSM.out z k' hz (by omega)⟩
              case measure => simp [intOf]; omega
          · obtain rfl : y = nk := by omega
            have HKL : Hid (∀ k ∈ ks, k.n ≤ 600) := Lib.hid (fun k hk => by
              obtain ⟨i, hi, he⟩ := List.getElem_of_mem hk
              exact HSM.out i k (by rw [List.getElem?_eq_getElem hi, he]) (by rw [← RK.out.len]; exact hi))
            clear HSM hy hlt
            have HNW : Hid (∀ W : World, Calls Try.prog 6 #[.int .i64 60] W fun e w' => e = .returned (.tuple #[.pointer (some ⟨W.heap.size + 2, 0, none⟩), .int .i64 0]) ∧ w' = newWorld W 60) := Lib.hid (fun W => new_any 60 W (by omega) (by omega))
            go_wp2_with fail
            refine (HNW.out _).mono ?_
            rintro e w5 ⟨rfl, rfl⟩
            obtain ⟨s0, hcl0, hlim0, hlen0, hhead0, hop0⟩ := first_open (newWorld_disk wr 60 (by omega) (by omega)) (by omega) (by omega) (show 0 < 20 by omega) room20 (by omega) (show 2 + 20 ≤ 60 by omega)
            have HOP : Hid (Calls Try.prog 7 #[.pointer (some ⟨wr.heap.size + 2, 0, none⟩), .int .i64 2, .int .i64 20] (newWorld wr 60) fun e w' =>
                ∃ j, e = .returned (.tuple #[.pointer (some ⟨j, 0, none⟩), .int .i64 0, .int .i64 0]) ∧ DiskAt w' (wr.heap.size + 2) wr.heap.size (wr.heap.size + 1) s0 ∧ JAt w' j (wr.heap.size + 2) 2 20 1 false ∧ (newWorld wr 60).heap.size ≤ j ∧ Only [wr.heap.size + 2, wr.heap.size, wr.heap.size + 1] (newWorld wr 60) w') := Lib.hid hop0
            have HXN := Lib.hid (HX5.out.call (newWorld_below wr 60))
            have HNS := Lib.hid (newWorld_size wr 60)
            have HXL := Lib.hid HX5.out.row.lt
            have HWL := Lib.hid HX5.out.below.size
            clear hop0 HX5 HNW
            generalize newWorld wr 60 = w5 at HOP HXN HNS ⊢
            go_wp2_with fail
            refine HOP.out.mono ?_
            rintro e w6 ⟨j, rfl, hd6, hj6, hjn, ho6⟩
            have HW6 : Hid (WI w xb f Af nf cf Ak y ck (wr.heap.size + 2) wr.heap.size (wr.heap.size + 1) j s0 w6) := Lib.hid ⟨HXN.out.only ho6 (by have := HXL.out; simp; omega) (by have := HWL.out; simp; omega), hd6, by have := HWL.out; have := HNS.out; simp; omega, by have := HXL.out; have := HNS.out; simp; omega⟩
            have HJ6 := Lib.hid hj6
            have HJD : Hid (j ∉ [wr.heap.size + 2, wr.heap.size, wr.heap.size + 1]) := Lib.hid (by have := HNS.out; simp; omega)
            clear hd6 hj6 hjn ho6 HOP HXN HNS HXL HWL
            generalize wr.heap.size + 2 = d at HW6 HJ6 HJD ⊢
            generalize wr.heap.size + 1 = m at HW6 HJD
            generalize wr.heap.size = l at HW6 HJD
            have HC1 : Hid (Calls Try.prog 8 #[.pointer (some ⟨j, 0, none⟩), .slice A1 n1 c1] w6 fun e w' => ∃ E, e = .returned (.int .i64 E) ∧ Only [d, l, m, j] w6 w' ∧ (E = 0 → ∃ s1 q1, DiskAt w' d l m s1 ∧ Cl s1 ∧ s1.last.length = 60 ∧ s1.last.getD 2 [] = pageH (quietH q1) ∧ 0 ≤ q1 ∧ q1 ≤ 3 ∧ JAt w' j d 2 20 q1 false)) := Lib.hid (by
              have := commit_first HJ6.out HW6.out.disk HJD.out hcl0 hlen0 hhead0 A1 c1 (HW6.out.chgs R1.out.at') R1.out.pages (by rw [R1.out.len]; exact n160)
              rw [R1.out.len] at this
              exact this)
            clear hcl0 hlim0 hlen0 hhead0 HJ6
            go_wp2_with fail
            refine HC1.out.mono ?_
            rintro e w7 ⟨E, rfl, ho7, hE7⟩
            clear HC1
            by_cases hE : E = 0
            · obtain ⟨s1, q1, hd1, hcl1, hlen1, hhead1, hq10, hq13, hj1⟩ := hE7 hE
              have HW7 := Lib.hid (HW6.out.step ho7 (by simp) hd1)
              have HJ7 := Lib.hid hj1
              have HS1 : Hid (Cl s1 ∧ s1.last.length = 60 ∧ s1.last.getD 2 [] = pageH (quietH q1) ∧ 0 ≤ q1 ∧ q1 ≤ 3) := Lib.hid ⟨hcl1, hlen1, hhead1, hq10, hq13⟩
              clear hE7 hd1 hcl1 hlen1 hhead1 hq10 hq13 hj1 ho7 HW6
              subst hE
              have HPG := Lib.hid (pagesOf_any HW7.out.disk)
              go_wp2_with fail
              refine HPG.out.mono ?_
              rintro e w8 ⟨rfl, hb8⟩
              have HW8 := Lib.hid (HW7.out.call hb8)
              have HJ8 := Lib.hid (HJ7.out.below hb8)
              clear HPG HW7 HJ7 hb8
              have HXL := Lib.hid (pgs_length s1)
              have HXP := Lib.hid (pgs_pages HS1.out.1.ok)
              generalize hX : pgs s1 = X at HXL HXP ⊢
              have HX0 := Lib.hid hX
              clear hX
              have hz43 := rows_zero
              go_wp2_with (first
                | ((with_reducible refine wpList_store_newrows HXP.out HXL.out rfl (.tmp 14) (.tmp 85) rfl rfl ?_ zeroRow60 ?_); (exact rfl); intro w9 hr9 hb9 hz9; have HW9 := Lib.hid (HW8.out.call hb9); have HJ9 := Lib.hid (HJ8.out.below hb9); have HR9 := Lib.hid hr9; have HN9 : Hid (w8.heap.size < w9.heap.size ∧ w8.heap.size ∉ [d, l, m, j] ∧ w.heap.size ≤ w8.heap.size ∧ xb ≠ w8.heap.size) := Lib.hid (by have := HW8.out.disk.dlt; have := HW8.out.disk.llt; have := HW8.out.disk.mlt; have := HJ8.out.lt; have := HW8.out.x.row.lt; have := HW8.out.x.below.size; simp; omega); clear hr9 hb9 hz9 HW8 HJ8; generalize w8.heap.size = Bw at HR9 HN9 ⊢)
                | ((with_reducible refine wpList_load_rows HR9.out HXL.out rfl (.tmp 14) rfl ?_ ?_); (exact rfl))
                | ((with_reducible refine wpList_store_newrows HXP.out HXL.out rfl (.tmp 15) (.tmp 86) rfl rfl ?_ zeroRow60 ?_); (exact rfl); intro w10 hr10 hb10 hz10; have HJ10 := Lib.hid (HJ9.out.below hb10); have HW10 : Hid (WR w xb f Af nf cf Ak y ck d l m j Bw w9.heap.size X X s1 w10) := Lib.hid ⟨HW9.out.call hb10, HR9.out.below hb10 HN9.out.1, hr10, by have := HN9.out.1; omega, by omega, HN9.out.2.1, (by have := HW9.out.disk.dlt; have := HW9.out.disk.llt; have := HW9.out.disk.mlt; have := HJ9.out.lt; simp; omega), by have := HN9.out.1; omega, HW9.out.x.below.size, by have := HW9.out.x.row.lt; omega⟩; clear hr10 hb10 hz10 HW9 HJ9 HR9 HN9; generalize w9.heap.size = Ba at HW10 ⊢))
              have HJA : Hid (j ≠ Ba) := Lib.hid (fun e => HW10.out.fa (by simp [e]))
              go_loopw [89] (fun i wr => ∃ y2 : Nat, y2 ≤ n2 ∧ i = .int .i64 y2 ∧ WR w xb f Af nf cf Ak y ck d l m j Bw Ba X (updIn X (cs2.take y2)) s1 wr ∧ JAt wr j d 2 20 q1 false) (fun i _ => n2 - (intOf i).toNat)
              case atStart => exact ⟨0, Nat.zero_le _, rfl, HW10.out, HJ10.out⟩
              case round =>
                rename World => wq
                obtain ⟨y2, hy2, rfl, hwr, hjr⟩ := hrel
                have HW11 := Lib.hid hwr
                have HJ11 := Lib.hid hjr
                clear hwr hjr HW10 HJ10
                by_cases hlt2 : y2 < n2
                · obtain ⟨c, hc⟩ : ∃ c, cs2[y2]? = some c := ⟨_, List.getElem?_eq_getElem (by rw [R2.out.len]; exact hlt2)⟩
                  obtain ⟨b, off, rfl, hb, _, hcl⟩ := (R2.out.at'.below HW11.out.i.x.below) (by rw [R2.out.len]; omega)
                  have HCR := Lib.hid (hcl y2 c hc)
                  have HPL := Lib.hid (R2.out.pages c (List.mem_of_getElem? hc))
                  have HTK := Lib.hid (take_more cs2 y2 c hc)
                  have HUS := Lib.hid (updIn_snoc X (cs2.take y2) c)
                  rw [← HTK.out] at HUS
                  have HYL : Hid ((updIn X (cs2.take y2)).length = 60) := Lib.hid (by rw [updIn_length]; exact HXL.out)
                  clear hc hb hcl HTK
                  have hzc := zeroChg
                  by_cases hin : 0 ≤ c.no ∧ c.no < 60
                  · obtain ⟨kk, hkk⟩ : ∃ kk : Nat, c.no = (kk : Int) := ⟨c.no.toNat, by omega⟩
                    have hk60 : kk < 60 := by omega
                    have HT : Hid (updIn X (cs2.take (y2 + 1)) = (updIn X (cs2.take y2)).set kk c.page) := Lib.hid (by rw [HUS.out, if_pos hin, show c.no.toNat = kk by omega])
                    have HKL2 : Hid (kk < (updIn X (cs2.take y2)).length) := Lib.hid (by rw [HYL.out]; exact hk60)
                    have HNO := Lib.hid hkk
                    clear hin hkk HUS
                    go_wp2_with (first
                      | ((with_reducible refine wpList_load_chg HCR.out HPL.out rfl (.tmp 91) rfl ?_ ?_); (exact rfl))
                      | ((with_reducible refine wpList_store_newchg HPL.out rfl (.tmp 17) (.tmp 92) rfl rfl ?_ chgZero_size ?_); (exact rfl); intro w12 hP hb12 hz12; have HW12 := Lib.hid (HW11.out.call hb12); have HJ12 := Lib.hid (HJ11.out.below hb12); have v0 := ChVar.no hP; rw [HNO.out] at v0; have HV1 := Lib.hid (ChVar.page hP); clear HCR HW11 HJ11 hP hb12 hz12; generalize wq.heap.size = B at v0 HV1 ⊢)
                      | ((with_reducible refine wpList_load_at HV1.out HPL.out rfl (.tmp 103) rfl ?_ ?_); (exact rfl))
                      | ((with_reducible refine wpList_store_row HW12.out.ra kk HKL2.out HPL.out rfl (.tmp 105) (.tmp 104) rfl ?_ ?_ ?_); (exact rfl); (exact rfl)))
                    have HW13 := Lib.hid (HW12.out.put kk HKL2.out c.page HPL.out)
                    rw [← HT.out] at HW13
                    have HJ13 := Lib.hid (HJ12.out.only (L := [Ba]) (Only.setCells Ba (by simp) (byteVals c.page) (kk * 64) _ (Only.refl _ _)) (by simp; exact HJA.out))
                    go_roundw
                    case rel => exact ⟨y2 + 1, by omega, by go_num, HW13.out, HJ13.out⟩
                    case measure => simp [intOf]; omega
                  · have HT : Hid (updIn X (cs2.take (y2 + 1)) = updIn X (cs2.take y2)) := Lib.hid (by rw [HUS.out, if_neg hin])
                    clear HUS
                    by_cases hin2 : 0 ≤ c.no
                    · have hin3 : ¬ c.no < 60 := fun e => hin ⟨hin2, e⟩
                      clear hin
                      go_wp2_with (first
                        | ((with_reducible refine wpList_load_chg HCR.out HPL.out rfl (.tmp 91) rfl ?_ ?_); (exact rfl))
                        | ((with_reducible refine wpList_store_newchg HPL.out rfl (.tmp 17) (.tmp 92) rfl rfl ?_ chgZero_size ?_); (exact rfl); intro w12 hP hb12 hz12; have HW12 := Lib.hid (HW11.out.call hb12); have HJ12 := Lib.hid (HJ11.out.below hb12); have v0 := ChVar.no hP; clear HCR HW11 HJ11 hP hb12 hz12; generalize wq.heap.size = B at v0 ⊢))
                      go_roundw
                      case rel => exact ⟨y2 + 1, by omega, by go_num, by rw [HT.out]; exact HW12.out, HJ12.out⟩
                      case measure => simp [intOf]; omega
                    · clear hin
                      go_wp2_with (first
                        | ((with_reducible refine wpList_load_chg HCR.out HPL.out rfl (.tmp 91) rfl ?_ ?_); (exact rfl))
                        | ((with_reducible refine wpList_store_newchg HPL.out rfl (.tmp 17) (.tmp 92) rfl rfl ?_ chgZero_size ?_); (exact rfl); intro w12 hP hb12 hz12; have HW12 := Lib.hid (HW11.out.call hb12); have HJ12 := Lib.hid (HJ11.out.below hb12); have v0 := ChVar.no hP; clear HCR HW11 HJ11 hP hb12 hz12; generalize wq.heap.size = B at v0 ⊢))
                      go_roundw
                      case rel => exact ⟨y2 + 1, by omega, by go_num, by rw [HT.out]; exact HW12.out, HJ12.out⟩
                      case measure => simp [intOf]; omega
                · obtain rfl : y2 = n2 := by omega
                  have HTK : Hid (cs2.take y2 = cs2) := Lib.hid (List.take_of_length_le (by rw [R2.out.len]; omega))
                  rw [HTK.out] at HW11
                  have HYL : Hid ((updIn X cs2).length = 60) := Lib.hid (by rw [updIn_length]; exact HXL.out)
                  have HYP := Lib.hid (updIn_pages cs2 R2.out.pages X HXP.out)
                  generalize hY : updIn X cs2 = Y at HW11 HYL HYP
                  have HY0 := Lib.hid hY
                  clear hY HTK hy2 hlt2
                  have x0 := HW11.out.i.x.c0
                  have HFU := Lib.hid (fuse_any HW11.out.i.disk f HF.out.1 HF.out.2)
                  have HS2 : Hid (Cl (Dk.fuse s1 f) ∧ (Dk.fuse s1 f).last = s1.last) := Lib.hid ⟨Jn.fuse_cl HS1.out.1 f HF.out.1 HF.out.2, rfl⟩
                  have HP2 := Lib.hid (pgs_fuse s1 f)
                  go_wp2_with fail
                  refine HFU.out.mono ?_
                  rintro e w12 ⟨rfl, hd12, ho12, hz12⟩
                  have HW12 := Lib.hid (HW11.out.step ho12 (by simp) hd12)
                  have HJ12 := Lib.hid (HJ11.out.only ho12 (by have := HJD.out; simp at this ⊢; omega))
                  clear HFU HW11 HJ11 hd12 ho12 hz12 x0
                  generalize Dk.fuse s1 f = s2 at HW12 HS2 HP2
                  have HC2 : Hid (Calls Try.prog 8 #[.pointer (some ⟨j, 0, none⟩), .slice A2 y2 c2] w12 fun e w' => ∃ E s3, e = .returned (.int .i64 E) ∧ Only [d, l, m, j] w12 w' ∧ DiskAt w' d l m s3 ∧ s3.last.length = 60 ∧
                      (((E = 22 ∨ E = 28) ∧ s3 = s2) ∨ ((E = 0 ∨ E = 5) ∧ (∀ c ∈ cs2, (0 ≤ c.no ∧ c.no < 60) ∧ (c.no.toNat < 2 ∨ 22 ≤ c.no.toNat)) ∧ y2 ≤ 18 ∧ ∀ keep, Good (E == 0) 2 20 5 cs2 s2.last (Dk.crash s3 keep).last))) := Lib.hid (by
                    have := commit_second HJ12.out HW12.out.i.disk HJD.out HS2.out.1 (by rw [HS2.out.2]; exact HS1.out.2.1) (by rw [HS2.out.2]; exact HS1.out.2.2.1) HS1.out.2.2.2.1 HS1.out.2.2.2.2 A2 c2 (HW12.out.i.chgs R2.out.at') R2.out.pages (by rw [R2.out.len]; exact n260)
                    rw [R2.out.len] at this
                    exact this)
                  go_wp2_with fail
                  refine HC2.out.mono ?_
                  rintro e w13 ⟨E, s3, rfl, ho13, hd13, hl13, hE⟩
                  have HW13 := Lib.hid (HW12.out.step ho13 (by simp) hd13)
                  clear HC2 HW12 HJ12 ho13 hd13
                  rcases hE with ⟨hE, rfl⟩ | ⟨hE, hall, h18, hgood⟩
                  · have HPG := Lib.hid (fun (W : World) (hW : DiskAt W d l m s3) => pagesOf_any hW)
                    rw [HP2.out, HX0.out] at HPG
                    have E1 := fun (x y : Operand) (w : World) => run_eqGuard_rows w x y X X
                    have E2 : ∀ w : World, (binOp .eql 43 (rowsV X) (rowsV X)).run Try.prog w = .ok (.bool true) w := fun w => by rw [run_eql_rows w X X HXL.out HXL.out HXP.out HXP.out]; simp
                    rcases hE with rfl | rfl
                    · go_wp2_with fail
                      refine wp_region_noPanic ?_
                      refine wp_region_held_drew (S := fun W => RowsAt W Bw X) (by kernel_rfl) (HW13.out.rw.block rfl) (fun hHeld => ?_)
                      have HW14 := Lib.hid (HW13.out.call (Below.refl _ _).drew)
                      clear HW13
                      generalize w13.drew = w14 at HW14 hHeld ⊢
                      refine take_at (i := 0) (d := some 120) (v := .pointer (some ⟨d, 0, none⟩)) rfl rfl (by kernel_rfl) (by kernel_rfl) (by kernel_rfl) (fun _ _ _ h => h) (Or.inl ⟨by kernel_rfl, ?_⟩) hHeld ?_
                      · intro w hSw; go_simp
                      (try simp only [Act.put, List.setIfInBounds_toArray, List.set_cons_zero, List.set_cons_succ])
                      refine take_at (i := 2) (d := some 122) (v := rowsV X) rfl rfl (by kernel_rfl) (by kernel_rfl) (by kernel_rfl) (fun _ _ _ h => h) (yields_rows (by kernel_rfl) (.tmp 14) rfl rfl HXL.out (fun _ hSw => hSw)) hHeld ?_
                      (try simp only [Act.put, List.setIfInBounds_toArray, List.set_cons_zero, List.set_cons_succ])
                      refine wpAnyH_ready (rs := [1]) (by kernel_rfl) (by simp) ?_
                      refine AllReadyH.cons rfl (fun K hK => ?_) AllReadyH.nil
                      go_simp
                      (go_at_call 9; refine (HPG.out _ HW14.out.i.disk).mono ?_; rintro e w15 ⟨rfl, hb15⟩; have HW15 := Lib.hid (HW14.out.call hb15); clear hb15)
                      (try go_wp2_with fail)
                      refine hK.out _ _ HW15.out.rw (fun hHeld => ?_)
                      clear hK K
                      (try simp only [Act.put, List.setIfInBounds_toArray, List.set_cons_zero, List.set_cons_succ])
                      refine take_at (i := 3) (d := some 123) (v := .bool true) rfl rfl (by kernel_rfl) (by kernel_rfl) (by kernel_rfl) (fun _ _ _ h => h) (Or.inl ⟨by kernel_rfl, ?_⟩) hHeld ?_
                      · intro w hSw; go_simp
                      (try simp only [Act.put, List.setIfInBounds_toArray, List.set_cons_zero, List.set_cons_succ])
                      refine take_at (i := 4) (d := some 6) (v := .bool true) rfl rfl (by kernel_rfl) (by kernel_rfl) (by kernel_rfl) (fun _ _ _ h => h) (Or.inl ⟨by kernel_rfl, ?_⟩) hHeld ?_
                      · intro w hSw; go_simp
                      (try simp only [Act.put, List.setIfInBounds_toArray, List.set_cons_zero, List.set_cons_succ])
                      refine wpAnyH_done (by kernel_rfl) ?_ _
                      refine NoPanic.normal ?_
                      go_wp2_with fail
                      go_ret
                      exact ⟨rfl, HW15.out.i.x.below⟩
                    · go_wp2_with fail
                      refine wp_region_noPanic ?_
                      refine wp_region_held_drew (S := fun W => RowsAt W Bw X) (by kernel_rfl) (HW13.out.rw.block rfl) (fun hHeld => ?_)
                      have HW14 := Lib.hid (HW13.out.call (Below.refl _ _).drew)
                      clear HW13
                      generalize w13.drew = w14 at HW14 hHeld ⊢
                      refine take_at (i := 0) (d := some 120) (v := .pointer (some ⟨d, 0, none⟩)) rfl rfl (by kernel_rfl) (by kernel_rfl) (by kernel_rfl) (fun _ _ _ h => h) (Or.inl ⟨by kernel_rfl, ?_⟩) hHeld ?_
                      · intro w hSw; go_simp
                      (try simp only [Act.put, List.setIfInBounds_toArray, List.set_cons_zero, List.set_cons_succ])
                      refine take_at (i := 2) (d := some 122) (v := rowsV X) rfl rfl (by kernel_rfl) (by kernel_rfl) (by kernel_rfl) (fun _ _ _ h => h) (yields_rows (by kernel_rfl) (.tmp 14) rfl rfl HXL.out (fun _ hSw => hSw)) hHeld ?_
                      (try simp only [Act.put, List.setIfInBounds_toArray, List.set_cons_zero, List.set_cons_succ])
                      refine wpAnyH_ready (rs := [1]) (by kernel_rfl) (by simp) ?_
                      refine AllReadyH.cons rfl (fun K hK => ?_) AllReadyH.nil
                      go_simp
                      (go_at_call 9; refine (HPG.out _ HW14.out.i.disk).mono ?_; rintro e w15 ⟨rfl, hb15⟩; have HW15 := Lib.hid (HW14.out.call hb15); clear hb15)
                      (try go_wp2_with fail)
                      refine hK.out _ _ HW15.out.rw (fun hHeld => ?_)
                      clear hK K
                      (try simp only [Act.put, List.setIfInBounds_toArray, List.set_cons_zero, List.set_cons_succ])
                      refine take_at (i := 3) (d := some 123) (v := .bool true) rfl rfl (by kernel_rfl) (by kernel_rfl) (by kernel_rfl) (fun _ _ _ h => h) (Or.inl ⟨by kernel_rfl, ?_⟩) hHeld ?_
                      · intro w hSw; go_simp
                      (try simp only [Act.put, List.setIfInBounds_toArray, List.set_cons_zero, List.set_cons_succ])
                      refine take_at (i := 4) (d := some 6) (v := .bool true) rfl rfl (by kernel_rfl) (by kernel_rfl) (by kernel_rfl) (fun _ _ _ h => h) (Or.inl ⟨by kernel_rfl, ?_⟩) hHeld ?_
                      · intro w hSw; go_simp
                      (try simp only [Act.put, List.setIfInBounds_toArray, List.set_cons_zero, List.set_cons_succ])
                      refine wpAnyH_done (by kernel_rfl) ?_ _
                      refine NoPanic.normal ?_
                      go_wp2_with fail
                      go_ret
                      exact ⟨rfl, HW15.out.i.x.below⟩
                  · have HAL := Lib.hid hall
                    have H18 : Hid (cs2.length ≤ 18) := Lib.hid (by rw [R2.out.len]; exact h18)
                    have HG0 : Hid (s3.last.length = 60 ∧ ∀ keep, Good (E == 0) 2 20 5 cs2 s2.last (Dk.crash s3 keep).last) := Lib.hid ⟨hl13, hgood⟩
                    have e22 : (E == 22) = false := by rw [beq_eq_false_iff_ne]; omega
                    have e28 : (E == 28) = false := by rw [beq_eq_false_iff_ne]; omega
                    clear hall hgood hl13
                    go_wp2_with fail
                    clear e22 e28
                    go_loopw [19] (fun i wr => ∃ (x : Nat) (s : Dk.St), x ≤ nf ∧ i = .int .i64 x ∧ WR w xb f Af nf cf Ak y ck d l m j Bw Ba X Y s wr ∧ s.last.length = 60 ∧ ∀ keep, Good (E == 0) 2 20 (5 + (x : Int)) cs2 s2.last (Dk.crash s keep).last) (fun i _ => nf + 1 - (intOf i).toNat)
                    case atStart => exact ⟨0, s3, Nat.zero_le _, rfl, HW13.out, HG0.out.1, by simpa using HG0.out.2⟩
                    case round =>
                      rename World => wv
                      obtain ⟨x, s, hx, rfl, hwr, hlen, hgd⟩ := hrel
                      have HW15 := Lib.hid hwr
                      have HGD : Hid (s.last.length = 60 ∧ ∀ keep, Good (E == 0) 2 20 (5 + (x : Int)) cs2 s2.last (Dk.crash s keep).last) := Lib.hid ⟨hlen, hgd⟩
                      clear hwr hlen hgd HW13 HG0
                      have y2' := HW15.out.i.x.c2
                      by_cases hxk : x < y
                      · have hxk' : (x : Int) < (y : Int) := by omega
                        obtain ⟨bk, ok, rfl, hbk, hck⟩ := RK.out.cells (by omega)
                        obtain ⟨k, hk⟩ : ∃ k, ks[x]? = some k := ⟨_, List.getElem?_eq_getElem (by rw [RK.out.len]; exact hxk)⟩
                        have hcell : wv.cell? ⟨bk, ok + x, none⟩ = some (.slice k.A k.n k.c) := (HW15.out.i.x.below.cell (p := ⟨bk, ok + x, none⟩) hbk).trans (hck x k hk)
                        have HKM := Lib.hid (List.mem_of_getElem? hk)
                        have HCR : Hid (Calls Try.prog 11 #[.pointer (some ⟨d, 0, none⟩), .slice k.A k.n k.c] wv fun e w' => e = .returned (.tuple #[]) ∧ DiskAt w' d l m (Dk.crash s k.bs) ∧ Only [d, l, m] wv w') := Lib.hid (by
                          have hrow := RK.out.ok k HKM.out
                          have h600 := HKL.out k HKM.out
                          have := crash_any HW15.out.i.disk k.A k.c k.bs (HW15.out.i.keep hrow (by omega))
                          rw [hrow.len] at this
                          exact this)
                        clear hbk hck hk
                        go_wp2_with fail
                        clear hcell y2'
                        refine HCR.out.mono ?_
                        rintro e w16 ⟨rfl, hd16, ho16⟩
                        have HW16 := Lib.hid (HW15.out.step ho16 (by simp) hd16)
                        have HC4 : Hid (Cl (Dk.crash s k.bs) ∧ (Dk.crash s k.bs).last.length = 60 ∧ Good (E == 0) 2 20 (5 + (x : Int)) cs2 s2.last (Dk.crash s k.bs).last ∧ (Dk.crash s k.bs).lim = false) := Lib.hid ⟨Jn.crash_cl HW15.out.i.disk.ok _, by rw [Dk.crash_len]; exact HGD.out.1, HGD.out.2 _, rfl⟩
                        clear HCR HW15 HGD hd16 ho16
                        generalize Dk.crash s k.bs = s4 at HW16 HC4
                        have y1 := HW16.out.i.x.c1
                        by_cases hxf : x < nf
                        · have hxf' : (x : Int) < (nf : Int) := by omega
                          obtain ⟨bf, of, rfl, hbf, hcf⟩ := RF.out.cells (by omega)
                          obtain ⟨fx, hfx⟩ : ∃ fx, fs[x]? = some fx := ⟨_, List.getElem?_eq_getElem (by rw [RF.out.len]; exact hxf)⟩
                          have hcell2 : w16.cell? ⟨bf, of + x, none⟩ = some (.int .i64 fx) := (HW16.out.i.x.below.cell (p := ⟨bf, of + x, none⟩) hbf).trans (hcf x fx hfx)
                          have HFX := Lib.hid (RF.out.ok fx (List.mem_of_getElem? hfx))
                          have HFU := Lib.hid (fuse_any HW16.out.i.disk fx HFX.out.1 HFX.out.2)
                          clear hbf hcf hfx
                          go_wp2_with fail
                          refine HFU.out.mono ?_
                          rintro e w17 ⟨rfl, hd17, ho17, hz17⟩
                          have HW17 := Lib.hid (HW16.out.step ho17 (by simp) hd17)
                          have HC5 : Hid (Cl (Dk.fuse s4 fx) ∧ (Dk.fuse s4 fx).last.length = 60 ∧ Good (E == 0) 2 20 (5 + (x : Int)) cs2 s2.last (Dk.fuse s4 fx).last) := Lib.hid ⟨Jn.fuse_cl HC4.out.1 fx HFX.out.1 HFX.out.2, HC4.out.2.1, HC4.out.2.2.1⟩
                          clear HFU HW16 HC4 hd17 ho17 hz17 hcell2 y1
                          generalize Dk.fuse s4 fx = s5 at HW17 HC5
                          go_wp2_with fail
                          refine (open_again HW17.out.i.disk HC5.out.1 HC5.out.2.1 HC5.out.2.2 (by omega) (by omega) H18.out).mono ?_
                          rintro e w18 ⟨R, v18, cnt, E2, rfl, hd18, ho18, hl18, hE2⟩
                          have HWN := Lib.hid (HW17.out.step ho18 (by simp) hd18)
                          clear HW17 hd18 ho18
                          rcases hE2 with ⟨rfl, hR1, hR2⟩ | ⟨rfl, hR1, hR2⟩
                          · have HFN : Hid (Cl R ∧ R.last.length = 60 ∧ Fine (E == 0) 2 20 cs2 s2.last R.last) := Lib.hid ⟨hR1, hl18, hR2⟩
                            clear hR1 hR2 hl18
                            have HII : Hid ((E ≠ 0 ∧ pgs R = X) ∨ pgs R = Y) := Lib.hid (by
                              rcases HFN.out.2.2 with ⟨h1, h2⟩ | h2
                              · left
                                refine ⟨(fun e => by rw [e] at h1; simp at h1), ?_⟩
                                rw [pgs_same HFN.out.1 HS2.out.1 HFN.out.2.1 (by rw [HS2.out.2]; exact HS1.out.2.1) h2, HP2.out, HX0.out]
                              · right
                                rw [pgs_upd HS2.out.1 HFN.out.1 (by rw [HS2.out.2]; exact HS1.out.2.1) HFN.out.2.1 (fun c hc => (HAL.out c hc).2) h2, HP2.out, HX0.out, ← updIn_upd cs2 (fun c hc => (HAL.out c hc).1), HY0.out])
                            have HPG := Lib.hid (pagesOf_any HWN.out.i.disk)
                            have HIP := Lib.hid (pgs_pages HFN.out.1.ok)
                            have HIL := Lib.hid (pgs_length R)
                            generalize pgs R = I at HII HPG HIP HIL
                            have hz43 := rows_zero
                            go_wp2_with fail
                            refine HPG.out.mono ?_
                            rintro e w20 ⟨rfl, hb20⟩
                            have HW20 := Lib.hid (HWN.out.call hb20)
                            clear HPG HWN hb20
                            have EG := fun (x y : Operand) (w : World) (p q : List (List UInt8)) => run_eqGuard_rows w x y p q
                            have EYY : ∀ w : World, (binOp .eql 43 (rowsV Y) (rowsV Y)).run Try.prog w = .ok (.bool true) w := fun w => by rw [run_eql_rows w Y Y HYL.out HYL.out HYP.out HYP.out]; simp
                            have EXX : ∀ w : World, (binOp .eql 43 (rowsV X) (rowsV X)).run Try.prog w = .ok (.bool true) w := fun w => by rw [run_eql_rows w X X HXL.out HXL.out HXP.out HXP.out]; simp
                            by_cases hIX : E ≠ 0 ∧ I = X
                            · obtain ⟨hE0, rfl⟩ := hIX
                              obtain rfl : E = 5 := by rcases hE with e | e; exact absurd e hE0; exact e
                              clear HII hE hE0
                              go_wp2_with (first
                                | ((with_reducible refine wpList_store_newrows HIP.out HIL.out rfl (.tmp 24) (.tmp 169) rfl rfl ?_ zeroRow60 ?_); (exact rfl); intro w21 hr21 hb21 hz21; have HW21 := Lib.hid (HW20.out.call hb21); have HR21 := Lib.hid hr21; clear hr21 hb21 hz21 HW20; generalize w20.heap.size = Bi at HR21 ⊢)
                                | ((with_reducible refine wpList_load_rowsG HR21.out HIL.out (.tmp 24) rfl ?_ ?_ ?_); (exact rfl); (exact rfl))
                                | ((with_reducible refine wpList_load_rowsG HW21.out.rw HXL.out (.tmp 14) rfl ?_ ?_ ?_); (exact rfl); (exact rfl))
                                | ((with_reducible refine wpList_load_rowsG HW21.out.ra HYL.out (.tmp 15) rfl ?_ ?_ ?_); (exact rfl); (exact rfl)))
                              go_ret
                              exact ⟨rfl, HW21.out.i.x.below⟩
                            · have hIY : I = Y := by rcases HII.out with e | e; exact absurd e hIX; exact e
                              clear HII
                              by_cases hE0 : E = 0
                              · subst hE0
                                subst hIY
                                clear hIX hE
                                go_wp2_with (first
                                  | ((with_reducible refine wpList_store_newrows HIP.out HIL.out rfl (.tmp 24) (.tmp 169) rfl rfl ?_ zeroRow60 ?_); (exact rfl); intro w21 hr21 hb21 hz21; have HW21 := Lib.hid (HW20.out.call hb21); have HR21 := Lib.hid hr21; clear hr21 hb21 hz21 HW20; generalize w20.heap.size = Bi at HR21 ⊢)
                                  | ((with_reducible refine wpList_load_rowsG HR21.out HIL.out (.tmp 24) rfl ?_ ?_ ?_); (exact rfl); (exact rfl))
                                  | ((with_reducible refine wpList_load_rowsG HW21.out.rw HXL.out (.tmp 14) rfl ?_ ?_ ?_); (exact rfl); (exact rfl))
                                  | ((with_reducible refine wpList_load_rowsG HW21.out.ra HYL.out (.tmp 15) rfl ?_ ?_ ?_); (exact rfl); (exact rfl)))
                                go_ret
                                exact ⟨rfl, HW21.out.i.x.below⟩
                              · obtain rfl : E = 5 := by rcases hE with e | e; exact absurd e hE0; exact e
                                subst hIY
                                have hne : I ≠ X := fun e => hIX ⟨hE0, e⟩
                                have EYX : ∀ w : World, (binOp .eql 43 (rowsV I) (rowsV X)).run Try.prog w = .ok (.bool false) w := fun w => by rw [run_eql_rows w I X HIL.out HXL.out HIP.out HXP.out, decide_eq_false hne]
                                clear hIX hE hE0 hne
                                go_wp2_with (first
                                  | ((with_reducible refine wpList_store_newrows HIP.out HIL.out rfl (.tmp 24) (.tmp 169) rfl rfl ?_ zeroRow60 ?_); (exact rfl); intro w21 hr21 hb21 hz21; have HW21 := Lib.hid (HW20.out.call hb21); have HR21 := Lib.hid hr21; clear hr21 hb21 hz21 HW20; generalize w20.heap.size = Bi at HR21 ⊢)
                                  | ((with_reducible refine wpList_load_rowsG HR21.out HIL.out (.tmp 24) rfl ?_ ?_ ?_); (exact rfl); (exact rfl))
                                  | ((with_reducible refine wpList_load_rowsG HW21.out.rw HXL.out (.tmp 14) rfl ?_ ?_ ?_); (exact rfl); (exact rfl))
                                  | ((with_reducible refine wpList_load_rowsG HW21.out.ra HYL.out (.tmp 15) rfl ?_ ?_ ?_); (exact rfl); (exact rfl)))
                                go_ret
                                exact ⟨rfl, HW21.out.i.x.below⟩
                          · have HGN : Hid (R.last.length = 60 ∧ ∀ keep, Good (E == 0) 2 20 (5 + ((x + 1 : Nat) : Int)) cs2 s2.last (Dk.crash R keep).last) := Lib.hid ⟨hl18, fun keep => by have := hR2 keep; rw [show (5 : Int) + ((x + 1 : Nat) : Int) = 5 + (x : Int) + 1 by omega]; exact this⟩
                            clear hR1 hR2 hl18
                            have y1 := HWN.out.i.x.c1
                            go_wp2_with fail
                            go_roundw
                            case rel => exact ⟨x + 1, R, by omega, by go_num, HWN.out, HGN.out.1, HGN.out.2⟩
                            case measure => simp [intOf]; omega
                        · have hxf' : ¬ (x : Int) < (nf : Int) := by omega
                          have HW17 := HW16
                          have HC5 : Hid (Cl s4 ∧ s4.last.length = 60 ∧ Good (E == 0) 2 20 (5 + (x : Int)) cs2 s2.last s4.last) := Lib.hid ⟨HC4.out.1, HC4.out.2.1, HC4.out.2.2.1⟩
                          have HLM : Hid (s4.lim = false) := Lib.hid HC4.out.2.2.2
                          clear HW16 HC4
                          go_wp2_with fail
                          clear y1
                          refine (open_again HW17.out.i.disk HC5.out.1 HC5.out.2.1 HC5.out.2.2 (by omega) (by omega) H18.out).mono ?_
                          rintro e w18 ⟨R, v18, cnt, E2, rfl, hd18, ho18, hl18, hE2⟩
                          have HWN := Lib.hid (HW17.out.step ho18 (by simp) hd18)
                          clear HW17 hd18 ho18
                          rcases hE2 with ⟨rfl, hR1, hR2⟩ | ⟨rfl, hR1, hR2⟩
                          · have HFN : Hid (Cl R ∧ R.last.length = 60 ∧ Fine (E == 0) 2 20 cs2 s2.last R.last) := Lib.hid ⟨hR1, hl18, hR2⟩
                            clear hR1 hR2 hl18
                            have HII : Hid ((E ≠ 0 ∧ pgs R = X) ∨ pgs R = Y) := Lib.hid (by
                              rcases HFN.out.2.2 with ⟨h1, h2⟩ | h2
                              · left
                                refine ⟨(fun e => by rw [e] at h1; simp at h1), ?_⟩
                                rw [pgs_same HFN.out.1 HS2.out.1 HFN.out.2.1 (by rw [HS2.out.2]; exact HS1.out.2.1) h2, HP2.out, HX0.out]
                              · right
                                rw [pgs_upd HS2.out.1 HFN.out.1 (by rw [HS2.out.2]; exact HS1.out.2.1) HFN.out.2.1 (fun c hc => (HAL.out c hc).2) h2, HP2.out, HX0.out, ← updIn_upd cs2 (fun c hc => (HAL.out c hc).1), HY0.out])
                            have HPG := Lib.hid (pagesOf_any HWN.out.i.disk)
                            have HIP := Lib.hid (pgs_pages HFN.out.1.ok)
                            have HIL := Lib.hid (pgs_length R)
                            generalize pgs R = I at HII HPG HIP HIL
                            have hz43 := rows_zero
                            go_wp2_with fail
                            refine HPG.out.mono ?_
                            rintro e w20 ⟨rfl, hb20⟩
                            have HW20 := Lib.hid (HWN.out.call hb20)
                            clear HPG HWN hb20
                            have EG := fun (x y : Operand) (w : World) (p q : List (List UInt8)) => run_eqGuard_rows w x y p q
                            have EYY : ∀ w : World, (binOp .eql 43 (rowsV Y) (rowsV Y)).run Try.prog w = .ok (.bool true) w := fun w => by rw [run_eql_rows w Y Y HYL.out HYL.out HYP.out HYP.out]; simp
                            have EXX : ∀ w : World, (binOp .eql 43 (rowsV X) (rowsV X)).run Try.prog w = .ok (.bool true) w := fun w => by rw [run_eql_rows w X X HXL.out HXL.out HXP.out HXP.out]; simp
                            by_cases hIX : E ≠ 0 ∧ I = X
                            · obtain ⟨hE0, rfl⟩ := hIX
                              obtain rfl : E = 5 := by rcases hE with e | e; exact absurd e hE0; exact e
                              clear HII hE hE0
                              go_wp2_with (first
                                | ((with_reducible refine wpList_store_newrows HIP.out HIL.out rfl (.tmp 24) (.tmp 169) rfl rfl ?_ zeroRow60 ?_); (exact rfl); intro w21 hr21 hb21 hz21; have HW21 := Lib.hid (HW20.out.call hb21); have HR21 := Lib.hid hr21; clear hr21 hb21 hz21 HW20; generalize w20.heap.size = Bi at HR21 ⊢)
                                | ((with_reducible refine wpList_load_rowsG HR21.out HIL.out (.tmp 24) rfl ?_ ?_ ?_); (exact rfl); (exact rfl))
                                | ((with_reducible refine wpList_load_rowsG HW21.out.rw HXL.out (.tmp 14) rfl ?_ ?_ ?_); (exact rfl); (exact rfl))
                                | ((with_reducible refine wpList_load_rowsG HW21.out.ra HYL.out (.tmp 15) rfl ?_ ?_ ?_); (exact rfl); (exact rfl)))
                              go_ret
                              exact ⟨rfl, HW21.out.i.x.below⟩
                            · have hIY : I = Y := by rcases HII.out with e | e; exact absurd e hIX; exact e
                              clear HII
                              by_cases hE0 : E = 0
                              · subst hE0
                                subst hIY
                                clear hIX hE
                                go_wp2_with (first
                                  | ((with_reducible refine wpList_store_newrows HIP.out HIL.out rfl (.tmp 24) (.tmp 169) rfl rfl ?_ zeroRow60 ?_); (exact rfl); intro w21 hr21 hb21 hz21; have HW21 := Lib.hid (HW20.out.call hb21); have HR21 := Lib.hid hr21; clear hr21 hb21 hz21 HW20; generalize w20.heap.size = Bi at HR21 ⊢)
                                  | ((with_reducible refine wpList_load_rowsG HR21.out HIL.out (.tmp 24) rfl ?_ ?_ ?_); (exact rfl); (exact rfl))
                                  | ((with_reducible refine wpList_load_rowsG HW21.out.rw HXL.out (.tmp 14) rfl ?_ ?_ ?_); (exact rfl); (exact rfl))
                                  | ((with_reducible refine wpList_load_rowsG HW21.out.ra HYL.out (.tmp 15) rfl ?_ ?_ ?_); (exact rfl); (exact rfl)))
                                go_ret
                                exact ⟨rfl, HW21.out.i.x.below⟩
                              · obtain rfl : E = 5 := by rcases hE with e | e; exact absurd e hE0; exact e
                                subst hIY
                                have hne : I ≠ X := fun e => hIX ⟨hE0, e⟩
                                have EYX : ∀ w : World, (binOp .eql 43 (rowsV I) (rowsV X)).run Try.prog w = .ok (.bool false) w := fun w => by rw [run_eql_rows w I X HIL.out HXL.out HIP.out HXP.out, decide_eq_false hne]
                                clear hIX hE hE0 hne
                                go_wp2_with (first
                                  | ((with_reducible refine wpList_store_newrows HIP.out HIL.out rfl (.tmp 24) (.tmp 169) rfl rfl ?_ zeroRow60 ?_); (exact rfl); intro w21 hr21 hb21 hz21; have HW21 := Lib.hid (HW20.out.call hb21); have HR21 := Lib.hid hr21; clear hr21 hb21 hz21 HW20; generalize w20.heap.size = Bi at HR21 ⊢)
                                  | ((with_reducible refine wpList_load_rowsG HR21.out HIL.out (.tmp 24) rfl ?_ ?_ ?_); (exact rfl); (exact rfl))
                                  | ((with_reducible refine wpList_load_rowsG HW21.out.rw HXL.out (.tmp 14) rfl ?_ ?_ ?_); (exact rfl); (exact rfl))
                                  | ((with_reducible refine wpList_load_rowsG HW21.out.ra HYL.out (.tmp 15) rfl ?_ ?_ ?_); (exact rfl); (exact rfl)))
                                go_ret
                                exact ⟨rfl, HW21.out.i.x.below⟩
                          · rw [HLM.out] at hR1
                            cases hR1
                      · have hxk' : ¬ (x : Int) < (y : Int) := by omega
                        have HCR : Hid (Calls Try.prog 11 #[.pointer (some ⟨d, 0, none⟩), .slice none 0 0] wv fun e w' => e = .returned (.tuple #[]) ∧ DiskAt w' d l m (Dk.crash s []) ∧ Only [d, l, m] wv w') := Lib.hid (crash_any HW15.out.i.disk none 0 [] ⟨by simp, by simp, fun h0 => absurd h0 (by simp)⟩)
                        go_wp2_with fail
                        clear y2'
                        refine HCR.out.mono ?_
                        rintro e w16 ⟨rfl, hd16, ho16⟩
                        have HW16 := Lib.hid (HW15.out.step ho16 (by simp) hd16)
                        have HC4 : Hid (Cl (Dk.crash s []) ∧ (Dk.crash s []).last.length = 60 ∧ Good (E == 0) 2 20 (5 + (x : Int)) cs2 s2.last (Dk.crash s []).last ∧ (Dk.crash s []).lim = false) := Lib.hid ⟨Jn.crash_cl HW15.out.i.disk.ok _, by rw [Dk.crash_len]; exact HGD.out.1, HGD.out.2 _, rfl⟩
                        clear HCR HW15 HGD hd16 ho16
                        generalize Dk.crash s [] = s4 at HW16 HC4
                        have y1 := HW16.out.i.x.c1
                        by_cases hxf : x < nf
                        · have hxf' : (x : Int) < (nf : Int) := by omega
                          obtain ⟨bf, of, rfl, hbf, hcf⟩ := RF.out.cells (by omega)
                          obtain ⟨fx, hfx⟩ : ∃ fx, fs[x]? = some fx := ⟨_, List.getElem?_eq_getElem (by rw [RF.out.len]; exact hxf)⟩
                          have hcell2 : w16.cell? ⟨bf, of + x, none⟩ = some (.int .i64 fx) := (HW16.out.i.x.below.cell (p := ⟨bf, of + x, none⟩) hbf).trans (hcf x fx hfx)
                          have HFX := Lib.hid (RF.out.ok fx (List.mem_of_getElem? hfx))
                          have HFU := Lib.hid (fuse_any HW16.out.i.disk fx HFX.out.1 HFX.out.2)
                          clear hbf hcf hfx
                          go_wp2_with fail
                          refine HFU.out.mono ?_
                          rintro e w17 ⟨rfl, hd17, ho17, hz17⟩
                          have HW17 := Lib.hid (HW16.out.step ho17 (by simp) hd17)
                          have HC5 : Hid (Cl (Dk.fuse s4 fx) ∧ (Dk.fuse s4 fx).last.length = 60 ∧ Good (E == 0) 2 20 (5 + (x : Int)) cs2 s2.last (Dk.fuse s4 fx).last) := Lib.hid ⟨Jn.fuse_cl HC4.out.1 fx HFX.out.1 HFX.out.2, HC4.out.2.1, HC4.out.2.2.1⟩
                          clear HFU HW16 HC4 hd17 ho17 hz17 hcell2 y1
                          generalize Dk.fuse s4 fx = s5 at HW17 HC5
                          go_wp2_with fail
                          refine (open_again HW17.out.i.disk HC5.out.1 HC5.out.2.1 HC5.out.2.2 (by omega) (by omega) H18.out).mono ?_
                          rintro e w18 ⟨R, v18, cnt, E2, rfl, hd18, ho18, hl18, hE2⟩
                          have HWN := Lib.hid (HW17.out.step ho18 (by simp) hd18)
                          clear HW17 hd18 ho18
                          rcases hE2 with ⟨rfl, hR1, hR2⟩ | ⟨rfl, hR1, hR2⟩
                          · have HFN : Hid (Cl R ∧ R.last.length = 60 ∧ Fine (E == 0) 2 20 cs2 s2.last R.last) := Lib.hid ⟨hR1, hl18, hR2⟩
                            clear hR1 hR2 hl18
                            have HII : Hid ((E ≠ 0 ∧ pgs R = X) ∨ pgs R = Y) := Lib.hid (by
                              rcases HFN.out.2.2 with ⟨h1, h2⟩ | h2
                              · left
                                refine ⟨(fun e => by rw [e] at h1; simp at h1), ?_⟩
                                rw [pgs_same HFN.out.1 HS2.out.1 HFN.out.2.1 (by rw [HS2.out.2]; exact HS1.out.2.1) h2, HP2.out, HX0.out]
                              · right
                                rw [pgs_upd HS2.out.1 HFN.out.1 (by rw [HS2.out.2]; exact HS1.out.2.1) HFN.out.2.1 (fun c hc => (HAL.out c hc).2) h2, HP2.out, HX0.out, ← updIn_upd cs2 (fun c hc => (HAL.out c hc).1), HY0.out])
                            have HPG := Lib.hid (pagesOf_any HWN.out.i.disk)
                            have HIP := Lib.hid (pgs_pages HFN.out.1.ok)
                            have HIL := Lib.hid (pgs_length R)
                            generalize pgs R = I at HII HPG HIP HIL
                            have hz43 := rows_zero
                            go_wp2_with fail
                            refine HPG.out.mono ?_
                            rintro e w20 ⟨rfl, hb20⟩
                            have HW20 := Lib.hid (HWN.out.call hb20)
                            clear HPG HWN hb20
                            have EG := fun (x y : Operand) (w : World) (p q : List (List UInt8)) => run_eqGuard_rows w x y p q
                            have EYY : ∀ w : World, (binOp .eql 43 (rowsV Y) (rowsV Y)).run Try.prog w = .ok (.bool true) w := fun w => by rw [run_eql_rows w Y Y HYL.out HYL.out HYP.out HYP.out]; simp
                            have EXX : ∀ w : World, (binOp .eql 43 (rowsV X) (rowsV X)).run Try.prog w = .ok (.bool true) w := fun w => by rw [run_eql_rows w X X HXL.out HXL.out HXP.out HXP.out]; simp
                            by_cases hIX : E ≠ 0 ∧ I = X
                            · obtain ⟨hE0, rfl⟩ := hIX
                              obtain rfl : E = 5 := by rcases hE with e | e; exact absurd e hE0; exact e
                              clear HII hE hE0
                              go_wp2_with (first
                                | ((with_reducible refine wpList_store_newrows HIP.out HIL.out rfl (.tmp 24) (.tmp 169) rfl rfl ?_ zeroRow60 ?_); (exact rfl); intro w21 hr21 hb21 hz21; have HW21 := Lib.hid (HW20.out.call hb21); have HR21 := Lib.hid hr21; clear hr21 hb21 hz21 HW20; generalize w20.heap.size = Bi at HR21 ⊢)
                                | ((with_reducible refine wpList_load_rowsG HR21.out HIL.out (.tmp 24) rfl ?_ ?_ ?_); (exact rfl); (exact rfl))
                                | ((with_reducible refine wpList_load_rowsG HW21.out.rw HXL.out (.tmp 14) rfl ?_ ?_ ?_); (exact rfl); (exact rfl))
                                | ((with_reducible refine wpList_load_rowsG HW21.out.ra HYL.out (.tmp 15) rfl ?_ ?_ ?_); (exact rfl); (exact rfl)))
                              go_ret
                              exact ⟨rfl, HW21.out.i.x.below⟩
                            · have hIY : I = Y := by rcases HII.out with e | e; exact absurd e hIX; exact e
                              clear HII
                              by_cases hE0 : E = 0
                              · subst hE0
                                subst hIY
                                clear hIX hE
                                go_wp2_with (first
                                  | ((with_reducible refine wpList_store_newrows HIP.out HIL.out rfl (.tmp 24) (.tmp 169) rfl rfl ?_ zeroRow60 ?_); (exact rfl); intro w21 hr21 hb21 hz21; have HW21 := Lib.hid (HW20.out.call hb21); have HR21 := Lib.hid hr21; clear hr21 hb21 hz21 HW20; generalize w20.heap.size = Bi at HR21 ⊢)
                                  | ((with_reducible refine wpList_load_rowsG HR21.out HIL.out (.tmp 24) rfl ?_ ?_ ?_); (exact rfl); (exact rfl))
                                  | ((with_reducible refine wpList_load_rowsG HW21.out.rw HXL.out (.tmp 14) rfl ?_ ?_ ?_); (exact rfl); (exact rfl))
                                  | ((with_reducible refine wpList_load_rowsG HW21.out.ra HYL.out (.tmp 15) rfl ?_ ?_ ?_); (exact rfl); (exact rfl)))
                                go_ret
                                exact ⟨rfl, HW21.out.i.x.below⟩
                              · obtain rfl : E = 5 := by rcases hE with e | e; exact absurd e hE0; exact e
                                subst hIY
                                have hne : I ≠ X := fun e => hIX ⟨hE0, e⟩
                                have EYX : ∀ w : World, (binOp .eql 43 (rowsV I) (rowsV X)).run Try.prog w = .ok (.bool false) w := fun w => by rw [run_eql_rows w I X HIL.out HXL.out HIP.out HXP.out, decide_eq_false hne]
                                clear hIX hE hE0 hne
                                go_wp2_with (first
                                  | ((with_reducible refine wpList_store_newrows HIP.out HIL.out rfl (.tmp 24) (.tmp 169) rfl rfl ?_ zeroRow60 ?_); (exact rfl); intro w21 hr21 hb21 hz21; have HW21 := Lib.hid (HW20.out.call hb21); have HR21 := Lib.hid hr21; clear hr21 hb21 hz21 HW20; generalize w20.heap.size = Bi at HR21 ⊢)
                                  | ((with_reducible refine wpList_load_rowsG HR21.out HIL.out (.tmp 24) rfl ?_ ?_ ?_); (exact rfl); (exact rfl))
                                  | ((with_reducible refine wpList_load_rowsG HW21.out.rw HXL.out (.tmp 14) rfl ?_ ?_ ?_); (exact rfl); (exact rfl))
                                  | ((with_reducible refine wpList_load_rowsG HW21.out.ra HYL.out (.tmp 15) rfl ?_ ?_ ?_); (exact rfl); (exact rfl)))
                                go_ret
                                exact ⟨rfl, HW21.out.i.x.below⟩
                          · have HGN : Hid (R.last.length = 60 ∧ ∀ keep, Good (E == 0) 2 20 (5 + ((x + 1 : Nat) : Int)) cs2 s2.last (Dk.crash R keep).last) := Lib.hid ⟨hl18, fun keep => by have := hR2 keep; rw [show (5 : Int) + ((x + 1 : Nat) : Int) = 5 + (x : Int) + 1 by omega]; exact this⟩
                            clear hR1 hR2 hl18
                            have y1 := HWN.out.i.x.c1
                            go_wp2_with fail
                            go_roundw
                            case rel => exact ⟨x + 1, R, by omega, by go_num, HWN.out, HGN.out.1, HGN.out.2⟩
                            case measure => simp [intOf]; omega
                        · have hxf' : ¬ (x : Int) < (nf : Int) := by omega
                          have HW17 := HW16
                          have HC5 : Hid (Cl s4 ∧ s4.last.length = 60 ∧ Good (E == 0) 2 20 (5 + (x : Int)) cs2 s2.last s4.last) := Lib.hid ⟨HC4.out.1, HC4.out.2.1, HC4.out.2.2.1⟩
                          have HLM : Hid (s4.lim = false) := Lib.hid HC4.out.2.2.2
                          clear HW16 HC4
                          go_wp2_with fail
                          clear y1
                          refine (open_again HW17.out.i.disk HC5.out.1 HC5.out.2.1 HC5.out.2.2 (by omega) (by omega) H18.out).mono ?_
                          rintro e w18 ⟨R, v18, cnt, E2, rfl, hd18, ho18, hl18, hE2⟩
                          have HWN := Lib.hid (HW17.out.step ho18 (by simp) hd18)
                          clear HW17 hd18 ho18
                          rcases hE2 with ⟨rfl, hR1, hR2⟩ | ⟨rfl, hR1, hR2⟩
                          · have HFN : Hid (Cl R ∧ R.last.length = 60 ∧ Fine (E == 0) 2 20 cs2 s2.last R.last) := Lib.hid ⟨hR1, hl18, hR2⟩
                            clear hR1 hR2 hl18
                            have HII : Hid ((E ≠ 0 ∧ pgs R = X) ∨ pgs R = Y) := Lib.hid (by
                              rcases HFN.out.2.2 with ⟨h1, h2⟩ | h2
                              · left
                                refine ⟨(fun e => by rw [e] at h1; simp at h1), ?_⟩
                                rw [pgs_same HFN.out.1 HS2.out.1 HFN.out.2.1 (by rw [HS2.out.2]; exact HS1.out.2.1) h2, HP2.out, HX0.out]
                              · right
                                rw [pgs_upd HS2.out.1 HFN.out.1 (by rw [HS2.out.2]; exact HS1.out.2.1) HFN.out.2.1 (fun c hc => (HAL.out c hc).2) h2, HP2.out, HX0.out, ← updIn_upd cs2 (fun c hc => (HAL.out c hc).1), HY0.out])
                            have HPG := Lib.hid (pagesOf_any HWN.out.i.disk)
                            have HIP := Lib.hid (pgs_pages HFN.out.1.ok)
                            have HIL := Lib.hid (pgs_length R)
                            generalize pgs R = I at HII HPG HIP HIL
                            have hz43 := rows_zero
                            go_wp2_with fail
                            refine HPG.out.mono ?_
                            rintro e w20 ⟨rfl, hb20⟩
                            have HW20 := Lib.hid (HWN.out.call hb20)
                            clear HPG HWN hb20
                            have EG := fun (x y : Operand) (w : World) (p q : List (List UInt8)) => run_eqGuard_rows w x y p q
                            have EYY : ∀ w : World, (binOp .eql 43 (rowsV Y) (rowsV Y)).run Try.prog w = .ok (.bool true) w := fun w => by rw [run_eql_rows w Y Y HYL.out HYL.out HYP.out HYP.out]; simp
                            have EXX : ∀ w : World, (binOp .eql 43 (rowsV X) (rowsV X)).run Try.prog w = .ok (.bool true) w := fun w => by rw [run_eql_rows w X X HXL.out HXL.out HXP.out HXP.out]; simp
                            by_cases hIX : E ≠ 0 ∧ I = X
                            · obtain ⟨hE0, rfl⟩ := hIX
                              obtain rfl : E = 5 := by rcases hE with e | e; exact absurd e hE0; exact e
                              clear HII hE hE0
                              go_wp2_with (first
                                | ((with_reducible refine wpList_store_newrows HIP.out HIL.out rfl (.tmp 24) (.tmp 169) rfl rfl ?_ zeroRow60 ?_); (exact rfl); intro w21 hr21 hb21 hz21; have HW21 := Lib.hid (HW20.out.call hb21); have HR21 := Lib.hid hr21; clear hr21 hb21 hz21 HW20; generalize w20.heap.size = Bi at HR21 ⊢)
                                | ((with_reducible refine wpList_load_rowsG HR21.out HIL.out (.tmp 24) rfl ?_ ?_ ?_); (exact rfl); (exact rfl))
                                | ((with_reducible refine wpList_load_rowsG HW21.out.rw HXL.out (.tmp 14) rfl ?_ ?_ ?_); (exact rfl); (exact rfl))
                                | ((with_reducible refine wpList_load_rowsG HW21.out.ra HYL.out (.tmp 15) rfl ?_ ?_ ?_); (exact rfl); (exact rfl)))
                              go_ret
                              exact ⟨rfl, HW21.out.i.x.below⟩
                            · have hIY : I = Y := by rcases HII.out with e | e; exact absurd e hIX; exact e
                              clear HII
                              by_cases hE0 : E = 0
                              · subst hE0
                                subst hIY
                                clear hIX hE
                                go_wp2_with (first
                                  | ((with_reducible refine wpList_store_newrows HIP.out HIL.out rfl (.tmp 24) (.tmp 169) rfl rfl ?_ zeroRow60 ?_); (exact rfl); intro w21 hr21 hb21 hz21; have HW21 := Lib.hid (HW20.out.call hb21); have HR21 := Lib.hid hr21; clear hr21 hb21 hz21 HW20; generalize w20.heap.size = Bi at HR21 ⊢)
                                  | ((with_reducible refine wpList_load_rowsG HR21.out HIL.out (.tmp 24) rfl ?_ ?_ ?_); (exact rfl); (exact rfl))
                                  | ((with_reducible refine wpList_load_rowsG HW21.out.rw HXL.out (.tmp 14) rfl ?_ ?_ ?_); (exact rfl); (exact rfl))
                                  | ((with_reducible refine wpList_load_rowsG HW21.out.ra HYL.out (.tmp 15) rfl ?_ ?_ ?_); (exact rfl); (exact rfl)))
                                go_ret
                                exact ⟨rfl, HW21.out.i.x.below⟩
                              · obtain rfl : E = 5 := by rcases hE with e | e; exact absurd e hE0; exact e
                                subst hIY
                                have hne : I ≠ X := fun e => hIX ⟨hE0, e⟩
                                have EYX : ∀ w : World, (binOp .eql 43 (rowsV I) (rowsV X)).run Try.prog w = .ok (.bool false) w := fun w => by rw [run_eql_rows w I X HIL.out HXL.out HIP.out HXP.out, decide_eq_false hne]
                                clear hIX hE hE0 hne
                                go_wp2_with (first
                                  | ((with_reducible refine wpList_store_newrows HIP.out HIL.out rfl (.tmp 24) (.tmp 169) rfl rfl ?_ zeroRow60 ?_); (exact rfl); intro w21 hr21 hb21 hz21; have HW21 := Lib.hid (HW20.out.call hb21); have HR21 := Lib.hid hr21; clear hr21 hb21 hz21 HW20; generalize w20.heap.size = Bi at HR21 ⊢)
                                  | ((with_reducible refine wpList_load_rowsG HR21.out HIL.out (.tmp 24) rfl ?_ ?_ ?_); (exact rfl); (exact rfl))
                                  | ((with_reducible refine wpList_load_rowsG HW21.out.rw HXL.out (.tmp 14) rfl ?_ ?_ ?_); (exact rfl); (exact rfl))
                                  | ((with_reducible refine wpList_load_rowsG HW21.out.ra HYL.out (.tmp 15) rfl ?_ ?_ ?_); (exact rfl); (exact rfl)))
                                go_ret
                                exact ⟨rfl, HW21.out.i.x.below⟩
                          · rw [HLM.out] at hR1
                            cases hR1
            · have HB7 : Hid (Below w.heap.size w w7) := Lib.hid (Only.toBelowOld HW6.out.x.below ho7 HW6.out.x.below.size HW6.out.olds)
              have hne2 : (E == 0) = false := by simpa using hE
              have hne3 : (E != 0) = true := by simpa using hE
              clear hE hE7 ho7 HW6
              go_wp2_with fail
              go_ret
              exact ⟨rfl, HB7.out⟩
end Go.Proofs.Ytlamllnflbdcjaa.journalWhole
