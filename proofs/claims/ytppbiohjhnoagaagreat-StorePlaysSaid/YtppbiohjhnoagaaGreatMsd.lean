/-
  The contract of a store's Open, over the journal's.
-/
import Derived.Test.YtppbiohjhnoagaaGreatMsa
import Derived.Test.YtppbiohjhnoagaaGreatMje
import Derived.Test.YtppbiohjhnoagaaGreatMsc
import Derived.Test.YtppbiohjhnoagaaGreatMdb
import Derived.Test.YtppbiohjhnoagaaGreatMhb
import Derived.Test.YtppbiohjhnoagaaGreatMja
namespace Go.Proofs.YtppbiohjhnoagaaGreat
open Go.RowKit Go.Maps
open Dk (zeros zeros_length)
open Hd (Head rightB pageH)
open Jn (Chg quietH liveH Cl Quiet LiveD May Same upd)

def sto0 (s : Dk.St) (a z r : Nat) (q : Int) : Sto := ⟨s, a, z, r, q, false, noPgs s.last.length, noPgs s.last.length⟩
/-- what a store's Open leaves -/
def SOpened (w : World) (d l m a z r : Nat) (R : Dk.St × Int) (P : Int → Int → Prop) (e : Ending) (w' : World) : Prop :=
  DiskAt w' d l m R.1 ∧ Only [d, l, m] w w' ∧
  ((R.2 = 0 ∧ ∃ (b : Blk) (cnt q : Int), b.d = d ∧ b.l = l ∧ b.m = m ∧ w.heap.size ≤ b.s ∧ w.heap.size ≤ b.j ∧ w.heap.size ≤ b.t ∧ w.heap.size ≤ b.g ∧ e = .returned (.tuple #[.pointer (some ⟨b.s, 0, none⟩), .int .i64 0]) ∧ P cnt q ∧ StoreAt w' b (sto0 R.1 a z r q)) ∨
   (R.2 ≠ 0 ∧ e = .returned (.tuple #[.pointer none, .int .i64 R.2])))
theorem sto0_ok {s : Dk.St} {a z r : Nat} {q : Int} (ha : a ≤ 900) (hz : z ≤ 900) (hroom : RoomIs z r) (hr1 : 1 ≤ r) (hr2 : r ≤ 32) (hr3 : 2 + r ≤ z) (hreg : a + z ≤ s.last.length) : (sto0 s a z r q).Ok :=
  ⟨List.length_replicate, List.length_replicate, pagesOk_no _ _ _ _, pagesOk_no _ _ _ _, by show cntO (noPgs _) ≤ _; rw [cntO_no]; exact Nat.zero_le _, by show cntO (noPgs _) ≤ _; rw [cntO_no]; exact Nat.zero_le _, ha, hz, hreg, hroom, hr1, hr2, hr3⟩
theorem store_new {w w2 : World} {d l m j a z r : Nat} {q : Int} {s : Dk.St} {T : TypeId} (hd : DiskAt w2 d l m s) (hj : JAt w2 j d a z q false) (ho : Only [d, l, m] w w2) (hlt : d < w.heap.size ∧ l < w.heap.size ∧ m < w.heap.size) (hjj : w.heap.size ≤ j) (hok : (sto0 s a z r q).Ok) :
    StoreAt (((w2.alloc (.map #[] 0)).alloc (.map #[] 0)).alloc (.cells (stVals ⟨w2.heap.size + 2, j, d, l, m, w2.heap.size, w2.heap.size + 1⟩ a z).toArray T)) ⟨w2.heap.size + 2, j, d, l, m, w2.heap.size, w2.heap.size + 1⟩ (sto0 s a z r q) ∧
    Only [d, l, m] w (((w2.alloc (.map #[] 0)).alloc (.map #[] 0)).alloc (.cells (stVals ⟨w2.heap.size + 2, j, d, l, m, w2.heap.size, w2.heap.size + 1⟩ a z).toArray T)) := by
  have hjlt := hj.lt
  have hsz := ho.size
  have h1 : (w2.alloc (.map #[] 0)).heap.size = w2.heap.size + 1 := by simp
  have h2 : ((w2.alloc (.map #[] 0)).alloc (.map #[] 0)).heap.size = w2.heap.size + 2 := by simp
  have m1 := mapAt_made w2 s.last.length
  have m2 := mapAt_made (w2.alloc (.map #[] 0)) s.last.length
  rw [h1] at m2
  have r3 := rowAt_new ((w2.alloc (.map #[] 0)).alloc (.map #[] 0)) (stVals ⟨w2.heap.size + 2, j, d, l, m, w2.heap.size, w2.heap.size + 1⟩ a z) T
  rw [h2] at r3
  have b1 : ∀ k, k < w2.heap.size + 1 → ((w2.alloc (.map #[] 0)).alloc (.map #[] 0)).heap[k]? = (w2.alloc (.map #[] 0)).heap[k]? := fun k hk => Below.heap_alloc _ _ k (by omega)
  have b2 : ∀ k, k < w2.heap.size + 2 → (((w2.alloc (.map #[] 0)).alloc (.map #[] 0)).alloc (.cells (stVals ⟨w2.heap.size + 2, j, d, l, m, w2.heap.size, w2.heap.size + 1⟩ a z).toArray T)).heap[k]? = ((w2.alloc (.map #[] 0)).alloc (.map #[] 0)).heap[k]? := fun k hk => Below.heap_alloc _ _ k (by omega)
  refine ⟨⟨r3, ⟨q, ?_, fun _ => rfl⟩, (((hd.alloc _).alloc _).alloc _), ?_, ?_, ?_, hok⟩, ((ho.alloc _).alloc _).alloc _⟩
  · exact ((hj.block (Below.heap_alloc _ _ j hjlt)).block (b1 j (by omega))).block (b2 j (by omega))
  · exact (m1.block (b1 _ (by omega))).block (b2 _ (by show w2.heap.size < _; omega))
  · exact m2.block (b2 _ (by show w2.heap.size + 1 < _; omega))
  · have e1 := hd.dl
    have e2 := hd.dm
    have e3 := hd.lm
    unfold Blk.all
    simp only [List.nodup_cons, List.mem_cons, List.not_mem_nil, or_false, not_or, List.nodup_nil, not_false_eq_true, and_true]
    omega
set_option maxRecDepth 100000 in
set_option maxHeartbeats 2000000 in
theorem sopen_any {w : World} {d l m a z r : Nat} {R : Dk.St × Int} {P : Int → Int → Prop} (hd : d < w.heap.size ∧ l < w.heap.size ∧ m < w.heap.size) (hlen : a + z ≤ R.1.last.length) (ha : a ≤ 900) (hz : z ≤ 900) (hroom : RoomIs z r) (hr1 : 1 ≤ r) (hr2 : r ≤ 32) (hr3 : 2 + r ≤ z)
    (hO : Calls Tryz.prog 27 #[.pointer (some ⟨d, 0, none⟩), .int .i64 (a : Int), .int .i64 (z : Int)] w (Opened w d l m a z R P)) :
    Calls Tryz.prog 8 #[.pointer (some ⟨d, 0, none⟩), .int .i64 (a : Int), .int .i64 (z : Int)] w (SOpened w d l m a z r R P) := by
  have HO := Lib.hid hO
  have HD := Lib.hid hd
  have HOK := Lib.hid (fun q => sto0_ok (s := R.1) (q := q) ha hz hroom hr1 hr2 hr3 hlen)
  clear hO hd hlen hroom hr1 hr2 hr3
  have hmm := @run_makeMap Tryz.prog
  go_enter Tryz.func8, Tryz.ntmps8
  go_wp2_with fail
  refine HO.out.mono ?_
  rintro e w2 ⟨hd2, ho2, hc⟩
  have HD2 := Lib.hid hd2
  have HO2 := Lib.hid ho2
  clear hd2 ho2 HO
  rcases hc with ⟨hz0, j, cnt, q, rfl, hj, hP, hjj⟩ | ⟨hz0, rfl⟩
  · have HZ := Lib.hid hz0
    have HN := Lib.hid (store_new (T := 74) HD2.out hj HO2.out HD.out hjj (HOK.out q))
    have HP := Lib.hid hP
    have HJJ := Lib.hid hjj
    have HSZ := Lib.hid HO2.out.size
    clear hj hP hjj hz0
    unfold stVals at HN
    go_wp2_with fail
    go_ret2
    have h3 : (((w2.alloc (.map #[] 0)).alloc (.map #[] 0)).heap.size) = w2.heap.size + 2 := by simp
    have hs := HSZ.out
    exact ⟨HN.out.1.disk, HN.out.2, Or.inl ⟨HZ.out, ⟨w2.heap.size + 2, j, d, l, m, w2.heap.size, w2.heap.size + 1⟩, cnt, q, rfl, rfl, rfl, (by show w.heap.size ≤ w2.heap.size + 2; omega), HJJ.out, (by show w.heap.size ≤ w2.heap.size; omega), (by show w.heap.size ≤ w2.heap.size + 1; omega), rfl, HP.out, HN.out.1⟩⟩
  · have hne2 : (R.2 == 0) = false := by simpa using hz0
    have hne3 : (R.2 != 0) = true := by simpa using hz0
    have HZ := Lib.hid hz0
    clear hz0
    generalize hE : R.2 = E at hne2 hne3 ⊢
    have HE := Lib.hid hE
    clear hE
    go_wp2_with fail
    go_ret2
    exact ⟨HD2.out, HO2.out, Or.inr ⟨HZ.out, by rw [HE.out]; rfl⟩⟩
end Go.Proofs.YtppbiohjhnoagaaGreat

/-
  A store over a clean disk: what a Sync leaves, done or broken off; the first Open.
-/
namespace Go.Proofs.YtppbiohjhnoagaaGreat
open Go.RowKit Go.Maps
open Dk (zeros zeros_length)
open Hd (Head rightB pageH)
open Jn (Chg quietH liveH Cl Quiet LiveD May Same upd)

theorem room10 : RoomIs 10 8 := fun w => by
  show Calls Tryz.prog 46 #[.int .i64 10] w fun e w' => e = .returned (.int .i64 8) ∧ w = w'
  go_enter Tryz.func46, Tryz.ntmps46
  go_wp2
  go_ret
  exact ⟨rfl, rfl⟩
theorem room16 : RoomIs 16 14 := fun w => by
  show Calls Tryz.prog 46 #[.int .i64 16] w fun e w' => e = .returned (.int .i64 14) ∧ w = w'
  go_enter Tryz.func46, Tryz.ntmps46
  go_wp2
  go_ret
  exact ⟨rfl, rfl⟩
theorem room17 : RoomIs 17 15 := fun w => by
  show Calls Tryz.prog 46 #[.int .i64 17] w fun e w' => e = .returned (.int .i64 15) ∧ w = w'
  go_enter Tryz.func46, Tryz.ntmps46
  go_wp2
  go_ret
  exact ⟨rfl, rfl⟩

/-- a store that is not over, on a clean disk -/
structure Sound (s : Sto) : Prop where
  ok : s.Ok
  up : s.over = false
  cl : Cl s.dk
  q0 : 0 ≤ s.q
  head : s.dk.last.getD s.a [] = pageH (quietH s.q)
theorem Sound.may {s : Sto} (h : Sound s) (hc : cntO s.group ≠ 0) : May s.a s.z s.dk.last.length (chgs s.group) :=
  takes_may (r := s.r) (chgs_takes h.ok.gpg) (chgs_pages h.ok.gpg) (by rw [chgs_length]; omega) (by rw [chgs_length]; exact h.ok.gcnt) h.ok.r32 h.ok.rz h.ok.reg h.cl.ok.small
theorem Sound.step {s : Sto} (h : Sound s) {c : Pgs} (hok : Sto.Ok { s with step := c }) : Sound { s with step := c } := ⟨hok, h.up, h.cl, h.q0, h.head⟩
theorem Sound.put {s : Sto} (h : Sound s) (i : Int) {p : List UInt8} (hp : p.length = 64) : Sound (sput s i p) := by
  unfold sput
  split
  · rename_i he
    unfold sputE at he
    split at he
    · rename_i hr
      have h2 := of_decide_eq_true (show otherB s.dk.last.length s.a s.z i = true by
        unfold sreachE at hr
        split at hr
        · cases hr
        · split at hr
          · assumption
          · cases hr)
      obtain ⟨k, rfl⟩ := Int.eq_ofNat_of_zero_le h2.1
      rw [Int.toNat_natCast] at he ⊢
      split at he
      · cases he
      · rename_i hf
        exact h.step (sput_ok h.ok hp (decide_eq_true h2) hf)
    · rename_i hr
      exact absurd he hr
  · exact h
theorem Sound.drop {s : Sto} (h : Sound s) : Sound (sdrop s) := h.step (sdrop_ok h.ok)
theorem Sound.join {s : Sto} (h : Sound s) (hc : stog s ≤ s.r) : Sound (sjoin s) := ⟨sjoin_ok h.ok hc, h.up, h.cl, h.q0, h.head⟩
/-- a Sync: done, or broken off -/
theorem sync_two {s : Sto} (h : Sound s) (hq : s.q < 250) :
    (ssyncE s = 0 ∧ Sound (ssync s) ∧ Same s.a s.z (ssync s).dk.last (upd s.dk.last (chgs s.group)) ∧ (ssync s).dk.last.length = s.dk.last.length ∧ (ssync s).q ≤ s.q + 2 ∧ (ssync s).dk.lim = s.dk.lim) ∨
    (ssyncE s = 5 ∧ s.dk.lim = true ∧ (ssync s).over = true ∧ (ssync s).dk.Ok ∧ cntO s.group ≠ 0 ∧ ∀ keep, Good false s.a s.z (s.q + 2) (chgs s.group) s.dk.last (Dk.crash (ssync s).dk keep).last) := by
  have hnn : ¬ s.over = true := by rw [h.up]; simp
  by_cases hz : cntO s.group = 0
  · left
    have hs : ssync s = s := by unfold ssync; rw [if_neg hnn, if_pos hz]
    have hcs : chgs s.group = [] := List.eq_nil_of_length_eq_zero (by rw [chgs_length]; exact hz)
    refine ⟨by unfold ssyncE; rw [if_neg hnn, if_pos hz], by rw [hs]; exact h, ?_, by rw [hs], by rw [hs]; omega, by rw [hs]⟩
    rw [hs, hcs]
    exact fun _ _ => rfl
  · have hm := h.may hz
    have hE : ssyncE s = (srun s).2 := by unfold ssyncE; rw [if_neg hnn, if_neg hz]
    have hS : ssync s = if (srun s).2 = 0 then { scommit s with group := noPgs s.dk.last.length } else scommit s := by unfold ssync; rw [if_neg hnn, if_neg hz]
    have hC : (srun s).1.last.length = s.dk.last.length := srun_len s
    have hok := scommit_ok h.ok
    have hcl := sclear_ok hok (n := s.dk.last.length) hC.symm
    rcases Jn.commitM h.cl hm h.q0 hq h.head with ⟨e1, e2, e3, e4, e5⟩ | ⟨e1, e2, e3, e4⟩
    · left
      rw [show Jn.runs s.dk (Jn.steps s.a s.q (chgs s.group)) = srun s from rfl] at e1 e2 e3 e4 e5
      rw [hE, hS, if_pos e1]
      have hq0 := h.q0
      refine ⟨e1, ⟨hcl, ?_, e2, ?_, e4⟩, e3.same, hC, Int.le_refl _, e5⟩
      · show ((srun s).2 != 0) = false
        rw [e1]; rfl
      · show 0 ≤ s.q + 2
        omega
    · right
      rw [show Jn.runs s.dk (Jn.steps s.a s.q (chgs s.group)) = srun s from rfl] at e1 e3 e4
      rw [hE, hS, if_neg (by rw [e1]; decide)]
      refine ⟨e1, e2, ?_, e3, hz, fun keep => ?_⟩
      · show ((srun s).2 != 0) = true
        rw [e1]; rfl
      · rcases e4 keep with g | g | g
        · exact Or.inl ⟨rfl, g⟩
        · exact Or.inr (Or.inl g)
        · refine Or.inr (Or.inr ⟨?_, g⟩)
          have : (Dk.crash (srun s).1 keep).last.length = s.dk.last.length := by rw [Dk.crash_len]; exact hC
          show May s.a s.z (Dk.crash (srun s).1 keep).last.length _
          rw [this]; exact hm

/-- the first Open -/
structure First (s : Dk.St) (n a : Nat) : Prop where
  cl : Cl s
  lim : s.lim = false
  len : s.last.length = n
  head : s.last.getD a [] = pageH (quietH 1)
  rest : ∀ i, i < n → i ≠ a → s.last.getD i [] = zeros
theorem sfirst_open {w : World} {d l m n a z r : Nat} (h : DiskAt w d l m (Dk.fresh n)) (h1 : 1 ≤ n) (h2 : n ≤ 512) (hroom : RoomIs z r) (hr : 1 ≤ r) (hr2 : r ≤ 32) (hr3 : 2 + r ≤ z) (hreg : a + z ≤ n) :
    ∃ s, First s n a ∧ Calls Tryz.prog 8 #[.pointer (some ⟨d, 0, none⟩), .int .i64 (a : Int), .int .i64 (z : Int)] w fun e w' =>
      ∃ b : Blk, b.d = d ∧ b.l = l ∧ b.m = m ∧ w.heap.size ≤ b.s ∧ w.heap.size ≤ b.j ∧ w.heap.size ≤ b.t ∧ w.heap.size ≤ b.g ∧ e = .returned (.tuple #[.pointer (some ⟨b.s, 0, none⟩), .int .i64 0]) ∧ StoreAt w' b (sto0 s a z r 1) ∧ Only [d, l, m] w w' := by
  have hc := fresh_cl h1 h2
  have hq : Quiet a z 0 (Dk.fresh n).last (Dk.fresh n).last := fresh_quiet (by omega)
  have hl := fresh_len n
  have ho := openQ_any h hc hq (Int.le_refl 0) (by omega) (by omega) (by omega) (by omega) hroom hr (by omega)
  have hn : Hd.nextN [(Dk.fresh n).last.getD a []] = 1 := by rw [fresh_at (by omega)]; exact zeros_next
  rcases Jn.openQ hc hq (by omega) (by omega) (Int.le_refl 0) (by omega) with ⟨e1, e2, e3, e4, e5⟩ | ⟨_, e, _⟩
  · rw [hn] at ho e1 e2 e4 e5
    have hlen : (Jn.runs (Dk.fresh n) [[⟨(a : Int), pageH (quietH 1)⟩]]).1.last.length = n := by rw [e4, List.length_set, hl]
    refine ⟨_, ⟨e2, e5, hlen, ?_, ?_⟩, (sopen_any ⟨h.dlt, h.llt, h.mlt⟩ (by rw [hlen]; exact hreg) (by omega) (by omega) hroom hr hr2 hr3 ho).mono ?_⟩
    · rw [e4, List.getD_eq_getElem?_getD, List.getElem?_set_self (by omega)]; rfl
    · intro i hi hia
      rw [e4, List.getD_eq_getElem?_getD, List.getElem?_set_ne (fun q => hia q.symm), ← List.getD_eq_getElem?_getD]
      exact fresh_at hi
    · rintro e w' ⟨k1, k2, k3⟩
      rcases k3 with ⟨_, b, cnt, q, b1, b2, b3, b4, b5, b6, b7, k4, ⟨rfl, rfl⟩, k6⟩ | ⟨k4, _⟩
      · exact ⟨b, b1, b2, b3, b4, b5, b6, b7, k4, k6, k2⟩
      · exact absurd e1 k4
  · cases e
theorem First.sound {s : Dk.St} {n a z r : Nat} (h : First s n a) (ha : a ≤ 900) (hz : z ≤ 900) (hroom : RoomIs z r) (hr1 : 1 ≤ r) (hr2 : r ≤ 32) (hr3 : 2 + r ≤ z) (hreg : a + z ≤ n) : Sound (sto0 s a z r 1) :=
  ⟨sto0_ok ha hz hroom hr1 hr2 hr3 (by rw [h.len]; exact hreg), rfl, h.cl, (by show (0 : Int) ≤ 1; omega), h.head⟩
end Go.Proofs.YtppbiohjhnoagaaGreat

/-
  The contract of the statements' awake.
-/
namespace Go.Proofs.YtppbiohjhnoagaaGreat
open Go.RowKit Go.Maps
open Dk (zeros zeros_length)
open Hd (Head rightB pageH)
open Jn (Chg quietH liveH Cl Quiet LiveD May Same upd)

/-- a store that the call has made, and nothing that was there has turned -/
structure SLive (w0 : World) (b : Blk) (s : Sto) (W : World) : Prop where
  st : StoreAt W b s
  bel : Below w0.heap.size w0 W
  old : ∀ k ∈ b.all, w0.heap.size ≤ k
theorem SLive.byBelow {w0 : World} {b : Blk} {s : Sto} {W W' : World} (h : SLive w0 b s W) (hb : Below W.heap.size W W') : SLive w0 b s W' := ⟨h.st.below hb, h.bel.trans (hb.mono h.bel.size), h.old⟩
theorem SLive.byOnly {w0 : World} {b : Blk} {s s' : Sto} {W W' : World} {L : List Nat} (h : SLive w0 b s W) (hs : StoreAt W' b s') (ho : Only L W W') (hL : ∀ k ∈ L, k ∈ b.all) : SLive w0 b s' W' :=
  ⟨hs, Only.toBelowOld h.bel ho h.bel.size (fun k hk => h.old k (hL k hk)), h.old⟩
theorem PageAt.only {w w' : World} {B : Nat} {p : List UInt8} {L : List Nat} (h : PageAt w B p) (ho : Only L w w') (hB : B ∉ L) : PageAt w' B p := h.block (ho.block B h.lt hB)
/-- the first Open on a new disk -/
theorem slive_first {w : World} {n a z r : Nat} (h1 : 1 ≤ n) (h2 : n ≤ 512) (hroom : RoomIs z r) (hr : 1 ≤ r) (hr2 : r ≤ 32) (hr3 : 2 + r ≤ z) (hreg : a + z ≤ n) : ∃ s, First s n a ∧ Calls Tryz.prog 8 #[.pointer (some ⟨w.heap.size + 2, 0, none⟩), .int .i64 (a : Int), .int .i64 (z : Int)] (newWorld w n) fun e w' =>
    ∃ b : Blk, b.d = w.heap.size + 2 ∧ e = .returned (.tuple #[.pointer (some ⟨b.s, 0, none⟩), .int .i64 0]) ∧ SLive w b (sto0 s a z r 1) w' := by
  have hd := newWorld_disk w n h1 h2
  have hb := newWorld_below w n
  obtain ⟨s, hs, hc⟩ := sfirst_open hd h1 h2 hroom hr hr2 hr3 hreg
  refine ⟨s, hs, hc.mono ?_⟩
  rintro e w' ⟨b, b1, b2, b3, b4, b5, b6, b7, rfl, hS, ho⟩
  have hsz := hb.size
  refine ⟨b, b1, rfl, hS, Only.toBelowOld hb ho hsz (fun k hk => by simp at hk; omega), fun k hk => ?_⟩
  unfold Blk.all at hk
  simp only [List.mem_cons, List.not_mem_nil, or_false] at hk
  omega

/-! ### what awake does -/
def pgN (c : UInt8) : List UInt8 := c :: List.replicate 63 0
theorem pgN_length (c : UInt8) : (pgN c).length = 64 := by unfold pgN; simp
theorem built_pg1 : Tryz.prog.built 38 [(0, .int .u8 1)] = some (byteVals (pgN 1)).toArray := by kernel_rfl
theorem built_pg2 : Tryz.prog.built 38 [(0, .int .u8 2)] = some (byteVals (pgN 2)).toArray := by kernel_rfl
theorem run_index0 (w : World) (p : List UInt8) (hp : p.length = 64) : (Instr.index 38 (pageV p) (.int .i64 0)).run Tryz.prog w = .ok (.int .u8 ((p.getD 0 0).toNat : Int)) w := by
  have e := run_part8 w p 0 (by omega)
  have e2 : p.getD 0 0 = p[0]'(by omega) := by rw [List.getD_eq_getElem?_getD, List.getElem?_eq_getElem (by omega)]; rfl
  rw [e2]
  simp [Instr.index, run_underlying Tryz.underlying38, asIntOf, pageV, e]
def one5 (p : List UInt8) : Pgs := (noPgs 20).set 5 (some p)
theorem cnt_one5 (p : List UInt8) : cntO (one5 p) = 1 := by
  unfold one5
  rw [cntO_set _ _ _ (by unfold noPgs; simp), noPgs_at, cntO_no]; rfl
theorem one5_at (p : List UInt8) : (one5 p).getD 5 none = some p := by
  unfold one5
  rw [pgs_set_at _ _ _ _ (by unfold noPgs; simp), if_pos rfl]
theorem aw_join (p : List UInt8) : joinP (noPgs 20) (one5 p) = one5 p := by
  refine pgs_ext (by rw [joinP_length]; unfold one5; rw [List.length_set]) (fun i hi => ?_)
  rw [joinP_length] at hi
  rw [joinP_at _ _ _ hi, noPgs_at]
  cases (one5 p).getD i none <;> rfl
def aw (s : Dk.St) : Sto := sto0 s 8 10 8 1
section
variable {s : Dk.St} (h : First s 20 8)
include h
theorem aw_eq : aw s = ⟨s, 8, 10, 8, 1, false, noPgs 20, noPgs 20⟩ := by unfold aw sto0; rw [h.len]
theorem aw_sound : Sound (aw s) := h.sound (by omega) (by omega) room10 (by omega) (by omega) (by omega) (by omega)
theorem aw_reach (g t : Pgs) : sreachE ⟨s, 8, 10, 8, 1, false, t, g⟩ 5 = 0 := by
  unfold sreachE
  rw [if_neg (by simp)]
  have : otherB s.last.length 8 10 5 = true := by rw [h.len]; decide
  rw [if_pos this]
theorem aw_putE : sputE (aw s) 5 = 0 := by
  rw [aw_eq h]
  unfold sputE
  rw [if_pos (aw_reach h _ _), if_neg (by rintro ⟨_, g⟩; have : cntO (noPgs 20) = 0 := cntO_no 20; simp only at g; omega)]
theorem aw_put (p : List UInt8) : sput (aw s) 5 p = ⟨s, 8, 10, 8, 1, false, one5 p, noPgs 20⟩ := by
  unfold sput
  rw [if_pos (aw_putE h), aw_eq h]; rfl
theorem aw_drop (p : List UInt8) : sdrop (sput (aw s) 5 p) = aw s := by
  rw [aw_put h, aw_eq h]
  unfold sdrop
  simp only [h.len]
theorem aw_read : sreadP (aw s) 5 = zeros := by
  rw [aw_eq h]
  unfold sreadP
  rw [if_pos (aw_reach h _ _)]
  have e : sheld ⟨s, 8, 10, 8, 1, false, noPgs 20, noPgs 20⟩ (5 : Int).toNat = none := by
    unfold sheld
    simp only [noPgs_at]; rfl
  rw [e]
  show Dk.readP s ((5 : Nat) : Int) = zeros
  rw [read_clean h.cl (by rw [h.len]; omega)]
  exact h.rest 5 (by omega) (by omega)
theorem aw_tog (p : List UInt8) : stog (sput (aw s) 5 p) = 1 := by
  rw [aw_put h]
  unfold stog
  simp only
  rw [aw_join, cnt_one5]
theorem aw_keepE (p : List UInt8) : skeepE (sput (aw s) 5 p) = 0 := by
  have := aw_tog h p
  rw [aw_put h] at this ⊢
  unfold skeepE
  rw [if_neg (by simp), this, if_neg (by simp)]
theorem aw_keep (p : List UInt8) : skeep (sput (aw s) 5 p) = ⟨s, 8, 10, 8, 1, false, noPgs 20, one5 p⟩ := by
  have := aw_tog h p
  rw [aw_put h] at this ⊢
  unfold skeep
  rw [if_neg (by simp), this, if_neg (by simp)]
  unfold sjoin
  simp only [h.len, aw_join]
theorem aw_read2 (p : List UInt8) : sreadP ⟨s, 8, 10, 8, 1, false, noPgs 20, one5 p⟩ 5 = p := by
  unfold sreadP
  rw [if_pos (aw_reach h _ _)]
  have e : sheld ⟨s, 8, 10, 8, 1, false, noPgs 20, one5 p⟩ (5 : Int).toNat = some p := by
    unfold sheld
    show ((noPgs 20).getD 5 none).or ((one5 p).getD 5 none) = some p
    rw [noPgs_at, one5_at]; rfl
  rw [e]; rfl
theorem aw_lasts : Dk.lastsP s 5 = zeros := by
  unfold Dk.lastsP
  rw [if_pos (by rw [h.len]; decide)]
  exact h.rest 5 (by omega) (by omega)
theorem aw_kept_sound {p : List UInt8} (hp : p.length = 64) : Sound ⟨s, 8, 10, 8, 1, false, noPgs 20, one5 p⟩ := by
  have h1 := (aw_sound h).put 5 hp
  have h2 := h1.join (by rw [aw_tog h, aw_put h]; show 1 ≤ 8; omega)
  have e : sjoin (sput (aw s) 5 p) = ⟨s, 8, 10, 8, 1, false, noPgs 20, one5 p⟩ := by
    rw [aw_put h]
    unfold sjoin
    simp only [h.len, aw_join]
  rw [e] at h2
  exact h2
theorem aw_sync {p : List UInt8} (hp : p.length = 64) : ssyncE ⟨s, 8, 10, 8, 1, false, noPgs 20, one5 p⟩ = 0 ∧ Dk.lastsP (ssync ⟨s, 8, 10, 8, 1, false, noPgs 20, one5 p⟩).dk 5 = p := by
  rcases sync_two (aw_kept_sound h hp) (by show (1 : Int) < 250; omega) with ⟨e1, _, e3, e4, _⟩ | ⟨_, e, _⟩
  · refine ⟨e1, ?_⟩
    have hl : (ssync ⟨s, 8, 10, 8, 1, false, noPgs 20, one5 p⟩).dk.last.length = 20 := e4.trans h.len
    unfold Dk.lastsP
    rw [if_pos (by rw [hl]; decide)]
    show (ssync ⟨s, 8, 10, 8, 1, false, noPgs 20, one5 p⟩).dk.last.getD 5 [] = p
    rw [e3 5 (Or.inl (by show 5 < 8; omega))]
    have hc : chgs (one5 p) = [⟨5, p⟩] := rfl
    show (upd s.last (chgs (one5 p))).getD 5 [] = p
    rw [hc]
    exact Jn.upd_one_at (a := 5) (by rw [h.len]; omega) p
  · have := h.lim
    rw [this] at e; cases e
end
set_option maxRecDepth 100000 in
set_option maxHeartbeats 4000000 in
theorem awake_any (w : World) : Calls Tryz.prog 4 #[] w fun e w' => e = .returned (.bool true) ∧ Below w.heap.size w w' := by
  have HNW : Hid (Calls Tryz.prog 6 #[.int .i64 20] w fun e w' => e = .returned (.tuple #[.pointer (some ⟨w.heap.size + 2, 0, none⟩), .int .i64 0]) ∧ w' = newWorld w 20) := Lib.hid (new_any 20 w (by omega) (by omega))
  obtain ⟨s, hs, hO⟩ := slive_first (w := w) (n := 20) (a := 8) (z := 10) (r := 8) (by omega) (by omega) room10 (by omega) (by omega) (by omega) (by omega)
  have HO : Hid (Calls Tryz.prog 8 #[.pointer (some ⟨w.heap.size + 2, 0, none⟩), .int .i64 8, .int .i64 10] (newWorld w 20) fun e w' => ∃ b : Blk, b.d = w.heap.size + 2 ∧ e = .returned (.tuple #[.pointer (some ⟨b.s, 0, none⟩), .int .i64 0]) ∧ SLive w b (aw s) w') := Lib.hid hO
  have HP1 : Hid (∀ (W : World) (b : Blk), StoreAt W b (aw s) → Calls Tryz.prog 10 #[.pointer (some ⟨b.s, 0, none⟩), .int .i64 5, pageV (pgN 1)] W fun e w' => e = .returned (.int .i64 0) ∧ StoreAt w' b (sput (aw s) 5 (pgN 1)) ∧ Only [b.t] W w') := Lib.hid (fun W b hW => by
    have := sput_any hW 5 (pgN 1) (pgN_length 1)
    rw [aw_putE hs] at this
    exact this)
  have HDR : Hid (∀ (W : World) (b : Blk), StoreAt W b (sput (aw s) 5 (pgN 1)) → Calls Tryz.prog 16 #[.pointer (some ⟨b.s, 0, none⟩)] W fun e w' => e = .returned (.tuple #[]) ∧ StoreAt w' b (aw s) ∧ Only [b.t] W w') := Lib.hid (fun W b hW => by
    have := sdrop_any hW
    rw [aw_drop hs] at this
    exact this)
  have HR1 : Hid (∀ (W : World) (b : Blk), StoreAt W b (aw s) → ∃ E, Calls Tryz.prog 12 #[.pointer (some ⟨b.s, 0, none⟩), .int .i64 5] W fun e w' => e = .returned (.tuple #[pageV zeros, .int .i64 E]) ∧ Below W.heap.size W w') := Lib.hid (fun W b hW => by
    have := sread_any hW 5
    rw [aw_read hs] at this
    exact ⟨_, this⟩)
  have HP2 : Hid (∀ (W : World) (b : Blk), StoreAt W b (aw s) → Calls Tryz.prog 10 #[.pointer (some ⟨b.s, 0, none⟩), .int .i64 5, pageV (pgN 2)] W fun e w' => e = .returned (.int .i64 0) ∧ StoreAt w' b (sput (aw s) 5 (pgN 2)) ∧ Only [b.t] W w') := Lib.hid (fun W b hW => by
    have := sput_any hW 5 (pgN 2) (pgN_length 2)
    rw [aw_putE hs] at this
    exact this)
  have HKP : Hid (∀ (W : World) (b : Blk), StoreAt W b (sput (aw s) 5 (pgN 2)) → Calls Tryz.prog 14 #[.pointer (some ⟨b.s, 0, none⟩)] W fun e w' => e = .returned (.int .i64 0) ∧ StoreAt w' b ⟨s, 8, 10, 8, 1, false, noPgs 20, one5 (pgN 2)⟩ ∧ Only [b.j, b.d, b.l, b.m, b.g, b.t] W w') := Lib.hid (fun W b hW => by
    have := skeep_any hW (by rw [aw_put hs]; show (0 : Int) ≤ 1; omega) (by rw [aw_put hs]; show (1 : Int) < 4294967290; omega)
    rw [aw_keepE hs, aw_keep hs] at this
    exact this)
  have HR2 : Hid (∀ (W : World) (b : Blk), StoreAt W b ⟨s, 8, 10, 8, 1, false, noPgs 20, one5 (pgN 2)⟩ → ∃ E, Calls Tryz.prog 12 #[.pointer (some ⟨b.s, 0, none⟩), .int .i64 5] W fun e w' => e = .returned (.tuple #[pageV (pgN 2), .int .i64 E]) ∧ Below W.heap.size W w') := Lib.hid (fun W b hW => by
    have := sread_any hW 5
    rw [aw_read2 hs] at this
    exact ⟨_, this⟩)
  have HL1 : Hid (∀ (W : World) (b : Blk), StoreAt W b ⟨s, 8, 10, 8, 1, false, noPgs 20, one5 (pgN 2)⟩ → Calls Tryz.prog 26 #[.pointer (some ⟨b.d, 0, none⟩), .int .i64 5] W fun e w' => e = .returned (pageV zeros) ∧ Below W.heap.size W w') := Lib.hid (fun W b hW => by
    have := lasts_any hW.disk 5
    rw [aw_lasts hs] at this
    exact this)
  have HSY : Hid (∀ (W : World) (b : Blk), StoreAt W b ⟨s, 8, 10, 8, 1, false, noPgs 20, one5 (pgN 2)⟩ → Calls Tryz.prog 17 #[.pointer (some ⟨b.s, 0, none⟩)] W fun e w' => e = .returned (.int .i64 0) ∧ StoreAt w' b (ssync ⟨s, 8, 10, 8, 1, false, noPgs 20, one5 (pgN 2)⟩) ∧ Only [b.j, b.d, b.l, b.m, b.g] W w') := Lib.hid (fun W b hW => by
    have := ssync_any hW (show (0 : Int) ≤ 1 by omega) (show (1 : Int) < 4294967290 by omega)
    rw [(aw_sync hs (pgN_length 2)).1] at this
    exact this)
  have HL2 : Hid (∀ (W : World) (b : Blk), StoreAt W b (ssync ⟨s, 8, 10, 8, 1, false, noPgs 20, one5 (pgN 2)⟩) → Calls Tryz.prog 26 #[.pointer (some ⟨b.d, 0, none⟩), .int .i64 5] W fun e w' => e = .returned (pageV (pgN 2)) ∧ Below W.heap.size W w') := Lib.hid (fun W b hW => by
    have := lasts_any hW.disk 5
    rw [(aw_sync hs (pgN_length 2)).2] at this
    exact this)
  have HG1 := Lib.hid (pgN_length 1)
  have HG2 := Lib.hid (pgN_length 2)
  have HZ2 : Hid ((pgN 2).getD 0 0 = 2) := Lib.hid rfl
  have HB1 := Lib.hid built_pg1
  have HB2 := Lib.hid built_pg2
  clear hs hO
  generalize aw s = S0 at *
  generalize sput S0 5 (pgN 1) = S1 at *
  generalize sput S0 5 (pgN 2) = S3 at *
  generalize (⟨s, 8, 10, 8, 1, false, noPgs 20, one5 (pgN 2)⟩ : Sto) = S4 at *
  generalize ssync S4 = S5 at *
  generalize pgN 1 = p1 at *
  generalize pgN 2 = p2 at *
  generalize hdd : w.heap.size + 2 = dd at HNW HO
  clear hdd
  have HE1 := fun (x y : Operand) (w : World) => run_eqGuard_zero w x y zeros
  have HE2 := fun (w : World) => run_eql_zero w zeros zeros_length
  rw [zeroCells_def] at HE1 HE2
  simp only [decide_true] at HE2
  go_enter Tryz.func4, Tryz.ntmps4
  go_wp2_with fail
  refine HNW.out.mono ?_
  rintro e w1 ⟨rfl, rfl⟩
  clear HNW
  generalize newWorld w 20 = w1 at HO ⊢
  go_wp2_with fail
  refine HO.out.mono ?_
  rintro e w2 ⟨b, rfl, rfl, hL⟩
  have HL := Lib.hid hL
  clear HO hL
  go_wp2_with (first
    | ((with_reducible refine wpList_buildG 38 #[(0, .const (.int .u8 1))] (byteVals p1).toArray (some 27) rfl rfl ?_ ?_ ?_); (exact rfl); (simp only [List.map_toArray, List.map_cons, List.map_nil]; exact HB1.out); (rw [pageV_def])))
  refine (HP1.out _ _ HL.out.st).mono ?_
  rintro e w3 ⟨rfl, hS3, hO3⟩
  have HL3 := Lib.hid (HL.out.byOnly hS3 hO3 (by simp [Blk.all]))
  clear HP1 HL hS3 hO3
  go_wp2_with fail
  refine (HDR.out _ _ HL3.out.st).mono ?_
  rintro e w4 ⟨rfl, hS4, hO4⟩
  have HL4 := Lib.hid (HL3.out.byOnly hS4 hO4 (by simp [Blk.all]))
  clear HDR HL3 hS4 hO4
  go_wp2_with fail
  obtain ⟨E1, hRD⟩ := HR1.out _ _ HL4.out.st
  refine hRD.mono ?_
  rintro e w5 ⟨rfl, hB5⟩
  have HL5 := Lib.hid (HL4.out.byBelow hB5)
  have HNB : Hid (∀ L : List Nat, (∀ k ∈ L, k ∈ b.all) → w5.heap.size ∉ L) := Lib.hid (fun L hL q => by have := HL5.out.st.lt _ (hL _ q); omega)
  clear HR1 HL4 hRD hB5
  go_wp2_with (first
    | ((with_reducible refine wpList_store_new rfl (.tmp 5) (.tmp 36) rfl rfl ?_ ?_ zeros_length ?_); (exact rfl); (exact rfl); intro W6 hP6 hB6 hz6; have HL6 := Lib.hid (HL5.out.byBelow hB6); have HQ6 := Lib.hid hP6; clear hP6 hB6 hz6 HL5; generalize w5.heap.size = B5 at HNB HQ6 ⊢)
    | ((with_reducible refine wpList_buildG 38 #[(0, .const (.int .u8 2))] (byteVals p2).toArray (some 39) rfl rfl ?_ ?_ ?_); (exact rfl); (simp only [List.map_toArray, List.map_cons, List.map_nil]; exact HB2.out); (rw [pageV_def])))
  refine (HP2.out _ _ HL6.out.st).mono ?_
  rintro e w7 ⟨rfl, hS7, hO7⟩
  have HL7 := Lib.hid (HL6.out.byOnly hS7 hO7 (by simp [Blk.all]))
  have HQ7 := Lib.hid (HQ6.out.only hO7 (HNB.out _ (by simp [Blk.all])))
  clear HP2 HL6 HQ6 hS7 hO7
  go_wp2_with fail
  refine (HKP.out _ _ HL7.out.st).mono ?_
  rintro e w8 ⟨rfl, hS8, hO8⟩
  have HL8 := Lib.hid (HL7.out.byOnly hS8 hO8 (by simp [Blk.all]))
  have HQ8 := Lib.hid (HQ7.out.only hO8 (HNB.out _ (by simp [Blk.all])))
  clear HKP HL7 HQ7 hS8 hO8
  go_wp2_with fail
  obtain ⟨E2, hRD⟩ := HR2.out _ _ HL8.out.st
  refine hRD.mono ?_
  rintro e w9 ⟨rfl, hB9⟩
  have HL9 := Lib.hid (HL8.out.byBelow hB9)
  have HQ9 := Lib.hid (HQ8.out.below hB9 HQ8.out.lt)
  clear HR2 HL8 HQ8 hRD hB9
  go_wp2_with (first
    | ((with_reducible refine wpList_store_new rfl (.tmp 8) (.tmp 46) rfl rfl ?_ ?_ HG2.out ?_); (exact rfl); (exact rfl); intro W10 hP10 hB10 hz10; have HLA := Lib.hid (HL9.out.byBelow hB10); have HQA := Lib.hid (HQ9.out.below hB10 HQ9.out.lt); have c0 := hP10.cell 0 (by omega); rw [HZ2.out] at c0; clear hP10 hB10 hz10 HL9 HQ9; generalize w9.heap.size = B9 at c0 ⊢)
    | (with_reducible refine wpList_load_page HQA.out rfl (.tmp 5) rfl rfl ?_))
  refine (HL1.out _ _ HLA.out.st).mono ?_
  rintro e w11 ⟨rfl, hB11⟩
  have HLB := Lib.hid (HLA.out.byBelow hB11)
  clear HL1 HLA HQA hB11 c0
  go_wp2_with fail
  refine (HSY.out _ _ HLB.out.st).mono ?_
  rintro e w12 ⟨rfl, hS12, hO12⟩
  have HLC := Lib.hid (HLB.out.byOnly hS12 hO12 (by simp [Blk.all]))
  clear HSY HLB hS12 hO12
  go_wp2_with fail
  refine (HL2.out _ _ HLC.out.st).mono ?_
  rintro e w13 ⟨rfl, hB13⟩
  have HLD := Lib.hid (HLC.out.byBelow hB13)
  clear HL2 HLC hB13
  have HIX := run_index0 w13 p2 HG2.out
  rw [HZ2.out] at HIX
  go_wp2_with fail
  go_ret
  exact ⟨rfl, HLD.out.bel⟩
end Go.Proofs.YtppbiohjhnoagaaGreat

/-
  A statement's calls: a slice of them, opened; one in a variable.
-/
namespace Go.Proofs.YtppbiohjhnoagaaGreat
open Go.ChangeShapes Go.WideShapes Go.ChangeAt Go.RowKit
open Dk (zeros zeros_length)

/-! ### a statement's calls -/
structure OpV where
  K : Int
  N : Int
  page : List UInt8
  A : Option Addr
  n : Nat
  c : Nat
  keep : List UInt8
def opVals (o : OpV) : List Value := .int .i64 o.K :: .int .i64 o.N :: (byteVals o.page ++ [.slice o.A o.n o.c])
structure OpOk (W : World) (o : OpV) : Prop where
  page : o.page.length = 64
  lo : -9223372036854775808 ≤ o.N
  hi : o.N ≤ 9223372036854775807
  keep : ByteRow W o.A o.n o.c o.keep
set_option maxRecDepth 100000 in
theorem opVals_length {W : World} {o : OpV} (h : OpOk W o) : (opVals o).length = 67 := by unfold opVals; simp [byteVals_length, h.page]
structure OpRow (w : World) (A : Option Addr) (n : Nat) (os : List OpV) : Prop where
  len : os.length = n
  small : n ≤ maxLen
  ok : ∀ o ∈ os, OpOk w o
  cells : 0 < n → ∃ b off, A = some ⟨b, off, none⟩ ∧ b < w.heap.size ∧ ∀ i o, os[i]? = some o → w.rangeAt b (off + i * 67) (opVals o)
set_option maxRecDepth 100000 in
theorem cellsO : Tryz.prog.cellsOf 41 = 67 := by kernel_rfl
set_option maxRecDepth 100000 in
theorem cellsI : Tryz.prog.cellsOf 3 = 1 := by kernel_rfl
set_option maxRecDepth 100000 in
theorem op_cells {H : Type} {enc : TypeId × Value → H} {W : World} {fuel : Nat} {cs : List Value} {x : DataW H × List MemPlace} (ht : DataW.trod enc Tryz.prog W 0 (fun _ => true) true fuel 41 cs = some x) :
    ∃ o : OpV, OpOk W o ∧ cs = opVals o := by
  obtain ⟨y0, y1, y2, y3, n, _, hcl, h0, h1, h2, h3⟩ := Joins.trod_struct4 Tryz.underlying41 ht
  rw [cellsO] at hcl
  obtain ⟨K, e0, _, _⟩ := DataW.trod_int Tryz.underlying3 h0
  obtain ⟨N, e1, _, w1⟩ := DataW.trod_int Tryz.underlying3 h1
  obtain ⟨p, hp, e2⟩ := page_cells h2
  obtain ⟨A, m, c, bs, e3, hb⟩ := bytes_cells h3
  have hb1 := bounds_i64 w1
  refine ⟨⟨K, N, p, A, m, c, bs⟩, ⟨hp, hb1.1, hb1.2, hb⟩, ?_⟩
  have c0 : (cs.drop 0).take (Tryz.prog.cellsOf 3) = [.int .i64 K] := e0
  have c1 : (cs.drop 1).take (Tryz.prog.cellsOf 3) = [.int .i64 N] := e1
  have c2 : (cs.drop 2).take (Tryz.prog.cellsOf 38) = byteVals p := e2
  have c3 : (cs.drop 66).take (Tryz.prog.cellsOf 39) = [.slice A m c] := e3
  rw [cellsI] at c0 c1
  rw [cellsP] at c2
  rw [cellsB] at c3
  have hd : cs = (cs.drop 0).take 1 ++ ((cs.drop 1).take 1 ++ ((cs.drop 2).take 64 ++ (cs.drop 66).take 1)) := by
    have h66 : (cs.drop 66).take 1 = cs.drop 66 := List.take_of_length_le (by rw [List.length_drop]; omega)
    have h2 : (cs.drop 2).take 64 ++ cs.drop 66 = cs.drop 2 := by
      have := List.take_append_drop 64 (cs.drop 2)
      rwa [List.drop_drop] at this
    have h1 : (cs.drop 1).take 1 ++ cs.drop 2 = cs.drop 1 := by
      have := List.take_append_drop 1 (cs.drop 1)
      rwa [List.drop_drop] at this
    rw [h66, h2, h1, List.drop_zero, List.take_append_drop]
  rw [hd, c0, c1, c2, c3]
  rfl
set_option maxRecDepth 100000 in
theorem open_ops {H : Type} {enc : TypeId × Value → H} {W : World} {base : Nat} {v : Value} {d : DataW H} {p : List MemPlace} (hv : Value.okWide Tryz.prog W .any base 22 v)
    (h : DataW.Trod enc Tryz.prog W 0 (fun _ => true) true 22 v d p) : ∃ A n c os, v = .slice A n c ∧ OpRow W A n os := by
  obtain ⟨A, n, c, rfl⟩ := okWide_slice Tryz.underlying22 hv
  obtain ⟨fuel, hf⟩ := h
  rcases Go.Deep.open_slice Tryz.underlying22 hf with ⟨hcs, _⟩ | ⟨a, len, cap, m, k, D, Pl, hcs, _, hl, hm, hmm, _, hi⟩
  · simp [Value.cells] at hcs
    obtain ⟨rfl, rfl, rfl⟩ := hcs
    exact ⟨_, _, _, [], rfl, rfl, by unfold maxLen; omega, fun o ho => absurd ho (by simp), fun hn => by omega⟩
  · simp [Value.cells] at hcs
    obtain ⟨rfl, rfl, rfl⟩ := hcs
    simp only [if_true] at hmm
    have each : ∀ i, i < n → ∃ o : OpV, OpOk W o ∧ ∀ j u, (opVals o)[j]? = some u → W.cell? ((a.add (i * 67)).add j) = some u := by
      intro i hin
      obtain ⟨cs, hc, ht⟩ := hi i (by omega)
      rw [cellsO] at hc
      obtain ⟨_, hcl, hat⟩ := World.cells?_some hc
      obtain ⟨o, ho, he⟩ := op_cells ht
      refine ⟨o, ho, fun j u hu => ?_⟩
      rw [← he] at hu
      have hj : j < 67 := by have := (List.getElem?_eq_some_iff.1 hu).1; omega
      rw [hat j hj, hu]
    obtain ⟨os, hol, hos⟩ := list_of _ n each
    have hget : ∀ i o, os[i]? = some o → OpOk W o ∧ ∀ j u, (opVals o)[j]? = some u → W.cell? ((a.add (i * 67)).add j) = some u := by
      intro i o ho
      have hin : i < n := by have := (List.getElem?_eq_some_iff.1 ho).1; omega
      obtain ⟨q, hq, h1⟩ := hos i hin
      rw [ho] at hq
      injection hq with hq
      rw [hq]; exact h1
    refine ⟨_, _, _, os, rfl, hol, by omega, fun o ho => ?_, fun hn => ?_⟩
    · obtain ⟨i, hi', he⟩ := List.getElem_of_mem ho
      exact (hget i o (by rw [List.getElem?_eq_getElem hi', he])).1
    · obtain ⟨o0, ho0⟩ : ∃ o, os[0]? = some o := ⟨_, List.getElem?_eq_getElem (by omega)⟩
      obtain ⟨b, off, spot⟩ := a
      have hcell0 := (hget 0 o0 ho0).2 0 _ (show (opVals o0)[0]? = some (.int .i64 o0.K) from rfl)
      have hspot : spot = none := by simpa [Addr.add] using World.cell?_spot hcell0
      subst hspot
      refine ⟨b, off, rfl, ?_, fun i o ho j u hu => ?_⟩
      · rw [Addr.add_mid, Addr.add_mid] at hcell0
        exact World.block_lt_of_cell? W _ hcell0
      · have := (hget i o ho).2 j u hu
        rw [Addr.add_mid, Addr.add_mid] at this
        exact this
/-! ### a call in a variable -/
structure OpVar (W : World) (B : Nat) (o : OpV) : Prop where
  k : W.cell? ⟨B, 0, none⟩ = some (.int .i64 o.K)
  n : W.cell? ⟨B, 1, none⟩ = some (.int .i64 o.N)
  page : W.rangeAt B 2 (byteVals o.page)
  keep : W.cell? ⟨B, 66, none⟩ = some (.slice o.A o.n o.c)
set_option maxRecDepth 100000 in
theorem OpVar.block {W W' : World} {B : Nat} {o : OpV} (h : OpVar W B o) (hb : W'.heap[B]? = W.heap[B]?) : OpVar W' B o :=
  ⟨(World.cell?_of_block (w := W) (a := ⟨B, 0, none⟩) hb).trans h.k, (World.cell?_of_block (w := W) (a := ⟨B, 1, none⟩) hb).trans h.n, rangeAt_block h.page hb, (World.cell?_of_block (w := W) (a := ⟨B, 66, none⟩) hb).trans h.keep⟩
set_option maxRecDepth 100000 in
theorem OpVar.lt {W : World} {B : Nat} {o : OpV} (h : OpVar W B o) : B < W.heap.size := World.block_lt_of_cell? W _ h.k
set_option maxRecDepth 100000 in
theorem OpVar.byBelow {W W' : World} {B : Nat} {o : OpV} (h : OpVar W B o) (hb : Below W.heap.size W W') : OpVar W' B o := h.block (hb.block B h.lt)
set_option maxRecDepth 100000 in
theorem OpVar.byOnly {W W' : World} {B : Nat} {o : OpV} {L : List Nat} (h : OpVar W B o) (ho : Only L W W') (hB : B ∉ L) : OpVar W' B o := h.block (ho.block B h.lt hB)
set_option maxRecDepth 100000 in
theorem opVar_of {W : World} {B : Nat} {o : OpV} (hp : o.page.length = 64) (h : W.rangeAt B 0 (opVals o)) : OpVar W B o where
  k := by
    have := h 0 _ (show (opVals o)[0]? = some (.int .i64 o.K) from rfl)
    rwa [Nat.zero_add] at this
  n := by
    have := h 1 _ (show (opVals o)[1]? = some (.int .i64 o.N) from rfl)
    rwa [Nat.zero_add] at this
  page := fun j v hv => by
    have hj : j < 64 := by
      have := (List.getElem?_eq_some_iff.1 hv).1
      rw [byteVals_length, hp] at this; exact this
    have := h (2 + j) v (by
      unfold opVals
      rw [Nat.add_comm 2 j]
      show ((byteVals o.page ++ [.slice o.A o.n o.c]))[j]? = some v
      rw [List.getElem?_append_left (by rw [byteVals_length, hp]; exact hj)]
      exact hv)
    rwa [Nat.zero_add] at this
  keep := by
    have := h 66 (.slice o.A o.n o.c) (by
      unfold opVals
      show ((byteVals o.page ++ [.slice o.A o.n o.c]))[64]? = some _
      rw [List.getElem?_append_right (by rw [byteVals_length, hp]; exact Nat.le_refl _), byteVals_length, hp]; rfl)
    rwa [Nat.zero_add] at this
set_option maxRecDepth 100000 in
theorem opVals_one (o : OpV) : ∀ v ∈ opVals o, v.oneCell' = true := by
  intro v hv
  unfold opVals at hv
  simp only [List.mem_cons, List.mem_append, List.not_mem_nil, or_false] at hv
  rcases hv with rfl | rfl | hv | rfl
  · rfl
  · rfl
  · exact byteVals_one _ v hv
  · rfl
set_option maxRecDepth 100000 in
theorem op_info : (Tryz.prog.info? 41).map (·.size) = some 67 := by kernel_rfl
set_option maxRecDepth 100000 in
theorem op_row : ∃ d, Tryz.prog.underlying 41 = some d ∧ d.isRow = true := ⟨_, Tryz.underlying41, rfl⟩
def opZero : Array Value := (opVals ⟨0, 0, zeros, none, 0, 0, []⟩).toArray
set_option maxRecDepth 100000 in
theorem opZero_size : opZero.size = 67 := by unfold opZero opVals; simp [byteVals_length, zeros_length]
set_option maxRecDepth 100000 in
theorem zeroOp (w : World) : (zeroValue 41).run Tryz.prog w = .ok (.agg opZero) w := by kernel_rfl
set_option maxRecDepth 100000 in
/-- a call is loaded out of its slice -/
theorem wpList_load_op {ops : Array Oper} {rest : List Oper} {op : Oper} {a : Act} {Q : Exit → Act → World → Prop} {w : World} {b o : Nat} {x : OpV} (hx : (opVals x).length = 67) (h : w.rangeAt b o (opVals x)) (hgd : op.guard = none) (y : Operand) (ho : op.op = .load 41 y)
    (hy : a.eval y = .pointer (some ⟨b, o, none⟩)) (hK : wpList Tryz.prog ops Q rest (a.put op.dst (.agg (opVals x).toArray)) w) : wpList Tryz.prog ops Q (op :: rest) a w := by
  obtain ⟨dd, h1, h2⟩ := op_row
  exact wpList_load_mid hgd 41 y ho b o hy (opVals x) dd h h1 h2 (by rw [op_info, hx]) hK
set_option maxRecDepth 100000 in
/-- and laid into a new variable -/
theorem wpList_store_op {ops : Array Oper} {rest : List Oper} {op : Oper} {a : Act} {Q : Exit → Act → World → Prop} {w : World} {Z : Array Value} {t : TypeId} {v : OpV} (hp : v.page.length = 64) (hgd : op.guard = none) (x y : Operand) (ho : op.op = .store 41 x y)
    (hx : a.eval x = .pointer (some ⟨w.heap.size, 0, none⟩)) (hy : a.eval y = .agg (opVals v).toArray) (hZ : Z.size = 67)
    (h : ∀ W2, OpVar W2 w.heap.size v → Below w.heap.size w W2 → W2.heap.size = w.heap.size + 1 → wpList Tryz.prog ops Q rest (a.put op.dst undef) W2) :
    wpList Tryz.prog ops Q (op :: rest) a (w.alloc (.cells Z t)) := by
  have hl : (opVals v).length = 67 := by unfold opVals; simp [byteVals_length, hp]
  have hlen : (opVals v).toArray.size = 67 := by rw [List.size_toArray, hl]
  have ht : (w.alloc (.cells Z t)).there w.heap.size 0 67 := there_new w Z t _ (by omega)
  refine wpList_store_mid hgd 41 x y ho w.heap.size 0 (opVals v).toArray hx hy (by rw [hlen]; exact ht) (by rw [op_info, hlen]) (all_oneCell_toArray (opVals_one v)) (h _ ?_ ?_ ?_)
  · exact opVar_of hp (World.rangeAt_setCells_same _ _ _ _ (by rw [List.toList_toArray, hl]; exact ht))
  · exact below_setCells _ (Nat.le_refl _) _ _ _ ((Below.refl _ _).alloc (Nat.le_refl _) _)
  · rw [heap_setCells]; simp
set_option maxRecDepth 100000 in
/-- a page is loaded out of the variable -/
theorem wpList_load_opPage {ops : Array Oper} {rest : List Oper} {op : Oper} {a : Act} {Q : Exit → Act → World → Prop} {w : World} {B : Nat} {v : OpV} (h : OpVar w B v) (hp : v.page.length = 64) (hgd : op.guard = none) (y : Operand) (ho : op.op = .load 38 y)
    (hy : a.eval y = .pointer (some ⟨B, 2, none⟩)) (hK : wpList Tryz.prog ops Q rest (a.put op.dst (pageV v.page)) w) : wpList Tryz.prog ops Q (op :: rest) a w :=
  wpList_load_mid hgd 38 y ho B 2 hy (byteVals v.page) _ h.page Tryz.underlying38 rfl (by rw [page_info, byteVals_length, hp]) hK
end Go.Proofs.YtppbiohjhnoagaaGreat

/-
  The contract of the statement's great.
-/
namespace Go.Proofs.YtppbiohjhnoagaaGreat
open Go.RowKit
open Dk (zeros zeros_length)

/-! ### great -/
def bigB (os : List OpV) : Bool := os.any fun o => decide (600 < o.n)
def greatB (n : Nat) (os : List OpV) : Bool := decide (80 < n) || bigB os
theorem bigB_cons (x : OpV) (r : List OpV) : bigB (x :: r) = (decide (600 < x.n) || bigB r) := rfl
set_option maxRecDepth 100000 in
set_option maxHeartbeats 2000000 in
theorem great_any (A : Option Addr) (n c : Nat) (os : List OpV) (w : World) (hrow : OpRow w A n os) : Calls Tryz.prog 5 #[.slice A n c] w fun e w' => e = .returned (.bool (greatB n os)) ∧ Below w.heap.size w w' := by
  have hsm := hrow.small
  unfold maxLen at hsm
  by_cases h80 : 80 < n
  · have HE : Hid (greatB n os = true) := Lib.hid (by unfold greatB; rw [decide_eq_true h80]; rfl)
    have h80' : (80 : Int) < (n : Int) := by omega
    rw [HE.out]
    clear hrow HE
    go_enter Tryz.func5, Tryz.ntmps5
    go_wp2
    go_ret
    exact ⟨rfl, Below.refl _ _⟩
  · have HE : Hid (greatB n os = bigB os) := Lib.hid (by unfold greatB; rw [decide_eq_false h80]; rfl)
    have h80' : ¬ ((80 : Int) < (n : Int)) := by omega
    rw [HE.out]
    have HR := Lib.hid hrow
    clear hrow HE h80
    go_enter Tryz.func5, Tryz.ntmps5
    go_wp2_with fail
    go_loopw [10] (fun i wr => ∃ k : Nat, k ≤ n ∧ i = .int .i64 k ∧ Below w.heap.size w wr ∧ bigB os = bigB (os.drop k)) (fun i _ => n - (intOf i).toNat)
    case atStart => exact ⟨0, by omega, rfl, Below.refl _ _, rfl⟩
    case round =>
      obtain ⟨k, hk, rfl, hbel, hany⟩ := hrel
      have HA := Lib.hid hany
      have HBL := Lib.hid hbel
      clear hany hbel
      by_cases hlt : k < n
      · obtain ⟨ob, oo, rfl, hob, hoc⟩ := HR.out.cells (by omega)
        obtain ⟨x, hx⟩ : ∃ x, os[k]? = some x := ⟨_, List.getElem?_eq_getElem (by rw [HR.out.len]; exact hlt)⟩
        have hok := HR.out.ok x (List.mem_of_getElem? hx)
        have HOL := Lib.hid (opVals_length hok)
        have HPG := Lib.hid hok.page
        have hmax := hok.keep.small
        unfold maxLen at hmax
        have HRG : Hid (wr.rangeAt ob (oo + k * 67) (opVals x)) := Lib.hid (fun j v hv => (HBL.out.cell (p := ⟨ob, oo + k * 67 + j, none⟩) hob).trans (hoc k x hx j v hv))
        have HD : Hid (bigB os = (decide (600 < x.n) || bigB (os.drop (k + 1)))) := Lib.hid (by
          obtain ⟨h1, h2⟩ := List.getElem?_eq_some_iff.1 hx
          rw [HA.out, List.drop_eq_getElem_cons h1, h2, bigB_cons])
        have hlt' : (k : Int) < (n : Int) := by omega
        clear hx hok hob hoc
        have hzo := zeroOp
        by_cases h60 : 600 < x.n
        · have h60' : (600 : Int) < (x.n : Int) := by omega
          have HE : Hid (bigB os = true) := Lib.hid (by rw [HD.out, decide_eq_true h60]; rfl)
          go_wp2_with (first
            | ((with_reducible refine wpList_load_op HOL.out HRG.out rfl (.tmp 12) rfl ?_ ?_); (exact rfl))
            | ((with_reducible refine wpList_store_op (v := x) HPG.out rfl (.tmp 4) (.tmp 13) rfl rfl ?_ opZero_size ?_); (exact rfl); intro W2 hP hB2 hz2; have c66 := hP.keep; have HB2 := Lib.hid (HBL.out.trans (hB2.mono HBL.out.size)); clear hP hB2 hz2; generalize wr.heap.size = B at c66 ⊢))
          go_ret
          exact ⟨by rw [HE.out]; rfl, HB2.out⟩
        · have h60' : ¬ (600 : Int) < (x.n : Int) := by omega
          have HE : Hid (bigB os = bigB (os.drop (k + 1))) := Lib.hid (by rw [HD.out, decide_eq_false h60]; rfl)
          go_wp2_with (first
            | ((with_reducible refine wpList_load_op HOL.out HRG.out rfl (.tmp 12) rfl ?_ ?_); (exact rfl))
            | ((with_reducible refine wpList_store_op (v := x) HPG.out rfl (.tmp 4) (.tmp 13) rfl rfl ?_ opZero_size ?_); (exact rfl); intro W2 hP hB2 hz2; have c66 := hP.keep; have HB2 := Lib.hid (HBL.out.trans (hB2.mono HBL.out.size)); clear hP hB2 hz2; generalize wr.heap.size = B at c66 ⊢))
          go_roundw
          case rel => exact ⟨k + 1, by omega, by go_num, HB2.out, HE.out⟩
          case measure => simp [intOf]; omega
      · obtain rfl : k = n := by omega
        have HE : Hid (bigB os = false) := Lib.hid (by rw [HA.out, List.drop_of_length_le (by rw [HR.out.len]; omega)]; rfl)
        go_wp2_with fail
        go_ret
        exact ⟨by rw [HE.out]; rfl, HBL.out⟩
end Go.Proofs.YtppbiohjhnoagaaGreat
