/-
  The contract of a store's Open, over the journal's.
-/
import Derived.Test.YteedglcbodpcdaaMsa
import Derived.Test.YteedglcbodpcdaaMje
import Derived.Test.YteedglcbodpcdaaMsc
import Derived.Test.YteedglcbodpcdaaMdb
namespace Go.Proofs.Yteedglcbodpcdaa
open Go.RowKit Go.Maps
open Dk (zeros zeros_length)
open Hd (Head rightB pageH)
open Jn (Chg quietH liveH Cl Quiet LiveD May Same upd)

def sto0 (s : Dk.St) (a z r : Nat) (q : Int) : Sto := ⟨s, a, z, r, q, false, noPgs s.last.length, noPgs s.last.length⟩
/-- what a store's Open leaves -/
def SOpened (w : World) (d l m a z r : Nat) (R : Dk.St × Int) (P : Int → Int → Prop) (e : Ending) (w' : World) : Prop :=
  DiskAt w' d l m R.1 ∧ Only [d, l, m] w w' ∧
  ((R.2 = 0 ∧ ∃ (b : Blk) (cnt q : Int), b.d = d ∧ b.l = l ∧ b.m = m ∧ w.heap.size ≤ b.s ∧ w.heap.size ≤ b.j ∧ w.heap.size ≤ b.t ∧ w.heap.size ≤ b.g ∧ e = .returned (.tuple #[.pointer (some ⟨b.s, 0, none⟩), .int .i64 0]) ∧ P cnt q ∧ StoreAt w' b (sto0 R.1 a z r q)) ∨
   (R.2 ≠ 0 ∧ e = .returned (.tuple #[.pointer none, .int .i64 R.2])))
theorem sto0_ok {s : Dk.St} {a z r : Nat} {q : Int} (ha : a ≤ 900) (hz : z ≤ 900) (hroom : RoomIs z r) (hr1 : 1 ≤ r) (hr2 : r ≤ 32) (hr3 : 2 + r ≤ z) (hreg : a + z ≤ s.last.length) : (sto0 s a z r q).Ok :=
  ⟨List.length_replicate, List.length_replicate, pagesOk_no _ _ _ _, pagesOk_no _ _ _ _, by show cntO (noPgs _) ≤ _; rw [cntO_no]; exact Nat.zero_le _, by show cntO (noPgs _) ≤ _; rw [cntO_no]; exact Nat.zero_le _, ha, hz, hreg, hroom, hr1, hr2, hr3⟩
theorem store_new {w w2 : World} {d l m j a z r : Nat} {q : Int} {s : Dk.St} {T : TypeId} (hd : DiskAt w2 d l m s) (hj : JAt w2 j d a z q false) (ho : Only [d, l, m] w w2) (hlt : d < w.heap.size ∧ l < w.heap.size ∧ m < w.heap.size) (hjj : w.heap.size ≤ j) (hok : (sto0 s a z r q).Ok) :
    StoreAt (((w2.alloc (.map #[] 0)).alloc (.map #[] 0)).alloc (.cells (stVals ⟨w2.heap.size + 2, j, d, l, m, w2.heap.size, w2.heap.size + 1⟩ a z).toArray T)) ⟨w2.heap.size + 2, j, d, l, m, w2.heap.size, w2.heap.size + 1⟩ (sto0 s a z r q) ∧
    Only [d, l, m] w (((w2.alloc (.map #[] 0)).alloc (.map #[] 0)).alloc (.cells (stVals ⟨w2.heap.size + 2, j, d, l, m, w2.heap.size, w2.heap.size + 1⟩ a z).toArray T)) := by
  have hjlt := hj.lt
  have hsz := ho.size
  have h1 : (w2.alloc (.map #[] 0)).heap.size = w2.heap.size + 1 := by simp
  have h2 : ((w2.alloc (.map #[] 0)).alloc (.map #[] 0)).heap.size = w2.heap.size + 2 := by simp
  have m1 := mapAt_made w2 s.last.length
  have m2 := mapAt_made (w2.alloc (.map #[] 0)) s.last.length
  rw [h1] at m2
  have r3 := rowAt_new ((w2.alloc (.map #[] 0)).alloc (.map #[] 0)) (stVals ⟨w2.heap.size + 2, j, d, l, m, w2.heap.size, w2.heap.size + 1⟩ a z) T
  rw [h2] at r3
  have b1 : ∀ k, k < w2.heap.size + 1 → ((w2.alloc (.map #[] 0)).alloc (.map #[] 0)).heap[k]? = (w2.alloc (.map #[] 0)).heap[k]? := fun k hk => Below.heap_alloc _ _ k (by omega)
  have b2 : ∀ k, k < w2.heap.size + 2 → (((w2.alloc (.map #[] 0)).alloc (.map #[] 0)).alloc (.cells (stVals ⟨w2.heap.size + 2, j, d, l, m, w2.heap.size, w2.heap.size + 1⟩ a z).toArray T)).heap[k]? = ((w2.alloc (.map #[] 0)).alloc (.map #[] 0)).heap[k]? := fun k hk => Below.heap_alloc _ _ k (by omega)
  refine ⟨⟨r3, ⟨q, ?_, fun _ => rfl⟩, (((hd.alloc _).alloc _).alloc _), ?_, ?_, ?_, hok⟩, ((ho.alloc _).alloc _).alloc _⟩
  · exact ((hj.block (Below.heap_alloc _ _ j hjlt)).block (b1 j (by omega))).block (b2 j (by omega))
  · exact (m1.block (b1 _ (by omega))).block (b2 _ (by show w2.heap.size < _; omega))
  · exact m2.block (b2 _ (by show w2.heap.size + 1 < _; omega))
  · have e1 := hd.dl
    have e2 := hd.dm
    have e3 := hd.lm
    unfold Blk.all
    simp only [List.nodup_cons, List.mem_cons, List.not_mem_nil, or_false, not_or, List.nodup_nil, not_false_eq_true, and_true]
    omega
set_option maxRecDepth 100000 in
set_option maxHeartbeats 2000000 in
theorem sopen_any {w : World} {d l m a z r : Nat} {R : Dk.St × Int} {P : Int → Int → Prop} (hd : d < w.heap.size ∧ l < w.heap.size ∧ m < w.heap.size) (hlen : a + z ≤ R.1.last.length) (ha : a ≤ 900) (hz : z ≤ 900) (hroom : RoomIs z r) (hr1 : 1 ≤ r) (hr2 : r ≤ 32) (hr3 : 2 + r ≤ z)
    (hO : Calls Try.prog 23 #[.pointer (some ⟨d, 0, none⟩), .int .i64 (a : Int), .int .i64 (z : Int)] w (Opened w d l m a z R P)) :
    Calls Try.prog 9 #[.pointer (some ⟨d, 0, none⟩), .int .i64 (a : Int), .int .i64 (z : Int)] w (SOpened w d l m a z r R P) := by
  have HO := Lib.hid hO
  have HD := Lib.hid hd
  have HOK := Lib.hid (fun q => sto0_ok (s := R.1) (q := q) ha hz hroom hr1 hr2 hr3 hlen)
  clear hO hd hlen hroom hr1 hr2 hr3
  have hmm := @run_makeMap Try.prog
  go_enter Try.func9, Try.ntmps9
  go_wp2_with fail
  refine HO.out.mono ?_
  rintro e w2 ⟨hd2, ho2, hc⟩
  have HD2 := Lib.hid hd2
  have HO2 := Lib.hid ho2
  clear hd2 ho2 HO
  rcases hc with ⟨hz0, j, cnt, q, rfl, hj, hP, hjj⟩ | ⟨hz0, rfl⟩
  · have HZ := Lib.hid hz0
    have HN := Lib.hid (store_new (T := 62) HD2.out hj HO2.out HD.out hjj (HOK.out q))
    have HP := Lib.hid hP
    have HJJ := Lib.hid hjj
    have HSZ := Lib.hid HO2.out.size
    clear hj hP hjj hz0
    unfold stVals at HN
    go_wp2_with fail
    go_ret2
    have h3 : (((w2.alloc (.map #[] 0)).alloc (.map #[] 0)).heap.size) = w2.heap.size + 2 := by simp
    have hs := HSZ.out
    exact ⟨HN.out.1.disk, HN.out.2, Or.inl ⟨HZ.out, ⟨w2.heap.size + 2, j, d, l, m, w2.heap.size, w2.heap.size + 1⟩, cnt, q, rfl, rfl, rfl, (by show w.heap.size ≤ w2.heap.size + 2; omega), HJJ.out, (by show w.heap.size ≤ w2.heap.size; omega), (by show w.heap.size ≤ w2.heap.size + 1; omega), rfl, HP.out, HN.out.1⟩⟩
  · have hne2 : (R.2 == 0) = false := by simpa using hz0
    have hne3 : (R.2 != 0) = true := by simpa using hz0
    have HZ := Lib.hid hz0
    clear hz0
    generalize hE : R.2 = E at hne2 hne3 ⊢
    have HE := Lib.hid hE
    clear hE
    go_wp2_with fail
    go_ret2
    exact ⟨HD2.out, HO2.out, Or.inr ⟨HZ.out, by rw [HE.out]; rfl⟩⟩
end Go.Proofs.Yteedglcbodpcdaa

/-
  A store over a clean disk: what a Sync leaves, done or broken off; the first Open.
-/
namespace Go.Proofs.Yteedglcbodpcdaa
open Go.RowKit Go.Maps
open Dk (zeros zeros_length)
open Hd (Head rightB pageH)
open Jn (Chg quietH liveH Cl Quiet LiveD May Same upd)

theorem room10 : RoomIs 10 8 := fun w => by
  show Calls Try.prog 36 #[.int .i64 10] w fun e w' => e = .returned (.int .i64 8) ∧ w = w'
  go_enter Try.func36, Try.ntmps36
  go_wp2
  go_ret
  exact ⟨rfl, rfl⟩
theorem room16 : RoomIs 16 14 := fun w => by
  show Calls Try.prog 36 #[.int .i64 16] w fun e w' => e = .returned (.int .i64 14) ∧ w = w'
  go_enter Try.func36, Try.ntmps36
  go_wp2
  go_ret
  exact ⟨rfl, rfl⟩
theorem room17 : RoomIs 17 15 := fun w => by
  show Calls Try.prog 36 #[.int .i64 17] w fun e w' => e = .returned (.int .i64 15) ∧ w = w'
  go_enter Try.func36, Try.ntmps36
  go_wp2
  go_ret
  exact ⟨rfl, rfl⟩

/-- a store that is not over, on a clean disk -/
structure Sound (s : Sto) : Prop where
  ok : s.Ok
  up : s.over = false
  cl : Cl s.dk
  q0 : 0 ≤ s.q
  head : s.dk.last.getD s.a [] = pageH (quietH s.q)
theorem Sound.may {s : Sto} (h : Sound s) (hc : cntO s.group ≠ 0) : May s.a s.z s.dk.last.length (chgs s.group) :=
  takes_may (r := s.r) (chgs_takes h.ok.gpg) (chgs_pages h.ok.gpg) (by rw [chgs_length]; omega) (by rw [chgs_length]; exact h.ok.gcnt) h.ok.r32 h.ok.rz h.ok.reg h.cl.ok.small
theorem Sound.step {s : Sto} (h : Sound s) {c : Pgs} (hok : Sto.Ok { s with step := c }) : Sound { s with step := c } := ⟨hok, h.up, h.cl, h.q0, h.head⟩
theorem Sound.put {s : Sto} (h : Sound s) (i : Int) {p : List UInt8} (hp : p.length = 64) : Sound (sput s i p) := by
  unfold sput
  split
  · rename_i he
    unfold sputE at he
    split at he
    · rename_i hr
      have h2 := of_decide_eq_true (show otherB s.dk.last.length s.a s.z i = true by
        unfold sreachE at hr
        split at hr
        · cases hr
        · split at hr
          · assumption
          · cases hr)
      obtain ⟨k, rfl⟩ := Int.eq_ofNat_of_zero_le h2.1
      rw [Int.toNat_natCast] at he ⊢
      split at he
      · cases he
      · rename_i hf
        exact h.step (sput_ok h.ok hp (decide_eq_true h2) hf)
    · rename_i hr
      exact absurd he hr
  · exact h
theorem Sound.drop {s : Sto} (h : Sound s) : Sound (sdrop s) := h.step (sdrop_ok h.ok)
theorem Sound.join {s : Sto} (h : Sound s) (hc : stog s ≤ s.r) : Sound (sjoin s) := ⟨sjoin_ok h.ok hc, h.up, h.cl, h.q0, h.head⟩
/-- a Sync: done, or broken off -/
theorem sync_two {s : Sto} (h : Sound s) (hq : s.q < 250) :
    (ssyncE s = 0 ∧ Sound (ssync s) ∧ Same s.a s.z (ssync s).dk.last (upd s.dk.last (chgs s.group)) ∧ (ssync s).dk.last.length = s.dk.last.length ∧ (ssync s).q ≤ s.q + 2 ∧ (ssync s).dk.lim = s.dk.lim) ∨
    (ssyncE s = 5 ∧ s.dk.lim = true ∧ (ssync s).over = true ∧ (ssync s).dk.Ok ∧ cntO s.group ≠ 0 ∧ ∀ keep, Good false s.a s.z (s.q + 2) (chgs s.group) s.dk.last (Dk.crash (ssync s).dk keep).last) := by
  have hnn : ¬ s.over = true := by rw [h.up]; simp
  by_cases hz : cntO s.group = 0
  · left
    have hs : ssync s = s := by unfold ssync; rw [if_neg hnn, if_pos hz]
    have hcs : chgs s.group = [] := List.eq_nil_of_length_eq_zero (by rw [chgs_length]; exact hz)
    refine ⟨by unfold ssyncE; rw [if_neg hnn, if_pos hz], by rw [hs]; exact h, ?_, by rw [hs], by rw [hs]; omega, by rw [hs]⟩
    rw [hs, hcs]
    exact fun _ _ => rfl
  · have hm := h.may hz
    have hE : ssyncE s = (srun s).2 := by unfold ssyncE; rw [if_neg hnn, if_neg hz]
    have hS : ssync s = if (srun s).2 = 0 then { scommit s with group := noPgs s.dk.last.length } else scommit s := by unfold ssync; rw [if_neg hnn, if_neg hz]
    have hC : (srun s).1.last.length = s.dk.last.length := srun_len s
    have hok := scommit_ok h.ok
    have hcl := sclear_ok hok (n := s.dk.last.length) hC.symm
    rcases Jn.commitM h.cl hm h.q0 hq h.head with ⟨e1, e2, e3, e4, e5⟩ | ⟨e1, e2, e3, e4⟩
    · left
      rw [show Jn.runs s.dk (Jn.steps s.a s.q (chgs s.group)) = srun s from rfl] at e1 e2 e3 e4 e5
      rw [hE, hS, if_pos e1]
      have hq0 := h.q0
      refine ⟨e1, ⟨hcl, ?_, e2, ?_, e4⟩, e3.same, hC, Int.le_refl _, e5⟩
      · show ((srun s).2 != 0) = false
        rw [e1]; rfl
      · show 0 ≤ s.q + 2
        omega
    · right
      rw [show Jn.runs s.dk (Jn.steps s.a s.q (chgs s.group)) = srun s from rfl] at e1 e3 e4
      rw [hE, hS, if_neg (by rw [e1]; decide)]
      refine ⟨e1, e2, ?_, e3, hz, fun keep => ?_⟩
      · show ((srun s).2 != 0) = true
        rw [e1]; rfl
      · rcases e4 keep with g | g | g
        · exact Or.inl ⟨rfl, g⟩
        · exact Or.inr (Or.inl g)
        · refine Or.inr (Or.inr ⟨?_, g⟩)
          have : (Dk.crash (srun s).1 keep).last.length = s.dk.last.length := by rw [Dk.crash_len]; exact hC
          show May s.a s.z (Dk.crash (srun s).1 keep).last.length _
          rw [this]; exact hm

/-- the first Open -/
structure First (s : Dk.St) (n a : Nat) : Prop where
  cl : Cl s
  lim : s.lim = false
  len : s.last.length = n
  head : s.last.getD a [] = pageH (quietH 1)
  rest : ∀ i, i < n → i ≠ a → s.last.getD i [] = zeros
theorem sfirst_open {w : World} {d l m n a z r : Nat} (h : DiskAt w d l m (Dk.fresh n)) (h1 : 1 ≤ n) (h2 : n ≤ 512) (hroom : RoomIs z r) (hr : 1 ≤ r) (hr2 : r ≤ 32) (hr3 : 2 + r ≤ z) (hreg : a + z ≤ n) :
    ∃ s, First s n a ∧ Calls Try.prog 9 #[.pointer (some ⟨d, 0, none⟩), .int .i64 (a : Int), .int .i64 (z : Int)] w fun e w' =>
      ∃ b : Blk, b.d = d ∧ b.l = l ∧ b.m = m ∧ w.heap.size ≤ b.s ∧ w.heap.size ≤ b.j ∧ w.heap.size ≤ b.t ∧ w.heap.size ≤ b.g ∧ e = .returned (.tuple #[.pointer (some ⟨b.s, 0, none⟩), .int .i64 0]) ∧ StoreAt w' b (sto0 s a z r 1) ∧ Only [d, l, m] w w' := by
  have hc := fresh_cl h1 h2
  have hq : Quiet a z 0 (Dk.fresh n).last (Dk.fresh n).last := fresh_quiet (by omega)
  have hl := fresh_len n
  have ho := openQ_any h hc hq (Int.le_refl 0) (by omega) (by omega) (by omega) (by omega) hroom hr (by omega)
  have hn : Hd.nextN [(Dk.fresh n).last.getD a []] = 1 := by rw [fresh_at (by omega)]; exact zeros_next
  rcases Jn.openQ hc hq (by omega) (by omega) (Int.le_refl 0) (by omega) with ⟨e1, e2, e3, e4, e5⟩ | ⟨_, e, _⟩
  · rw [hn] at ho e1 e2 e4 e5
    have hlen : (Jn.runs (Dk.fresh n) [[⟨(a : Int), pageH (quietH 1)⟩]]).1.last.length = n := by rw [e4, List.length_set, hl]
    refine ⟨_, ⟨e2, e5, hlen, ?_, ?_⟩, (sopen_any ⟨h.dlt, h.llt, h.mlt⟩ (by rw [hlen]; exact hreg) (by omega) (by omega) hroom hr hr2 hr3 ho).mono ?_⟩
    · rw [e4, List.getD_eq_getElem?_getD, List.getElem?_set_self (by omega)]; rfl
    · intro i hi hia
      rw [e4, List.getD_eq_getElem?_getD, List.getElem?_set_ne (fun q => hia q.symm), ← List.getD_eq_getElem?_getD]
      exact fresh_at hi
    · rintro e w' ⟨k1, k2, k3⟩
      rcases k3 with ⟨_, b, cnt, q, b1, b2, b3, b4, b5, b6, b7, k4, ⟨rfl, rfl⟩, k6⟩ | ⟨k4, _⟩
      · exact ⟨b, b1, b2, b3, b4, b5, b6, b7, k4, k6, k2⟩
      · exact absurd e1 k4
  · cases e
theorem First.sound {s : Dk.St} {n a z r : Nat} (h : First s n a) (ha : a ≤ 900) (hz : z ≤ 900) (hroom : RoomIs z r) (hr1 : 1 ≤ r) (hr2 : r ≤ 32) (hr3 : 2 + r ≤ z) (hreg : a + z ≤ n) : Sound (sto0 s a z r 1) :=
  ⟨sto0_ok ha hz hroom hr1 hr2 hr3 (by rw [h.len]; exact hreg), rfl, h.cl, (by show (0 : Int) ≤ 1; omega), h.head⟩
end Go.Proofs.Yteedglcbodpcdaa

/-
  The contract of the statements' awake.
-/
namespace Go.Proofs.Yteedglcbodpcdaa
open Go.RowKit Go.Maps
open Dk (zeros zeros_length)
open Hd (Head rightB pageH)
open Jn (Chg quietH liveH Cl Quiet LiveD May Same upd)

/-- a store that the call has made, and nothing that was there has turned -/
structure SLive (w0 : World) (b : Blk) (s : Sto) (W : World) : Prop where
  st : StoreAt W b s
  bel : Below w0.heap.size w0 W
  old : ∀ k ∈ b.all, w0.heap.size ≤ k
theorem SLive.byBelow {w0 : World} {b : Blk} {s : Sto} {W W' : World} (h : SLive w0 b s W) (hb : Below W.heap.size W W') : SLive w0 b s W' := ⟨h.st.below hb, h.bel.trans (hb.mono h.bel.size), h.old⟩
theorem SLive.byOnly {w0 : World} {b : Blk} {s s' : Sto} {W W' : World} {L : List Nat} (h : SLive w0 b s W) (hs : StoreAt W' b s') (ho : Only L W W') (hL : ∀ k ∈ L, k ∈ b.all) : SLive w0 b s' W' :=
  ⟨hs, Only.toBelowOld h.bel ho h.bel.size (fun k hk => h.old k (hL k hk)), h.old⟩
theorem PageAt.only {w w' : World} {B : Nat} {p : List UInt8} {L : List Nat} (h : PageAt w B p) (ho : Only L w w') (hB : B ∉ L) : PageAt w' B p := h.block (ho.block B h.lt hB)
/-- the first Open on a new disk -/
theorem slive_first {w : World} {n a z r : Nat} (h1 : 1 ≤ n) (h2 : n ≤ 512) (hroom : RoomIs z r) (hr : 1 ≤ r) (hr2 : r ≤ 32) (hr3 : 2 + r ≤ z) (hreg : a + z ≤ n) : ∃ s, First s n a ∧ Calls Try.prog 9 #[.pointer (some ⟨w.heap.size + 2, 0, none⟩), .int .i64 (a : Int), .int .i64 (z : Int)] (newWorld w n) fun e w' =>
    ∃ b : Blk, b.d = w.heap.size + 2 ∧ e = .returned (.tuple #[.pointer (some ⟨b.s, 0, none⟩), .int .i64 0]) ∧ SLive w b (sto0 s a z r 1) w' := by
  have hd := newWorld_disk w n h1 h2
  have hb := newWorld_below w n
  obtain ⟨s, hs, hc⟩ := sfirst_open hd h1 h2 hroom hr hr2 hr3 hreg
  refine ⟨s, hs, hc.mono ?_⟩
  rintro e w' ⟨b, b1, b2, b3, b4, b5, b6, b7, rfl, hS, ho⟩
  have hsz := hb.size
  refine ⟨b, b1, rfl, hS, Only.toBelowOld hb ho hsz (fun k hk => by simp at hk; omega), fun k hk => ?_⟩
  unfold Blk.all at hk
  simp only [List.mem_cons, List.not_mem_nil, or_false] at hk
  omega

/-! ### what awake does -/
def pgN (c : UInt8) : List UInt8 := c :: List.replicate 63 0
theorem pgN_length (c : UInt8) : (pgN c).length = 64 := by unfold pgN; simp
theorem built_pg1 : Try.prog.built 35 [(0, .int .u8 1)] = some (byteVals (pgN 1)).toArray := by kernel_rfl
theorem built_pg2 : Try.prog.built 35 [(0, .int .u8 2)] = some (byteVals (pgN 2)).toArray := by kernel_rfl
theorem run_index0 (w : World) (p : List UInt8) (hp : p.length = 64) : (Instr.index 35 (pageV p) (.int .i64 0)).run Try.prog w = .ok (.int .u8 ((p.getD 0 0).toNat : Int)) w := by
  have e := run_part8 w p 0 (by omega)
  have e2 : p.getD 0 0 = p[0]'(by omega) := by rw [List.getD_eq_getElem?_getD, List.getElem?_eq_getElem (by omega)]; rfl
  rw [e2]
  simp [Instr.index, run_underlying Try.underlying35, asIntOf, pageV, e]
def one5 (p : List UInt8) : Pgs := (noPgs 20).set 5 (some p)
theorem cnt_one5 (p : List UInt8) : cntO (one5 p) = 1 := by
  unfold one5
  rw [cntO_set _ _ _ (by unfold noPgs; simp), noPgs_at, cntO_no]; rfl
theorem one5_at (p : List UInt8) : (one5 p).getD 5 none = some p := by
  unfold one5
  rw [pgs_set_at _ _ _ _ (by unfold noPgs; simp), if_pos rfl]
theorem aw_join (p : List UInt8) : joinP (noPgs 20) (one5 p) = one5 p := by
  refine pgs_ext (by rw [joinP_length]; unfold one5; rw [List.length_set]) (fun i hi => ?_)
  rw [joinP_length] at hi
  rw [joinP_at _ _ _ hi, noPgs_at]
  cases (one5 p).getD i none <;> rfl
def aw (s : Dk.St) : Sto := sto0 s 8 10 8 1
section
variable {s : Dk.St} (h : First s 20 8)
include h
theorem aw_eq : aw s = ⟨s, 8, 10, 8, 1, false, noPgs 20, noPgs 20⟩ := by unfold aw sto0; rw [h.len]
theorem aw_sound : Sound (aw s) := h.sound (by omega) (by omega) room10 (by omega) (by omega) (by omega) (by omega)
theorem aw_reach (g t : Pgs) : sreachE ⟨s, 8, 10, 8, 1, false, t, g⟩ 5 = 0 := by
  unfold sreachE
  rw [if_neg (by simp)]
  have : otherB s.last.length 8 10 5 = true := by rw [h.len]; decide
  rw [if_pos this]
theorem aw_putE : sputE (aw s) 5 = 0 := by
  rw [aw_eq h]
  unfold sputE
  rw [if_pos (aw_reach h _ _), if_neg (by rintro ⟨_, g⟩; have : cntO (noPgs 20) = 0 := cntO_no 20; simp only at g; omega)]
theorem aw_put (p : List UInt8) : sput (aw s) 5 p = ⟨s, 8, 10, 8, 1, false, one5 p, noPgs 20⟩ := by
  unfold sput
  rw [if_pos (aw_putE h), aw_eq h]; rfl
theorem aw_drop (p : List UInt8) : sdrop (sput (aw s) 5 p) = aw s := by
  rw [aw_put h, aw_eq h]
  unfold sdrop
  simp only [h.len]
theorem aw_read : sreadP (aw s) 5 = zeros := by
  rw [aw_eq h]
  unfold sreadP
  rw [if_pos (aw_reach h _ _)]
  have e : sheld ⟨s, 8, 10, 8, 1, false, noPgs 20, noPgs 20⟩ (5 : Int).toNat = none := by
    unfold sheld
    simp only [noPgs_at]; rfl
  rw [e]
  show Dk.readP s ((5 : Nat) : Int) = zeros
  rw [read_clean h.cl (by rw [h.len]; omega)]
  exact h.rest 5 (by omega) (by omega)
theorem aw_tog (p : List UInt8) : stog (sput (aw s) 5 p) = 1 := by
  rw [aw_put h]
  unfold stog
  simp only
  rw [aw_join, cnt_one5]
theorem aw_keepE (p : List UInt8) : skeepE (sput (aw s) 5 p) = 0 := by
  have := aw_tog h p
  rw [aw_put h] at this ⊢
  unfold skeepE
  rw [if_neg (by simp), this, if_neg (by simp)]
theorem aw_keep (p : List UInt8) : skeep (sput (aw s) 5 p) = ⟨s, 8, 10, 8, 1, false, noPgs 20, one5 p⟩ := by
  have := aw_tog h p
  rw [aw_put h] at this ⊢
  unfold skeep
  rw [if_neg (by simp), this, if_neg (by simp)]
  unfold sjoin
  simp only [h.len, aw_join]
theorem aw_read2 (p : List UInt8) : sreadP ⟨s, 8, 10, 8, 1, false, noPgs 20, one5 p⟩ 5 = p := by
  unfold sreadP
  rw [if_pos (aw_reach h _ _)]
  have e : sheld ⟨s, 8, 10, 8, 1, false, noPgs 20, one5 p⟩ (5 : Int).toNat = some p := by
    unfold sheld
    show ((noPgs 20).getD 5 none).or ((one5 p).getD 5 none) = some p
    rw [noPgs_at, one5_at]; rfl
  rw [e]; rfl
theorem aw_lasts : Dk.lastsP s 5 = zeros := by
  unfold Dk.lastsP
  rw [if_pos (by rw [h.len]; decide)]
  exact h.rest 5 (by omega) (by omega)
theorem aw_kept_sound {p : List UInt8} (hp : p.length = 64) : Sound ⟨s, 8, 10, 8, 1, false, noPgs 20, one5 p⟩ := by
  have h1 := (aw_sound h).put 5 hp
  have h2 := h1.join (by rw [aw_tog h, aw_put h]; show 1 ≤ 8; omega)
  have e : sjoin (sput (aw s) 5 p) = ⟨s, 8, 10, 8, 1, false, noPgs 20, one5 p⟩ := by
    rw [aw_put h]
    unfold sjoin
    simp only [h.len, aw_join]
  rw [e] at h2
  exact h2
theorem aw_sync {p : List UInt8} (hp : p.length = 64) : ssyncE ⟨s, 8, 10, 8, 1, false, noPgs 20, one5 p⟩ = 0 ∧ Dk.lastsP (ssync ⟨s, 8, 10, 8, 1, false, noPgs 20, one5 p⟩).dk 5 = p := by
  rcases sync_two (aw_kept_sound h hp) (by show (1 : Int) < 250; omega) with ⟨e1, _, e3, e4, _⟩ | ⟨_, e, _⟩
  · refine ⟨e1, ?_⟩
    have hl : (ssync ⟨s, 8, 10, 8, 1, false, noPgs 20, one5 p⟩).dk.last.length = 20 := e4.trans h.len
    unfold Dk.lastsP
    rw [if_pos (by rw [hl]; decide)]
    show (ssync ⟨s, 8, 10, 8, 1, false, noPgs 20, one5 p⟩).dk.last.getD 5 [] = p
    rw [e3 5 (Or.inl (by show 5 < 8; omega))]
    have hc : chgs (one5 p) = [⟨5, p⟩] := rfl
    show (upd s.last (chgs (one5 p))).getD 5 [] = p
    rw [hc]
    exact Jn.upd_one_at (a := 5) (by rw [h.len]; omega) p
  · have := h.lim
    rw [this] at e; cases e
end
set_option maxRecDepth 100000 in
set_option maxHeartbeats 4000000 in
theorem awake_any (w : World) : Calls Try.prog 6 #[] w fun e w' => e = .returned (.bool true) ∧ Below w.heap.size w w' := by
  have HNW : Hid (Calls Try.prog 8 #[.int .i64 20] w fun e w' => e = .returned (.tuple #[.pointer (some ⟨w.heap.size + 2, 0, none⟩), .int .i64 0]) ∧ w' = newWorld w 20) := Lib.hid (new_any 20 w (by omega) (by omega))
  obtain ⟨s, hs, hO⟩ := slive_first (w := w) (n := 20) (a := 8) (z := 10) (r := 8) (by omega) (by omega) room10 (by omega) (by omega) (by omega) (by omega)
  have HO : Hid (Calls Try.prog 9 #[.pointer (some ⟨w.heap.size + 2, 0, none⟩), .int .i64 8, .int .i64 10] (newWorld w 20) fun e w' => ∃ b : Blk, b.d = w.heap.size + 2 ∧ e = .returned (.tuple #[.pointer (some ⟨b.s, 0, none⟩), .int .i64 0]) ∧ SLive w b (aw s) w') := Lib.hid hO
  have HP1 : Hid (∀ (W : World) (b : Blk), StoreAt W b (aw s) → Calls Try.prog 11 #[.pointer (some ⟨b.s, 0, none⟩), .int .i64 5, pageV (pgN 1)] W fun e w' => e = .returned (.int .i64 0) ∧ StoreAt w' b (sput (aw s) 5 (pgN 1)) ∧ Only [b.t] W w') := Lib.hid (fun W b hW => by
    have := sput_any hW 5 (pgN 1) (pgN_length 1)
    rw [aw_putE hs] at this
    exact this)
  have HDR : Hid (∀ (W : World) (b : Blk), StoreAt W b (sput (aw s) 5 (pgN 1)) → Calls Try.prog 14 #[.pointer (some ⟨b.s, 0, none⟩)] W fun e w' => e = .returned (.tuple #[]) ∧ StoreAt w' b (aw s) ∧ Only [b.t] W w') := Lib.hid (fun W b hW => by
    have := sdrop_any hW
    rw [aw_drop hs] at this
    exact this)
  have HR1 : Hid (∀ (W : World) (b : Blk), StoreAt W b (aw s) → ∃ E, Calls Try.prog 12 #[.pointer (some ⟨b.s, 0, none⟩), .int .i64 5] W fun e w' => e = .returned (.tuple #[pageV zeros, .int .i64 E]) ∧ Below W.heap.size W w') := Lib.hid (fun W b hW => by
    have := sread_any hW 5
    rw [aw_read hs] at this
    exact ⟨_, this⟩)
  have HP2 : Hid (∀ (W : World) (b : Blk), StoreAt W b (aw s) → Calls Try.prog 11 #[.pointer (some ⟨b.s, 0, none⟩), .int .i64 5, pageV (pgN 2)] W fun e w' => e = .returned (.int .i64 0) ∧ StoreAt w' b (sput (aw s) 5 (pgN 2)) ∧ Only [b.t] W w') := Lib.hid (fun W b hW => by
    have := sput_any hW 5 (pgN 2) (pgN_length 2)
    rw [aw_putE hs] at this
    exact this)
  have HKP : Hid (∀ (W : World) (b : Blk), StoreAt W b (sput (aw s) 5 (pgN 2)) → Calls Try.prog 13 #[.pointer (some ⟨b.s, 0, none⟩)] W fun e w' => e = .returned (.int .i64 0) ∧ StoreAt w' b ⟨s, 8, 10, 8, 1, false, noPgs 20, one5 (pgN 2)⟩ ∧ Only [b.j, b.d, b.l, b.m, b.g, b.t] W w') := Lib.hid (fun W b hW => by
    have := skeep_any hW (by rw [aw_put hs]; show (0 : Int) ≤ 1; omega) (by rw [aw_put hs]; show (1 : Int) < 4294967290; omega)
    rw [aw_keepE hs, aw_keep hs] at this
    exact this)
  have HR2 : Hid (∀ (W : World) (b : Blk), StoreAt W b ⟨s, 8, 10, 8, 1, false, noPgs 20, one5 (pgN 2)⟩ → ∃ E, Calls Try.prog 12 #[.pointer (some ⟨b.s, 0, none⟩), .int .i64 5] W fun e w' => e = .returned (.tuple #[pageV (pgN 2), .int .i64 E]) ∧ Below W.heap.size W w') := Lib.hid (fun W b hW => by
    have := sread_any hW 5
    rw [aw_read2 hs] at this
    exact ⟨_, this⟩)
  have HL1 : Hid (∀ (W : World) (b : Blk), StoreAt W b ⟨s, 8, 10, 8, 1, false, noPgs 20, one5 (pgN 2)⟩ → Calls Try.prog 22 #[.pointer (some ⟨b.d, 0, none⟩), .int .i64 5] W fun e w' => e = .returned (pageV zeros) ∧ Below W.heap.size W w') := Lib.hid (fun W b hW => by
    have := lasts_any hW.disk 5
    rw [aw_lasts hs] at this
    exact this)
  have HSY : Hid (∀ (W : World) (b : Blk), StoreAt W b ⟨s, 8, 10, 8, 1, false, noPgs 20, one5 (pgN 2)⟩ → Calls Try.prog 15 #[.pointer (some ⟨b.s, 0, none⟩)] W fun e w' => e = .returned (.int .i64 0) ∧ StoreAt w' b (ssync ⟨s, 8, 10, 8, 1, false, noPgs 20, one5 (pgN 2)⟩) ∧ Only [b.j, b.d, b.l, b.m, b.g] W w') := Lib.hid (fun W b hW => by
    have := ssync_any hW (show (0 : Int) ≤ 1 by omega) (show (1 : Int) < 4294967290 by omega)
    rw [(aw_sync hs (pgN_length 2)).1] at this
    exact this)
  have HL2 : Hid (∀ (W : World) (b : Blk), StoreAt W b (ssync ⟨s, 8, 10, 8, 1, false, noPgs 20, one5 (pgN 2)⟩) → Calls Try.prog 22 #[.pointer (some ⟨b.d, 0, none⟩), .int .i64 5] W fun e w' => e = .returned (pageV (pgN 2)) ∧ Below W.heap.size W w') := Lib.hid (fun W b hW => by
    have := lasts_any hW.disk 5
    rw [(aw_sync hs (pgN_length 2)).2] at this
    exact this)
  have HG1 := Lib.hid (pgN_length 1)
  have HG2 := Lib.hid (pgN_length 2)
  have HZ2 : Hid ((pgN 2).getD 0 0 = 2) := Lib.hid rfl
  have HB1 := Lib.hid built_pg1
  have HB2 := Lib.hid built_pg2
  clear hs hO
  generalize aw s = S0 at *
  generalize sput S0 5 (pgN 1) = S1 at *
  generalize sput S0 5 (pgN 2) = S3 at *
  generalize (⟨s, 8, 10, 8, 1, false, noPgs 20, one5 (pgN 2)⟩ : Sto) = S4 at *
  generalize ssync S4 = S5 at *
  generalize pgN 1 = p1 at *
  generalize pgN 2 = p2 at *
  generalize hdd : w.heap.size + 2 = dd at HNW HO
  clear hdd
  have HE1 := fun (x y : Operand) (w : World) => run_eqGuard_zero w x y zeros
  have HE2 := fun (w : World) => run_eql_zero w zeros zeros_length
  rw [zeroCells_def] at HE1 HE2
  simp only [decide_true] at HE2
  go_enter Try.func6, Try.ntmps6
  go_wp2_with fail
  refine HNW.out.mono ?_
  rintro e w1 ⟨rfl, rfl⟩
  clear HNW
  generalize newWorld w 20 = w1 at HO ⊢
  go_wp2_with fail
  refine HO.out.mono ?_
  rintro e w2 ⟨b, rfl, rfl, hL⟩
  have HL := Lib.hid hL
  clear HO hL
  go_wp2_with (first
    | ((with_reducible refine wpList_buildG 35 #[(0, .const (.int .u8 1))] (byteVals p1).toArray (some 27) rfl rfl ?_ ?_ ?_); (exact rfl); (simp only [List.map_toArray, List.map_cons, List.map_nil]; exact HB1.out); (rw [pageV_def])))
  refine (HP1.out _ _ HL.out.st).mono ?_
  rintro e w3 ⟨rfl, hS3, hO3⟩
  have HL3 := Lib.hid (HL.out.byOnly hS3 hO3 (by simp [Blk.all]))
  clear HP1 HL hS3 hO3
  go_wp2_with fail
  refine (HDR.out _ _ HL3.out.st).mono ?_
  rintro e w4 ⟨rfl, hS4, hO4⟩
  have HL4 := Lib.hid (HL3.out.byOnly hS4 hO4 (by simp [Blk.all]))
  clear HDR HL3 hS4 hO4
  go_wp2_with fail
  obtain ⟨E1, hRD⟩ := HR1.out _ _ HL4.out.st
  refine hRD.mono ?_
  rintro e w5 ⟨rfl, hB5⟩
  have HL5 := Lib.hid (HL4.out.byBelow hB5)
  have HNB : Hid (∀ L : List Nat, (∀ k ∈ L, k ∈ b.all) → w5.heap.size ∉ L) := Lib.hid (fun L hL q => by have := HL5.out.st.lt _ (hL _ q); omega)
  clear HR1 HL4 hRD hB5
  go_wp2_with (first
    | ((with_reducible refine wpList_store_new rfl (.tmp 5) (.tmp 36) rfl rfl ?_ ?_ zeros_length ?_); (exact rfl); (exact rfl); intro W6 hP6 hB6 hz6; have HL6 := Lib.hid (HL5.out.byBelow hB6); have HQ6 := Lib.hid hP6; clear hP6 hB6 hz6 HL5; generalize w5.heap.size = B5 at HNB HQ6 ⊢)
    | ((with_reducible refine wpList_buildG 35 #[(0, .const (.int .u8 2))] (byteVals p2).toArray (some 39) rfl rfl ?_ ?_ ?_); (exact rfl); (simp only [List.map_toArray, List.map_cons, List.map_nil]; exact HB2.out); (rw [pageV_def])))
  refine (HP2.out _ _ HL6.out.st).mono ?_
  rintro e w7 ⟨rfl, hS7, hO7⟩
  have HL7 := Lib.hid (HL6.out.byOnly hS7 hO7 (by simp [Blk.all]))
  have HQ7 := Lib.hid (HQ6.out.only hO7 (HNB.out _ (by simp [Blk.all])))
  clear HP2 HL6 HQ6 hS7 hO7
  go_wp2_with fail
  refine (HKP.out _ _ HL7.out.st).mono ?_
  rintro e w8 ⟨rfl, hS8, hO8⟩
  have HL8 := Lib.hid (HL7.out.byOnly hS8 hO8 (by simp [Blk.all]))
  have HQ8 := Lib.hid (HQ7.out.only hO8 (HNB.out _ (by simp [Blk.all])))
  clear HKP HL7 HQ7 hS8 hO8
  go_wp2_with fail
  obtain ⟨E2, hRD⟩ := HR2.out _ _ HL8.out.st
  refine hRD.mono ?_
  rintro e w9 ⟨rfl, hB9⟩
  have HL9 := Lib.hid (HL8.out.byBelow hB9)
  have HQ9 := Lib.hid (HQ8.out.below hB9 HQ8.out.lt)
  clear HR2 HL8 HQ8 hRD hB9
  go_wp2_with (first
    | ((with_reducible refine wpList_store_new rfl (.tmp 8) (.tmp 46) rfl rfl ?_ ?_ HG2.out ?_); (exact rfl); (exact rfl); intro W10 hP10 hB10 hz10; have HLA := Lib.hid (HL9.out.byBelow hB10); have HQA := Lib.hid (HQ9.out.below hB10 HQ9.out.lt); have c0 := hP10.cell 0 (by omega); rw [HZ2.out] at c0; clear hP10 hB10 hz10 HL9 HQ9; generalize w9.heap.size = B9 at c0 ⊢)
    | (with_reducible refine wpList_load_page HQA.out rfl (.tmp 5) rfl rfl ?_))
  refine (HL1.out _ _ HLA.out.st).mono ?_
  rintro e w11 ⟨rfl, hB11⟩
  have HLB := Lib.hid (HLA.out.byBelow hB11)
  clear HL1 HLA HQA hB11 c0
  go_wp2_with fail
  refine (HSY.out _ _ HLB.out.st).mono ?_
  rintro e w12 ⟨rfl, hS12, hO12⟩
  have HLC := Lib.hid (HLB.out.byOnly hS12 hO12 (by simp [Blk.all]))
  clear HSY HLB hS12 hO12
  go_wp2_with fail
  refine (HL2.out _ _ HLC.out.st).mono ?_
  rintro e w13 ⟨rfl, hB13⟩
  have HLD := Lib.hid (HLC.out.byBelow hB13)
  clear HL2 HLC hB13
  have HIX := run_index0 w13 p2 HG2.out
  rw [HZ2.out] at HIX
  go_wp2_with fail
  go_ret
  exact ⟨rfl, HLD.out.bel⟩
end Go.Proofs.Yteedglcbodpcdaa

/-
  Plain mathematics of StoreOnce: steps that are kept one behind the other, and one step with all their pages.
-/
namespace Go.Proofs.Yteedglcbodpcdaa
open Go.RowKit Go.Maps
open Dk (zeros zeros_length)
open Hd (Head rightB pageH)
open Jn (Chg quietH liveH Cl Quiet LiveD May Same upd)

theorem cntO_mono : ∀ (x y : Pgs), x.length = y.length → (∀ i, (x.getD i none).isSome = true → (y.getD i none).isSome = true) → cntO x ≤ cntO y
  | [], [], _, _ => Nat.le_refl _
  | [], _ :: _, h, _ => by simp at h
  | _ :: _, [], h, _ => by simp at h
  | a :: x, b :: y, h, hh => by
    have ih := cntO_mono x y (by simpa using h) (fun i hi => by have := hh (i + 1) (by simpa using hi); simpa using this)
    have h0 := hh 0
    simp only [List.getD_cons_zero] at h0
    unfold cntO at *
    rw [List.countP_cons, List.countP_cons]
    cases a with
    | none => simp; omega
    | some p =>
      have := h0 rfl
      rw [this]; simp; omega
theorem other40 {i : Nat} (h : i < 20) : otherB 40 20 17 (i : Int) = true := by unfold otherB; rw [decide_eq_true_iff]; omega
/-- the two stores: M is what was put -/
structure On (S0 V0 : Dk.St) (M : Pgs) (k : Nat) (s v : Sto) : Prop where
  ss : Sound s
  vs : Sound v
  sd : s.dk = S0 ∧ s.q = 1 ∧ s.a = 20 ∧ s.z = 17 ∧ s.r = 15
  vd : v.dk = V0 ∧ v.q = 1 ∧ v.a = 20 ∧ v.z = 17 ∧ v.r = 15
  f1 : First S0 40 20
  f2 : First V0 40 20
  ml : M.length = 40
  held : ∀ i, (s.step.getD i none).or (s.group.getD i none) = M.getD i none
  vst : v.step = M
  vg : v.group = noPgs 40
  cnt : cntO M ≤ k
theorem on_start {S0 V0 : Dk.St} (h1 : First S0 40 20) (h2 : First V0 40 20) : On S0 V0 (noPgs 40) 0 (sto0 S0 20 17 15 1) (sto0 V0 20 17 15 1) where
  ss := h1.sound (by omega) (by omega) room17 (by omega) (by omega) (by omega) (by omega)
  vs := h2.sound (by omega) (by omega) room17 (by omega) (by omega) (by omega) (by omega)
  sd := ⟨rfl, rfl, rfl, rfl, rfl⟩
  vd := ⟨rfl, rfl, rfl, rfl, rfl⟩
  f1 := h1
  f2 := h2
  ml := List.length_replicate
  held := fun i => by
    show ((noPgs S0.last.length).getD i none).or ((noPgs S0.last.length).getD i none) = _
    rw [noPgs_at, noPgs_at]; rfl
  vst := by show noPgs V0.last.length = _; rw [h2.len]
  vg := by show noPgs V0.last.length = _; rw [h2.len]
  cnt := by rw [cntO_no]; exact Nat.le_refl _
theorem On.slen {S0 V0 : Dk.St} {M : Pgs} {k : Nat} {s v : Sto} (h : On S0 V0 M k s v) : s.dk.last.length = 40 := by rw [h.sd.1]; exact h.f1.len
theorem On.vlen {S0 V0 : Dk.St} {M : Pgs} {k : Nat} {s v : Sto} (h : On S0 V0 M k s v) : v.dk.last.length = 40 := by rw [h.vd.1]; exact h.f2.len
theorem On.sfew {S0 V0 : Dk.St} {M : Pgs} {k : Nat} {s v : Sto} (h : On S0 V0 M k s v) : cntO s.step ≤ k := by
  refine Nat.le_trans (cntO_mono _ M (by rw [h.ss.ok.slen, h.slen, h.ml]) (fun i hi => ?_)) h.cnt
  rw [← h.held i]
  cases e : s.step.getD i none with
  | none => rw [e] at hi; cases hi
  | some p => rfl
theorem put_fine {s : Sto} (h : Sound s) {n : Nat} (hl : s.dk.last.length = n) {i k : Nat} (ho : otherB n s.a s.z (i : Int) = true) (hc : cntO s.step ≤ k) (hk : k < s.r) (p : List UInt8) : sputE s (i : Int) = 0 ∧ sput s (i : Int) p = { s with step := s.step.set i (some p) } := by
  have hr : sreachE s (i : Int) = 0 := by
    unfold sreachE
    rw [if_neg (by rw [h.up]; simp), hl, if_pos ho]
  have hE : sputE s (i : Int) = 0 := by
    unfold sputE
    rw [if_pos hr, if_neg (by rintro ⟨_, g⟩; omega)]
  refine ⟨hE, ?_⟩
  unfold sput
  rw [if_pos hE, Int.toNat_natCast]
theorem on_put {S0 V0 : Dk.St} {M : Pgs} {k : Nat} {s v : Sto} (h : On S0 V0 M k s v) {i : Nat} (hi : i < 20) (hk : k < 14) {p : List UInt8} (hp : p.length = 64) :
    sputE s (i : Int) = 0 ∧ sputE v (i : Int) = 0 ∧ On S0 V0 (M.set i (some p)) (k + 1) (sput s (i : Int) p) (sput v (i : Int) p) := by
  obtain ⟨s1, s2, s3, s4, s5⟩ := h.sd
  obtain ⟨v1, v2, v3, v4, v5⟩ := h.vd
  obtain ⟨a1, a2⟩ := put_fine h.ss h.slen (i := i) (by rw [s3, s4]; exact other40 hi) h.sfew (by rw [s5]; omega) p
  obtain ⟨b1, b2⟩ := put_fine h.vs h.vlen (i := i) (by rw [v3, v4]; exact other40 hi) (k := k) (by rw [h.vst]; exact h.cnt) (by rw [v5]; omega) p
  have hs := h.ss.put (i : Int) hp
  have hv := h.vs.put (i : Int) hp
  rw [a2] at hs ⊢
  rw [b2] at hv ⊢
  have hil : i < s.step.length := by rw [h.ss.ok.slen, h.slen]; omega
  refine ⟨a1, b1, ⟨hs, hv, ⟨s1, s2, s3, s4, s5⟩, ⟨v1, v2, v3, v4, v5⟩, h.f1, h.f2, by rw [List.length_set]; exact h.ml, fun j => ?_, by show v.step.set i (some p) = _; rw [h.vst], h.vg, ?_⟩⟩
  · show ((s.step.set i (some p)).getD j none).or (s.group.getD j none) = _
    rw [pgs_set_at _ _ _ _ hil, pgs_set_at _ _ _ _ (by rw [h.ml]; omega)]
    by_cases e : i = j
    · rw [if_pos e, if_pos e]; rfl
    · rw [if_neg e, if_neg e]; exact h.held j
  · rw [cntO_set _ _ _ (by rw [h.ml]; omega)]
    have := h.cnt
    split <;> omega
theorem On.join {S0 V0 : Dk.St} {M : Pgs} {k : Nat} {s v : Sto} (h : On S0 V0 M k s v) : joinP s.group s.step = M := by
  refine pgs_ext (by rw [joinP_length, h.ss.ok.glen, h.slen, h.ml]) (fun i hi => ?_)
  rw [joinP_length] at hi
  rw [joinP_at _ _ _ hi]
  exact h.held i
theorem keep_fine {s : Sto} (h : s.over = false) (hc : stog s ≤ s.r) : skeepE s = 0 ∧ skeep s = sjoin s := by
  have hn : ¬ s.over = true := by rw [h]; simp
  refine ⟨?_, ?_⟩
  · unfold skeepE; rw [if_neg hn, if_neg (by omega)]
  · unfold skeep; rw [if_neg hn, if_neg (by omega)]
theorem on_keep {S0 V0 : Dk.St} {M : Pgs} {k : Nat} {s v : Sto} (h : On S0 V0 M k s v) (hk : k ≤ 14) : skeepE s = 0 ∧ On S0 V0 M k (skeep s) v ∧ (skeep s).group = M := by
  obtain ⟨s1, s2, s3, s4, s5⟩ := h.sd
  have ht : stog s ≤ s.r := by
    unfold stog
    rw [h.join, s5]
    have := h.cnt
    omega
  obtain ⟨a1, a2⟩ := keep_fine h.ss.up ht
  have hg : (sjoin s).group = M := h.join
  rw [a2]
  refine ⟨a1, ⟨h.ss.join ht, h.vs, ⟨s1, s2, s3, s4, s5⟩, h.vd, h.f1, h.f2, h.ml, fun i => ?_, h.vst, h.vg, h.cnt⟩, hg⟩
  rw [hg]
  show ((noPgs s.dk.last.length).getD i none).or (M.getD i none) = _
  rw [noPgs_at]; rfl
theorem on_vkeep {S0 V0 : Dk.St} {M : Pgs} {k : Nat} {s v : Sto} (h : On S0 V0 M k s v) (hk : k ≤ 14) : skeepE v = 0 ∧ Sound (skeep v) ∧ (skeep v).group = M ∧ cntO (skeep v).step = 0 ∧ (skeep v).dk = V0 ∧ (skeep v).q = 1 ∧ (skeep v).a = 20 ∧ (skeep v).z = 17 := by
  obtain ⟨v1, v2, v3, v4, v5⟩ := h.vd
  have hj : joinP v.group v.step = M := by
    refine pgs_ext (by rw [joinP_length, h.vs.ok.glen, h.vlen, h.ml]) (fun i hi => ?_)
    rw [joinP_length] at hi
    rw [joinP_at _ _ _ hi, h.vg, noPgs_at, h.vst]
    cases M.getD i none <;> rfl
  have ht : stog v ≤ v.r := by
    unfold stog
    rw [hj, v5]
    have := h.cnt
    omega
  obtain ⟨a1, a2⟩ := keep_fine h.vs.up ht
  rw [a2]
  exact ⟨a1, h.vs.join ht, hj, cntO_no _, v1, v2, v3, v4⟩
/-- both are synced -/
theorem on_sync {s : Sto} {S0 : Dk.St} (h : Sound s) (hd : s.dk = S0) (hq : s.q = 1) (hf : First S0 40 20) : ssyncE s = 0 ∧ Sound (ssync s) ∧ cntO (ssync s).group = 0 ∧ (ssync s).step = s.step ∧ Same s.a s.z (ssync s).dk.last (upd S0.last (chgs s.group)) ∧ (ssync s).dk.last.length = 40 := by
  rcases sync_two h (by rw [hq]; omega) with ⟨e1, e2, e3, e4, _⟩ | ⟨_, e, _⟩
  · obtain ⟨_, g1, _, g3, _⟩ := ssync_fine h.ok e1
    rw [hd] at e3
    exact ⟨e1, e2, g1, g3, e3, by rw [e4, hd]; exact hf.len⟩
  · rw [hd, hf.lim] at e; cases e
theorem upd_alike {A B : Dk.St} (h1 : First A 40 20) (h2 : First B 40 20) (cs : List Chg) {i : Nat} (hi : i < 20) : (upd A.last cs).getD i [] = (upd B.last cs).getD i [] := by
  by_cases hc : ∃ c ∈ cs, c.no.toNat = i
  · exact Jn.upd_in cs _ _ i (by rw [h1.len, h2.len]) hc
  · have hc' : ∀ c ∈ cs, c.no.toNat ≠ i := fun x hx e => hc ⟨x, hx, e⟩
    rw [Jn.upd_other _ _ _ hc', Jn.upd_other _ _ _ hc', h1.rest i (by omega) (by omega), h2.rest i (by omega) (by omega)]
theorem once_same {s v : Sto} {S0 V0 : Dk.St} {M : Pgs} (h1 : First S0 40 20) (h2 : First V0 40 20) (hs : Same 20 17 s.dk.last (upd S0.last (chgs M))) (hv : Same 20 17 v.dk.last (upd V0.last (chgs M))) (l1 : s.dk.last.length = 40) (l2 : v.dk.last.length = 40) {i : Nat} (hi : i < 20) : Dk.lastsP s.dk (i : Int) = Dk.lastsP v.dk (i : Int) := by
  unfold Dk.lastsP
  rw [if_pos (by rw [l1]; exact Dk.has_mk (by omega)), if_pos (by rw [l2]; exact Dk.has_mk (by omega)), Int.toNat_natCast]
  show s.dk.last.getD i [] = v.dk.last.getD i []
  rw [hs i (Or.inl hi), hv i (Or.inl hi)]
  exact upd_alike h1 h2 _ hi
end Go.Proofs.Yteedglcbodpcdaa
