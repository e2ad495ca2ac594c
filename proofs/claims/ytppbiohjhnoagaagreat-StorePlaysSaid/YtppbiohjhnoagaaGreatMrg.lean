/-
  What is kept while a store is played: sound, or broken off so that any crash leaves what an Open puts right. Both Opens.
-/
import Derived.Test.YtppbiohjhnoagaaGreatMrf
import Derived.Test.YtppbiohjhnoagaaGreatMrd
import Derived.Test.YtppbiohjhnoagaaGreatMsd
namespace Go.Proofs.YtppbiohjhnoagaaGreat
open Go.RowKit
open Dk (zeros zeros_length)
open Hd (Head rightB pageH)
open Jn (Chg quietH liveH Cl Quiet LiveD May Same upd)

structure Pl (m z : Nat) (s : Sto) : Prop where
  sa : s.a = 20
  sz : s.z = z
  sr : s.r = z - 2
  len : s.dk.last.length = 40
  two : (Sound s ∧ s.q ≤ 1 + 2 * (m : Int)) ∨ (s.over = true ∧ s.dk.Ok ∧ ∃ (X : List (List UInt8)) (cs : List Chg) (B : Int), 0 ≤ B ∧ B ≤ 1 + 2 * (m : Int) ∧ cs.length ≤ z - 2 ∧ ∀ keep, Good false 20 z B cs X (Dk.crash s.dk keep).last)
theorem Pl.q {m z : Nat} {s : Sto} (h : Pl m z s) (hm : m ≤ 80) : s.over = true ∨ (0 ≤ s.q ∧ s.q < 4294967280) := by
  rcases h.two with ⟨h1, h2⟩ | ⟨h1, _⟩
  · exact Or.inr ⟨h1.q0, by omega⟩
  · exact Or.inl h1
theorem Pl.h05 {m z : Nat} {s : Sto} (h : Pl m z s) (hm : m ≤ 80) : s.over = false → ¬ cntO s.group = 0 → (srun s).2 = 0 ∨ (srun s).2 = 5 := fun ho hz => by
  rcases h.two with ⟨h1, h2⟩ | ⟨h1, _⟩
  · have he : ssyncE s = (srun s).2 := by unfold ssyncE; rw [if_neg (by rw [ho]; simp), if_neg hz]
    rcases sync_two h1 (by have := h1.q0; omega) with ⟨e, _⟩ | ⟨e, _⟩
    · rw [he] at e; exact Or.inl e
    · rw [he] at e; exact Or.inr e
  · rw [ho] at h1; cases h1
theorem Pl.same {m z : Nat} {s s' : Sto} (h : Pl m z s) (h1 : s'.dk = s.dk) (h3 : s'.a = s.a ∧ s'.z = s.z ∧ s'.r = s.r ∧ s'.q = s.q ∧ s'.over = s.over) (hs : Sound s → Sound s') : Pl (m + 1) z s' := by
  refine ⟨by rw [h3.1]; exact h.sa, by rw [h3.2.1]; exact h.sz, by rw [h3.2.2.1]; exact h.sr, by rw [h1]; exact h.len, ?_⟩
  rcases h.two with ⟨a1, a2⟩ | ⟨b1, b2, X, cs, B, c1, c2, c3, c4⟩
  · exact Or.inl ⟨hs a1, by rw [h3.2.2.2.1]; omega⟩
  · exact Or.inr ⟨by rw [h3.2.2.2.2]; exact b1, by rw [h1]; exact b2, X, cs, B, c1, by omega, c3, by rw [h1]; exact c4⟩
theorem Pl.idle {m z : Nat} {s : Sto} (h : Pl m z s) : Pl (m + 1) z s := h.same rfl ⟨rfl, rfl, rfl, rfl, rfl⟩ id
theorem Pl.put {m z : Nat} {s : Sto} (h : Pl m z s) (i : Int) {p : List UInt8} (hp : p.length = 64) : Pl (m + 1) z (sput s i p) := by
  refine h.same ?_ ?_ (fun hs => hs.put i hp)
  all_goals
    unfold sput
    split <;> (first | rfl | exact ⟨rfl, rfl, rfl, rfl, rfl⟩)
theorem Pl.drop {m z : Nat} {s : Sto} (h : Pl m z s) : Pl (m + 1) z (sdrop s) := h.same rfl ⟨rfl, rfl, rfl, rfl, rfl⟩ (fun hs => hs.drop)
theorem ssync_five (s : Sto) : (ssync s).a = s.a ∧ (ssync s).z = s.z ∧ (ssync s).r = s.r ∧ (ssync s).dk.last.length = s.dk.last.length := by
  unfold ssync
  split
  · exact ⟨rfl, rfl, rfl, rfl⟩
  · split
    · exact ⟨rfl, rfl, rfl, rfl⟩
    · split
      · exact ⟨rfl, rfl, rfl, srun_len s⟩
      · exact ⟨rfl, rfl, rfl, srun_len s⟩
theorem Pl.sync {m z : Nat} {s : Sto} (h : Pl m z s) (hm : m ≤ 80) : Pl (m + 1) z (ssync s) ∧ (s.over = false → ssyncE s = 0 → Sound (ssync s) ∧ (ssync s).q ≤ 1 + 2 * ((m + 1 : Nat) : Int)) := by
  obtain ⟨e1, e2, e3, e4⟩ := ssync_five s
  rcases h.two with ⟨a1, a2⟩ | ⟨b1, b2⟩
  · have hq0 := a1.q0
    rcases sync_two a1 (by omega) with ⟨g1, g2, _, _, g5, _⟩ | ⟨g1, _, g3, g4, _, g6⟩
    · exact ⟨⟨e1.trans h.sa, e2.trans h.sz, e3.trans h.sr, e4.trans h.len, Or.inl ⟨g2, by omega⟩⟩, fun _ _ => ⟨g2, by omega⟩⟩
    · refine ⟨⟨e1.trans h.sa, e2.trans h.sz, e3.trans h.sr, e4.trans h.len, Or.inr ⟨g3, g4, s.dk.last, chgs s.group, s.q + 2, by omega, by omega, by rw [chgs_length, ← h.sr]; exact a1.ok.gcnt, ?_⟩⟩, fun _ g => by rw [g1] at g; cases g⟩
      rw [h.sa, h.sz] at g6
      exact g6
  · have hs : ssync s = s := by unfold ssync; rw [if_pos b1]
    rw [hs]
    exact ⟨h.idle, fun g => by rw [b1] at g; cases g⟩
theorem Pl.keep {m z : Nat} {s : Sto} (h : Pl m z s) (hm : m ≤ 80) : Pl (m + 1) z (skeep s) := by
  cases ho : s.over with
  | true =>
    have : skeep s = s := by unfold skeep; rw [if_pos ho]
    rw [this]; exact h.idle
  | false =>
    have hnn : ¬ s.over = true := by rw [ho]; simp
    have hsd : Sound s := by
      rcases h.two with ⟨a1, _⟩ | ⟨b1, _⟩
      · exact a1
      · rw [ho] at b1; cases b1
    have hq : s.q ≤ 1 + 2 * (m : Int) := by
      rcases h.two with ⟨_, a2⟩ | ⟨b1, _⟩
      · exact a2
      · rw [ho] at b1; cases b1
    obtain ⟨e1, e2, e3, e4⟩ := ssync_five s
    unfold skeep
    rw [if_neg hnn]
    by_cases hr : s.r < stog s
    · rw [if_pos hr]
      obtain ⟨p1, p2⟩ := h.sync hm
      by_cases he : ssyncE s = 0
      · rw [if_pos he]
        obtain ⟨g1, g2⟩ := p2 ho he
        exact ⟨e1.trans h.sa, e2.trans h.sz, e3.trans h.sr, e4.trans h.len, Or.inl ⟨g1.join (sjoin_sync hsd.ok he), g2⟩⟩
      · rw [if_neg he]; exact p1
    · rw [if_neg hr]
      exact ⟨h.sa, h.sz, h.sr, h.len, Or.inl ⟨hsd.join (by omega), by show s.q ≤ _; omega⟩⟩
theorem crashTo_fuse (s : Dk.St) (k : Int) (keep : List UInt8) : ∀ n, Dk.crashTo (Dk.fuse s k) keep n = Dk.crashTo s keep n
  | 0 => rfl
  | n + 1 => by
    rw [Dk.crashTo, Dk.crashTo, crashTo_fuse s k keep n]; rfl
theorem crash_fuse (s : Dk.St) (k : Int) (keep : List UInt8) : Dk.crash (Dk.fuse s k) keep = Dk.crash s keep := by
  unfold Dk.crash
  rw [crashTo_fuse]; rfl
def sfuse (s : Sto) (k : Int) : Sto := { s with dk := Dk.fuse s.dk k }
theorem sfuse_ok {s : Sto} (h : s.Ok) (k : Int) : (sfuse s k).Ok := ⟨h.slen, h.glen, h.spg, h.gpg, h.scnt, h.gcnt, h.a9, h.z9, h.reg, h.room, h.r1, h.r32, h.rz⟩
theorem Pl.fuse {m z : Nat} {s : Sto} (h : Pl m z s) (k : Int) (h1 : -9223372036854775808 ≤ k) (h2 : k ≤ 9223372036854775807) : Pl (m + 1) z (sfuse s k) := by
  refine ⟨h.sa, h.sz, h.sr, h.len, ?_⟩
  rcases h.two with ⟨a1, a2⟩ | ⟨b1, b2, X, cs, B, c1, c2, c3, c4⟩
  · exact Or.inl ⟨⟨sfuse_ok a1.ok k, a1.up, Jn.fuse_cl a1.cl k h1 h2, a1.q0, a1.head⟩, by show s.q ≤ _; omega⟩
  · refine Or.inr ⟨b1, Dk.fuse_ok b2 k h1 h2, X, cs, B, c1, by omega, c3, fun keep => ?_⟩
    show Good false 20 z B cs X (Dk.crash (Dk.fuse s.dk k) keep).last
    rw [crash_fuse]; exact c4 keep
/-- behind a crash -/
theorem Pl.good {m z : Nat} {s : Sto} (h : Pl m z s) (hm : m ≤ 80) (keep : List UInt8) : s.dk.Ok ∧ ∃ (X : List (List UInt8)) (cs : List Chg) (B : Int), 0 ≤ B ∧ B ≤ 1 + 2 * (m : Int) ∧ cs.length ≤ z - 2 ∧ Good false 20 z B cs X (Dk.crash s.dk keep).last := by
  rcases h.two with ⟨a1, a2⟩ | ⟨b1, b2, X, cs, B, c1, c2, c3, c4⟩
  · have hq0 := a1.q0
    have hq1 : s.q < 4294967296 := by omega
    refine ⟨a1.cl.ok, s.dk.last, [], s.q, hq0, a2, Nat.zero_le _, ?_⟩
    rw [Jn.crash_clean a1.cl keep]
    have hh := a1.head
    rw [h.sa] at hh
    exact Or.inl ⟨rfl, rfl, by rw [hh]; exact Jn.page_low hq0 hq1 (Int.le_refl _), by rw [hh]; exact Jn.quietH_quiet hq0 hq1, fun _ _ => rfl⟩
  · exact ⟨b2, X, cs, B, c1, c2, c3, c4 keep⟩

/-! ### both Opens -/
def SOk (W : World) (d l m z : Nat) (S : Sto) (e : Ending) (w' : World) : Prop :=
  ∃ b : Blk, b.d = d ∧ b.l = l ∧ b.m = m ∧ W.heap.size ≤ b.s ∧ W.heap.size ≤ b.j ∧ W.heap.size ≤ b.t ∧ W.heap.size ≤ b.g ∧ e = .returned (.tuple #[.pointer (some ⟨b.s, 0, none⟩), .int .i64 0]) ∧ StoreAt w' b S ∧ Only [d, l, m] W w'
def ROk (W : World) (r ra rb rc z : Nat) (E : List Nat) (S : Sto) (e : Ending) (w' : World) : Prop :=
  ∃ b : RBlk, b.x = E ∧ b.r = r ∧ b.ra = ra ∧ b.rb = rb ∧ b.rc = rc ∧ W.heap.size ≤ b.v ∧ W.heap.size ≤ b.j ∧ e = .returned (.tuple #[.pointer (some ⟨b.v, 0, none⟩), .int .i64 0]) ∧ RStAt w' b S ∧ Only [r, ra, rb, rc] W w'
structure Both (z : Nat) (B : Int) (s : Dk.St) (R : Dk.St) (q : Int) : Prop where
  sound : Sound (sto0 R 20 z (z - 2) q)
  q1 : q ≤ B + 1
  len : R.last.length = 40
  prog : ∀ W d l m, DiskAt W d l m s → Calls Tryz.prog 8 #[.pointer (some ⟨d, 0, none⟩), .int .i64 20, .int .i64 (z : Int)] W (SOk W d l m z (sto0 R 20 z (z - 2) q))
  ref : ∀ W r ra rb rc (E : List Nat), RefAt W r ra rb rc s → (∀ k ∈ E, k < W.heap.size ∧ k ∉ [r, ra, rb, rc]) → Calls Tryz.prog 9 #[.pointer (some ⟨r, 0, none⟩), .int .i64 20, .int .i64 (z : Int)] W (ROk W r ra rb rc z E (sto0 R 20 z (z - 2) q))
theorem both_quiet {z : Nat} {B : Int} {s : Dk.St} {X : List (List UInt8)} (hc : Cl s) (hlim : s.lim = false) (hlen : s.last.length = 40) (hq : Quiet 20 z B s.last X) (h0 : 0 ≤ B) (hB : B < 250) (h3 : 3 ≤ z) (h20 : z ≤ 20) : ∃ R q, Both z B s R q := by
  obtain ⟨n0, n1, n2⟩ := Jn.next_one _ B hq.low h0
  have hrd := read_clean hc (show 20 < s.last.length by omega)
  have hroom := roomAny z h3 h20
  rcases Jn.openQ hc hq (by omega) (by omega) h0 hB with ⟨e1, e2, e3, e4, e5⟩ | ⟨_, e, _⟩
  · generalize hn : Hd.nextN [s.last.getD 20 []] = n at *
    have hl : (Jn.runs s [[⟨((20 : Nat) : Int), pageH (quietH n)⟩]]).1.last.length = 40 := by rw [e4, List.length_set, hlen]
    have hok := sto0_ok (s := (Jn.runs s [[⟨((20 : Nat) : Int), pageH (quietH n)⟩]]).1) (a := 20) (z := z) (r := z - 2) (q := n) (by omega) (by omega) hroom (by omega) (by omega) (by omega) (by rw [hl]; omega)
    refine ⟨(Jn.runs s [[⟨((20 : Nat) : Int), pageH (quietH n)⟩]]).1, n, ⟨hok, rfl, e2, n0, ?_⟩, n1, hl, fun W d l m hd => ?_, fun W r ra rb rc E hr hE => ?_⟩
    · show (Jn.runs s [[⟨((20 : Nat) : Int), pageH (quietH n)⟩]]).1.last.getD 20 [] = pageH (quietH n)
      rw [e4, List.getD_eq_getElem?_getD, List.getElem?_set_self (by omega)]; rfl
    · have ho := openQ_any hd hc hq h0 hB (by omega) (by omega) (by omega) hroom (by omega) (by omega)
      rw [hn] at ho
      refine (sopen_any ⟨hd.dlt, hd.llt, hd.mlt⟩ (by rw [hl]; omega) (by omega) (by omega) hroom (by omega) (by omega) (by omega) ho).mono ?_
      rintro e w' ⟨k1, k2, k3⟩
      rcases k3 with ⟨_, b, cnt, q, b1, b2, b3, b4, b5, b6, b7, k4, ⟨_, rfl⟩, k6⟩ | ⟨k4, _⟩
      · exact ⟨b, b1, b2, b3, b4, b5, b6, b7, k4, k6, k2⟩
      · exact absurd e1 k4
    · have ho := ropen_quiet (A := 20) (Z := z) hr hc.up (by omega) h3 h20 (by omega) (by rw [hrd]; exact hq.quiet) (by rw [hrd, hn]; omega)
      rw [hrd, hn] at ho
      refine (ropen6_ok hE ⟨hr.rlt, hr.alt, hr.blt, hr.clt⟩ e1 hok h3 h20 ho).mono ?_
      rintro e w' ⟨b, k0, k1, k2, k3, k4, k5, k6, k7, k8, k9⟩
      exact ⟨b, k0, k1, k2, k3, k4, k5, k6, k7, k8, k9⟩
  · rw [hlim] at e; cases e
theorem both_live {z : Nat} {B : Int} {s : Dk.St} {X : List (List UInt8)} {cs : List Chg} (hc : Cl s) (hlim : s.lim = false) (hlen : s.last.length = 40) (hm : May 20 z s.last.length cs) (hl : LiveD 20 z B cs s.last (upd X cs)) (hcl : cs.length ≤ z - 2) (h0 : 0 ≤ B) (hB : B < 250) (h3 : 3 ≤ z) (h20 : z ≤ 20) : ∃ R q, Both z B s R q := by
  obtain ⟨x, x0, x1, hx⟩ := hl.head
  have hroom := roomAny z h3 h20
  have hfit := hm.fit
  have hrd := read_clean hc (show 20 < s.last.length by omega)
  have hv : ∀ l ∈ [cs, [⟨((20 : Nat) : Int), pageH (quietH (x + 1))⟩]], Jn.Val s.last.length l := fun l hl' => by
    rcases List.mem_cons.1 hl' with rfl | hl'
    · exact hm.val
    · rw [List.mem_singleton] at hl'; subst hl'; exact Jn.val_one (by omega) _
  rcases Jn.runs_spec [cs, [⟨((20 : Nat) : Int), pageH (quietH (x + 1))⟩]] s hc hv with ⟨e1, e2, _, e4⟩ | ⟨_, e, _⟩
  · have hlr : (Jn.runs s [cs, [⟨((20 : Nat) : Int), pageH (quietH (x + 1))⟩]]).1.last.length = 40 := by rw [e4, Jn.updAll_length, hlen]
    have hok := sto0_ok (s := (Jn.runs s [cs, [⟨((20 : Nat) : Int), pageH (quietH (x + 1))⟩]]).1) (a := 20) (z := z) (r := z - 2) (q := x + 1) (by omega) (by omega) hroom (by omega) (by omega) (by omega) (by rw [hlr]; omega)
    have hE1 : (Jn.runW s cs).2 = 0 := by
      by_cases g : (Jn.runW s cs).2 = 0
      · exact g
      · rw [runs_bad g] at e1; exact absurd e1 g
    have hE2 : (Jn.runW (Jn.runW s cs).1 [⟨((20 : Nat) : Int), pageH (quietH (x + 1))⟩]).2 = 0 := by
      rw [runs_ok hE1, runs_one] at e1
      exact e1
    refine ⟨(Jn.runs s [cs, [⟨((20 : Nat) : Int), pageH (quietH (x + 1))⟩]]).1, x + 1, ⟨hok, rfl, e2, by show 0 ≤ x + 1; omega, ?_⟩, by omega, hlr, fun W d l m hd => ?_, fun W r ra rb rc E hr hE => ?_⟩
    · show (Jn.runs s [cs, [⟨((20 : Nat) : Int), pageH (quietH (x + 1))⟩]]).1.last.getD 20 [] = pageH (quietH (x + 1))
      rw [e4]
      show (upd (upd s.last cs) [⟨((20 : Nat) : Int), pageH (quietH (x + 1))⟩]).getD 20 [] = _
      exact Jn.upd_one_at (by rw [Jn.upd_length]; omega) _
    · have ho := openL_any hd hc hl hm x0 x1 hB hx (by omega) (by omega) hroom (by omega) (by omega) hcl
      refine (sopen_any ⟨hd.dlt, hd.llt, hd.mlt⟩ (by rw [hlr]; omega) (by omega) (by omega) hroom (by omega) (by omega) (by omega) ho).mono ?_
      rintro e w' ⟨k1, k2, k3⟩
      rcases k3 with ⟨_, b, cnt, q, b1, b2, b3, b4, b5, b6, b7, k4, hq, k6⟩ | ⟨k4, _⟩
      · have := hq e1
        subst this
        exact ⟨b, b1, b2, b3, b4, b5, b6, b7, k4, k6, k2⟩
      · exact absurd e1 k4
    · have ho := ropen_live (A := 20) (Z := z) (x0 := x) hr hc.up (by omega) h3 h20 hm x0 (by omega) (hrd.trans hx) (rdN_clean hc (by omega) (Jn.layN_length cs) hl.laid) hE1 hE2
      rw [show x + 2 = x + 1 + 1 by omega] at ho
      refine (ropen6_ok hE ⟨hr.rlt, hr.alt, hr.blt, hr.clt⟩ e1 hok h3 h20 ho).mono ?_
      rintro e w' ⟨b, k0, k1, k2, k3, k4, k5, k6, k7, k8, k9⟩
      exact ⟨b, k0, k1, k2, k3, k4, k5, k6, k7, k8, k9⟩
  · rw [hlim] at e; cases e
theorem both_open {z : Nat} {B : Int} {s : Dk.St} {X : List (List UInt8)} {cs : List Chg} (hc : Cl s) (hlim : s.lim = false) (hlen : s.last.length = 40) (hg : Good false 20 z B cs X s.last) (hcl : cs.length ≤ z - 2) (h0 : 0 ≤ B) (hB : B < 250) (h3 : 3 ≤ z) (h20 : z ≤ 20) : ∃ R q, Both z B s R q := by
  rcases hg with ⟨_, hq⟩ | hq | ⟨hm, hl⟩
  · exact both_quiet hc hlim hlen hq h0 hB h3 h20
  · exact both_quiet hc hlim hlen hq h0 hB h3 h20
  · exact both_live hc hlim hlen hm hl hcl h0 hB h3 h20
theorem both_fresh {z : Nat} (h3 : 3 ≤ z) (h20 : z ≤ 20) : ∃ R q, Both z 0 (Dk.fresh 40) R q :=
  both_quiet (fresh_cl (by omega) (by omega)) rfl (fresh_len 40) (fresh_quiet (by omega)) (Int.le_refl _) (by omega) h3 h20
theorem Both.pl {z : Nat} {B : Int} {s R : Dk.St} {q : Int} (h : Both z B s R q) {m : Nat} (hB : B ≤ 2 * (m : Int)) : Pl m z (sto0 R 20 z (z - 2) q) :=
  ⟨rfl, rfl, rfl, h.len, Or.inl ⟨h.sound, by have := h.q1; show q ≤ _; omega⟩⟩
theorem Pl.opens {m z : Nat} {s : Sto} (h : Pl m z s) (hm : m ≤ 80) (h3 : 3 ≤ z) (h20 : z ≤ 20) (keep : List UInt8) : ∃ R q B, Both z B (Dk.crash s.dk keep) R q ∧ Pl (m + 1) z (sto0 R 20 z (z - 2) q) := by
  obtain ⟨hok, X, cs, B, b0, b1, b2, hg⟩ := h.good hm keep
  obtain ⟨R, q, hb⟩ := both_open (Jn.crash_cl hok keep) rfl (by rw [Dk.crash_len]; exact h.len) hg b2 b0 (by omega) h3 h20
  exact ⟨R, q, B, hb, hb.pl (by omega)⟩
end Go.Proofs.YtppbiohjhnoagaaGreat

/-
  StorePlays in memory: both disks, both stores.
-/
namespace Go.Proofs.YtppbiohjhnoagaaGreat
open Go.RowKit
open Dk (zeros zeros_length)
open Jn (Chg)

/-! ### both disks -/
structure PlayAt (w0 : World) (d l m r a b c n : Nat) (s t : Dk.St) (W : World) : Prop where
  disk : DiskAt W d l m s
  ref : RefAt W r a b c t
  below : Below w0.heap.size w0 W
  slen : s.last.length = n
  tlen : t.last.length = n
  old : ∀ k ∈ [d, l, m, r, a, b, c], w0.heap.size ≤ k
  apart : ∀ x ∈ [d, l, m], ∀ y ∈ [r, a, b, c], x ≠ y
theorem PlayAt.byBelow {w0 : World} {d l m r a b c n : Nat} {s t : Dk.St} {W W' : World} (h : PlayAt w0 d l m r a b c n s t W) (hb : Below W.heap.size W W') : PlayAt w0 d l m r a b c n s t W' :=
  ⟨h.disk.below hb, h.ref.below hb, h.below.trans (hb.mono h.below.size), h.slen, h.tlen, h.old, h.apart⟩
theorem PlayAt.drewN {w0 : World} {d l m r a b c n : Nat} {s t : Dk.St} {W : World} (h : PlayAt w0 d l m r a b c n s t W) (k : Nat) : PlayAt w0 d l m r a b c n s t (W.drewN k) :=
  ⟨h.disk.drewN k, h.ref.blocks rfl rfl rfl rfl, ⟨h.below.os, h.below.tape, h.below.output, h.below.size, h.below.block⟩, h.slen, h.tlen, h.old, h.apart⟩
theorem PlayAt.byDisk {w0 : World} {d l m r a b c n : Nat} {s s' t : Dk.St} {W W' : World} {L : List Nat} (h : PlayAt w0 d l m r a b c n s t W) (hd : DiskAt W' d l m s') (ho : Only L W W') (hL : ∀ k ∈ L, k ∈ [d, l, m]) (hs : s'.last.length = s.last.length) : PlayAt w0 d l m r a b c n s' t W' where
  disk := hd
  ref := h.ref.only ho (fun e => h.apart r (hL r e) r (by simp) rfl) (fun e => h.apart a (hL a e) a (by simp) rfl) (fun e => h.apart b (hL b e) b (by simp) rfl) (fun e => h.apart c (hL c e) c (by simp) rfl)
  below := Only.toBelowOld h.below ho h.below.size (fun k hk => h.old k (by have := hL k hk; simp at this ⊢; omega))
  slen := hs.trans h.slen
  tlen := h.tlen
  old := h.old
  apart := h.apart
theorem PlayAt.byRef {w0 : World} {d l m r a b c n : Nat} {s t t' : Dk.St} {W W' : World} {L : List Nat} (h : PlayAt w0 d l m r a b c n s t W) (hr : RefAt W' r a b c t') (ho : Only L W W') (hL : ∀ k ∈ L, k ∈ [r, a, b, c]) (hs : t'.last.length = t.last.length) : PlayAt w0 d l m r a b c n s t' W' where
  disk := h.disk.only ho (fun e => h.apart d (by simp) d (hL d e) rfl) (fun e => h.apart l (by simp) l (hL l e) rfl) (fun e => h.apart m (by simp) m (hL m e) rfl)
  ref := hr
  below := Only.toBelowOld h.below ho h.below.size (fun k hk => h.old k (by have := hL k hk; simp at this ⊢; omega))
  slen := h.slen
  tlen := hs.trans h.tlen
  old := h.old
  apart := h.apart
theorem PlayAt.byOther {w0 : World} {d l m r a b c n x : Nat} {s t : Dk.St} {W W' : World} (h : PlayAt w0 d l m r a b c n s t W) (ho : Only [x] W W') (hx : x ∉ [d, l, m, r, a, b, c]) (hx0 : w0.heap.size ≤ x) : PlayAt w0 d l m r a b c n s t W' := by
  simp at hx
  exact ⟨h.disk.only ho (by simp; omega) (by simp; omega) (by simp; omega), h.ref.only ho (by simp; omega) (by simp; omega) (by simp; omega) (by simp; omega), Only.toBelowOld h.below ho h.below.size (fun k hk => by simp at hk; omega), h.slen, h.tlen, h.old, h.apart⟩
theorem PlayAt.lts {w0 : World} {d l m r a b c n : Nat} {s t : Dk.St} {W : World} (h : PlayAt w0 d l m r a b c n s t W) : ∀ k ∈ [d, l, m, r, a, b, c], k < W.heap.size := fun k hk => by
  simp at hk
  rcases hk with rfl | rfl | rfl | rfl | rfl | rfl | rfl
  · exact h.disk.dlt
  · exact h.disk.llt
  · exact h.disk.mlt
  · exact h.ref.rlt
  · exact h.ref.alt
  · exact h.ref.blt
  · exact h.ref.clt
theorem PlayAt.start (w0 w1 : World) (hw : Below w0.heap.size w0 w1) (n : Nat) (h1 : 1 ≤ n) (h2 : n ≤ 512) {e : Ending} {W : World} (h : NewRef (newWorld w1 n) n e W) :
    ∃ r a b c, e = .returned (.pointer (some ⟨r, 0, none⟩)) ∧ PlayAt w0 (w1.heap.size + 2) w1.heap.size (w1.heap.size + 1) r a b c n (Dk.fresh n) (Dk.fresh n) W := by
  obtain ⟨r, a, b, c, he, hr, hb, o1, o2, o3, o4⟩ := h
  have hz := newWorld_size w1 n
  have hw0 := hw.size
  refine ⟨r, a, b, c, he, (newWorld_disk w1 n h1 h2).below hb, hr, (hw.trans ((newWorld_below w1 n).mono hw.size)).trans (hb.mono (by omega)), by unfold Dk.fresh; simp, by unfold Dk.fresh; simp, ?_, ?_⟩
  · intro k hk
    simp at hk
    omega
  · intro x hx y hy
    simp at hx hy
    omega


/-! ### both stores -/
structure PlW (w : World) (b : Blk) (r : RBlk) (s t : Sto) (W : World) : Prop where
  st : StoreAt W b s
  rs : RStAt W r t
  x : r.x = b.all
  bel : Below w.heap.size w W
  old : ∀ k ∈ b.all, w.heap.size ≤ k
  rold : ∀ k ∈ r.all, w.heap.size ≤ k
theorem PlW.byBelow {w : World} {b : Blk} {r : RBlk} {s t : Sto} {W W' : World} (h : PlW w b r s t W) (hb : Below W.heap.size W W') : PlW w b r s t W' :=
  ⟨h.st.below hb, h.rs.below hb, h.x, h.bel.trans (hb.mono h.bel.size), h.old, h.rold⟩
theorem PlW.byProg {w : World} {b : Blk} {r : RBlk} {s s' t : Sto} {W W' : World} {L : List Nat} (h : PlW w b r s t W) (hs : StoreAt W' b s') (ho : Only L W W') (hL : ∀ k ∈ L, k ∈ b.all) : PlW w b r s' t W' :=
  ⟨hs, h.rs.others ho (fun k hk => by rw [h.x]; exact hL k hk), h.x, Only.toBelowOld h.bel ho h.bel.size (fun k hk => h.old k (hL k hk)), h.old, h.rold⟩
theorem PlW.byRef {w : World} {b : Blk} {r : RBlk} {s t t' : Sto} {W W' : World} {L : List Nat} (h : PlW w b r s t W) (hs : RStAt W' r t') (ho : Only L W W') (hL : ∀ k ∈ L, k ∈ r.all) : PlW w b r s t' W' :=
  ⟨h.st.only ho (fun k hk e => h.rs.ap k (by rw [h.x]; exact hk) (hL k e)), hs, h.x, Only.toBelowOld h.bel ho h.bel.size (fun k hk => h.rold k (hL k hk)), h.old, h.rold⟩
theorem PlW.lts {w : World} {b : Blk} {r : RBlk} {s t : Sto} {W : World} (h : PlW w b r s t W) : ∀ k, k ∈ b.all ∨ k ∈ r.all → k < W.heap.size := fun k hk => by
  rcases hk with hk | hk
  · exact h.st.lt k hk
  · exact h.rs.lt k hk
/-- the disks of it -/
theorem PlW.disks {w : World} {b : Blk} {r : RBlk} {s t : Sto} {W : World} {n : Nat} (h : PlW w b r s t W) (hs : s.dk.last.length = n) (ht : t.dk.last.length = n) : PlayAt w b.d b.l b.m r.r r.ra r.rb r.rc n s.dk t.dk W where
  disk := h.st.disk
  ref := h.rs.disk
  below := h.bel
  slen := hs
  tlen := ht
  old := fun k hk => by
    simp at hk
    rcases hk with rfl | rfl | rfl | rfl | rfl | rfl | rfl
    · exact h.old _ (by simp [Blk.all])
    · exact h.old _ (by simp [Blk.all])
    · exact h.old _ (by simp [Blk.all])
    · exact h.rold _ (by simp [RBlk.all])
    · exact h.rold _ (by simp [RBlk.all])
    · exact h.rold _ (by simp [RBlk.all])
    · exact h.rold _ (by simp [RBlk.all])
  apart := fun x hx y hy e => by
    subst e
    refine h.rs.ap x ?_ ?_
    · rw [h.x]
      simp at hx
      rcases hx with rfl | rfl | rfl <;> simp [Blk.all]
    · simp at hy
      rcases hy with rfl | rfl | rfl | rfl <;> simp [RBlk.all]
/-- behind both Opens -/
theorem PlayAt.opened {w : World} {d l m r ra rb rc z n : Nat} {s t : Dk.St} {S : Sto} {W W1 : World} {e1 : Ending} (h : PlayAt w d l m r ra rb rc n s t W) (h1 : SOk W d l m z S e1 W1) :
    ∃ b : Blk, e1 = .returned (.tuple #[.pointer (some ⟨b.s, 0, none⟩), .int .i64 0]) ∧ b.d = d ∧ b.l = l ∧ b.m = m ∧ RefAt W1 r ra rb rc t ∧ (∀ k ∈ b.all, k < W1.heap.size ∧ k ∉ [r, ra, rb, rc]) ∧
      (∀ e2 W2, ROk W1 r ra rb rc z b.all S e2 W2 → ∃ q : RBlk, e2 = .returned (.tuple #[.pointer (some ⟨q.v, 0, none⟩), .int .i64 0]) ∧ q.r = r ∧ q.ra = ra ∧ q.rb = rb ∧ q.rc = rc ∧ PlW w b q S S W2) := by
  obtain ⟨b, b1, b2, b3, b4, b5, b6, b7, be, bs, bo⟩ := h1
  have hsz := h.below.size
  have hlt := h.lts
  have hr : r < W.heap.size ∧ ra < W.heap.size ∧ rb < W.heap.size ∧ rc < W.heap.size := ⟨hlt r (by simp), hlt ra (by simp), hlt rb (by simp), hlt rc (by simp)⟩
  have hap : ∀ k ∈ b.all, k ∉ [r, ra, rb, rc] := fun k hk e => by
    unfold Blk.all at hk
    simp only [List.mem_cons, List.not_mem_nil, or_false] at hk
    have hd : ∀ x ∈ [d, l, m], x ∉ [r, ra, rb, rc] := fun x hx e => h.apart x hx x e rfl
    rcases hk with rfl | rfl | rfl | rfl | rfl | rfl | rfl
    · simp at e; omega
    · simp at e; omega
    · exact hd _ (by simp [b1]) e
    · exact hd _ (by simp [b2]) e
    · exact hd _ (by simp [b3]) e
    · simp at e; omega
    · simp at e; omega
  have hbo : ∀ k ∈ b.all, w.heap.size ≤ k := fun k hk => by
    unfold Blk.all at hk
    simp only [List.mem_cons, List.not_mem_nil, or_false] at hk
    rcases hk with rfl | rfl | rfl | rfl | rfl | rfl | rfl
    · omega
    · omega
    · rw [b1]; exact h.old _ (by simp)
    · rw [b2]; exact h.old _ (by simp)
    · rw [b3]; exact h.old _ (by simp)
    · omega
    · omega
  have hnd : ∀ x ∈ [r, ra, rb, rc], x ∉ [d, l, m] := fun x hx e => h.apart x e x hx rfl
  have hb1 : Below w.heap.size w W1 := Only.toBelowOld h.below bo hsz (fun k hk => h.old k (by simp at hk ⊢; omega))
  refine ⟨b, be, b1, b2, b3, h.ref.only bo (hnd _ (by simp)) (hnd _ (by simp)) (hnd _ (by simp)) (hnd _ (by simp)), fun k hk => ⟨bs.lt k hk, hap k hk⟩, ?_⟩
  rintro e2 W2 ⟨q, q0, q1, q2, q3, q4, q5, q6, qe, qs, qo⟩
  refine ⟨q, qe, q1, q2, q3, q4, bs.only qo (fun k hk => hap k hk), qs, q0, Only.toBelowOld hb1 qo hb1.size (fun k hk => h.old k (by simp at hk ⊢; omega)), hbo, fun k hk => ?_⟩
  have hs1 := hb1.size
  unfold RBlk.all at hk
  simp only [List.mem_cons, List.not_mem_nil, or_false] at hk
  rcases hk with rfl | rfl | rfl | rfl | rfl | rfl
  · omega
  · omega
  · rw [q1]; exact h.old _ (by simp)
  · rw [q2]; exact h.old _ (by simp)
  · rw [q3]; exact h.old _ (by simp)
  · rw [q4]; exact h.old _ (by simp)
/-- a fuse of both disks -/
theorem fuse_st {W W' : World} {b : Blk} {s : Sto} {k : Int} (h : StoreAt W b s) (hd : DiskAt W' b.d b.l b.m (Dk.fuse s.dk k)) (ho : Only [b.d] W W') : StoreAt W' b (sfuse s k) := by
  have ne := Blk.ne h.nd
  obtain ⟨q', hj, hq⟩ := h.ja
  have e : ∀ x, x ∈ b.all → x ≠ b.d → W'.heap[x]? = W.heap[x]? := fun x hx hn => ho.block x (h.lt x hx) (by simpa using hn)
  have m1 : b.s ∈ b.all ∧ b.j ∈ b.all ∧ b.t ∈ b.all ∧ b.g ∈ b.all := by simp [Blk.all]
  exact ⟨h.row.block (e _ m1.1 (by omega)), ⟨q', hj.block (e _ m1.2.1 (by omega)), hq⟩, hd, h.step.block (e _ m1.2.2.1 (by omega)), h.group.block (e _ m1.2.2.2 (by omega)), h.nd, sfuse_ok h.ok k⟩
theorem fuse_rst {W W' : World} {b : RBlk} {s : Sto} {k : Int} {L : List Nat} (h : RStAt W b s) (hd : RefAt W' b.r b.ra b.rb b.rc (Dk.fuse s.dk k)) (ho : Only L W W') (hL : ∀ x ∈ L, x ∈ [b.r, b.ra, b.rb, b.rc]) : RStAt W' b (sfuse s k) := by
  have ne := RBlk.ne h.nd
  obtain ⟨q, hj, hq⟩ := h.ja
  obtain ⟨P1, c1, P2, c2, hr, h1, h2⟩ := h.row
  have hf : ∀ x ∈ L, x ∈ b.far := fun x hx => by
    have := hL x hx
    simp [RBlk.far, RBlk.all] at this ⊢
    omega
  exact ⟨⟨P1, c1, P2, c2, RowAt.only hr ho (fun e => ne.2.1 (hL _ e)), h1.only ho hf, h2.only ho hf⟩, ⟨q, hj.only ho (fun e => ne.2.2.1 (hL _ e)), hq⟩, hd, h.nd, sfuse_ok h.ok k, h.z3, h.z20, h.r2, fun x hx => Nat.lt_of_lt_of_le (h.xs x hx) ho.size, h.ap⟩
theorem PlW.fuse1 {w : World} {b : Blk} {q : RBlk} {s t : Sto} {W W' : World} {d l m : Nat} {k : Int} (h : PlW w b q s t W) (e1 : b.d = d) (e2 : b.l = l) (e3 : b.m = m) (hd : DiskAt W' d l m (Dk.fuse s.dk k)) (ho : Only [d] W W') : PlW w b q (sfuse s k) t W' := by
  subst e1; subst e2; subst e3
  exact h.byProg (fuse_st h.st hd ho) ho (by simp [Blk.all])
theorem PlW.fuse2 {w : World} {b : Blk} {q : RBlk} {s t : Sto} {W W' : World} {r ra rb rc : Nat} {k : Int} (h : PlW w b q s t W) (e1 : q.r = r) (e2 : q.ra = ra) (e3 : q.rb = rb) (e4 : q.rc = rc) (hd : RefAt W' r ra rb rc (Dk.fuse t.dk k)) (ho : Only [r] W W') : PlW w b q s (sfuse t k) W' := by
  subst e1; subst e2; subst e3; subst e4
  exact h.byRef (fuse_rst h.rs hd ho (by simp)) ho (by simp [RBlk.all])
theorem PlW.both {w : World} {b : Blk} {q : RBlk} {s t : Sto} {W : World} {d l m r ra rb rc n : Nat} (h : PlW w b q s t W) (hs : s.dk.last.length = n) (ht : t.dk.last.length = n) (e1 : b.d = d) (e2 : b.l = l) (e3 : b.m = m) (e4 : q.r = r) (e5 : q.ra = ra) (e6 : q.rb = rb) (e7 : q.rc = rc) : PlayAt w d l m r ra rb rc n s.dk t.dk W := by
  subst e1; subst e2; subst e3; subst e4; subst e5; subst e6; subst e7
  exact h.disks hs ht
theorem PlW.dropRef {w : World} {b : Blk} {q : RBlk} {s t : Sto} {W : World} (h : PlW w b q s t W) : PlW w b q s (sdrop t) (W.setCell ⟨q.v, 1, none⟩ (.slice none 0 0)) := by
  have h1 := h.rs.setStep (P := none) (n := 0) (c := noPgs t.dk.last.length) (by rw [chgs_no]; intro h0; simp at h0) (sdrop_ok h.rs.ok)
  rw [chgs_no] at h1
  exact h.byRef (L := [q.v]) h1 ((Only.refl _ _).setCell (p := ⟨q.v, 1, none⟩) (by simp) _) (by simp [RBlk.all])
/-- what is played, by what it hangs on -/
structure Kept (w : World) (d l m r ra rb rc z k : Nat) (b : Blk) (q : RBlk) (s : Sto) (W : World) : Prop where
  d : b.d = d
  l : b.l = l
  m : b.m = m
  r : q.r = r
  ra : q.ra = ra
  rb : q.rb = rb
  rc : q.rc = rc
  pl : Pl k z s
  w : PlW w b q s s W
/-- behind the switch -/
def MeetP (w : World) (d l m r ra rb rc z k : Nat) (sv vv g h : Value) (W : World) : Prop :=
  ∃ (b : Blk) (q : RBlk) (s : Sto) (E : Int), sv = .pointer (some ⟨b.s, 0, none⟩) ∧ vv = .pointer (some ⟨q.v, 0, none⟩) ∧ g = .int .i64 E ∧ h = .int .i64 E ∧ Kept w d l m r ra rb rc z (k + 1) b q s W
end Go.Proofs.YtppbiohjhnoagaaGreat
