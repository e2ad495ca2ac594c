/-
  The contract of disk's Crash.
-/
import Derived.Test.YtlamllnflbdcjaaDflushw
namespace Go.Proofs.Ytlamllnflbdcjaa
open Go.RowKit Go.Maps
open Dk (zeros zeros_length)

/-- bytes in a slice, in none of some blocks -/
structure KeepAt (w : World) (A : Option Addr) (c : Nat) (keep : List UInt8) (L : List Nat) : Prop where
  small : keep.length ≤ 1000
  room : keep.length ≤ c
  cells : 0 < keep.length → ∃ kb ko, A = some ⟨kb, ko, none⟩ ∧ kb < w.heap.size ∧ kb ∉ L ∧ ∀ j, j < keep.length → w.cell? ⟨kb, ko + j, none⟩ = some (.int .u8 ((keep.getD j 0).toNat : Int))
theorem KeepAt.only {w w' : World} {A : Option Addr} {c : Nat} {keep : List UInt8} {L L' : List Nat} (h : KeepAt w A c keep L) (ho : Only L' w w') (hL : ∀ k ∈ L', k ∈ L) : KeepAt w' A c keep L :=
  ⟨h.small, h.room, fun h0 => by
    obtain ⟨kb, ko, e, h1, h2, h3⟩ := h.cells h0
    exact ⟨kb, ko, e, Nat.lt_of_lt_of_le h1 ho.size, h2, fun j hj => (ho.cell (p := ⟨kb, ko + j, none⟩) h1 (fun q => h2 (hL _ q))).trans (h3 j hj)⟩⟩
theorem KeepAt.below {w w' : World} {A : Option Addr} {c : Nat} {keep : List UInt8} {L : List Nat} (h : KeepAt w A c keep L) (hb : Below w.heap.size w w') : KeepAt w' A c keep L := h.only (L' := []) (Only.below hb) (by simp)
/-- the loop's state -/
structure CrashAt (w : World) (l : Nat) (s : Dk.St) (keep : List UInt8) (k : Nat) (wr : World) : Prop where
  rows : RowsAt wr l (Dk.crashTo s keep k).1
  only : Only [l] w wr
/-- the choices that are left -/
def RestV (kb ko : Nat) (keep r : List UInt8) (v : Value) : Prop := ∃ j M A c, j + M = keep.length ∧ r = keep.drop j ∧ v = .slice A M c ∧ M ≤ c ∧ (0 < M → A = some ⟨kb, ko + j, none⟩)

theorem DiskAt.renew {w w' : World} {d l m : Nat} {s : Dk.St} (h : DiskAt w d l m s) (hd : w'.heap[d]? = w.heap[d]?) {last : List (List UInt8)} {cache : List (Option (List UInt8))} (hl : last.length = s.last.length) (hr : RowsAt w' l last) (hm : MapAt w' m cache)
    (hok : Dk.St.Ok { s with last := last, cache := cache }) : DiskAt w' d l m { s with last := last, cache := cache } :=
  { ok := hok, dl := h.dl, dm := h.dm, lm := h.lm
    c0 := (World.cell?_of_block (w := w) (a := ⟨d, 0, none⟩) hd).trans h.c0
    c1 := (World.cell?_of_block (w := w) (a := ⟨d, 1, none⟩) hd).trans h.c1
    c2 := (World.cell?_of_block (w := w) (a := ⟨d, 2, none⟩) hd).trans h.c2
    c3 := (World.cell?_of_block (w := w) (a := ⟨d, 3, none⟩) hd).trans (by show _ = some (Value.slice _ last.length last.length); rw [hl]; exact h.c3)
    c4 := (World.cell?_of_block (w := w) (a := ⟨d, 4, none⟩) hd).trans h.c4
    f0 := (World.frozen?_of_block (w := w) (a := ⟨d, 0, none⟩) hd).trans h.f0
    f1 := (World.frozen?_of_block (w := w) (a := ⟨d, 1, none⟩) hd).trans h.f1
    f2 := (World.frozen?_of_block (w := w) (a := ⟨d, 2, none⟩) hd).trans h.f2
    rows := hr, map := hm }
theorem crash_end {w wr w2 : World} {d l m : Nat} {s : Dk.St} (h : DiskAt w d l m s) {keep : List UInt8} {k : Nat} (hc : CrashAt w l s keep k wr) (hfin : Dk.crashTo s keep s.last.length = Dk.crashTo s keep k)
    (hm : MapAt w2 m (List.replicate s.last.length none)) (ht : wr.mapTurned w2 m) :
    DiskAt w2 d l m { s with last := (Dk.crashTo s keep s.last.length).1, cache := List.replicate s.last.length none } ∧ Only [d, l, m] w w2 ∧ DiskAt (((w2.setCell ⟨d, 0, none⟩ (.bool false)).setCell ⟨d, 1, none⟩ (.int .i64 0)).setCell ⟨d, 2, none⟩ (.bool false)) d l m (Dk.crash s keep) := by
  have hcr := Dk.crash_ok h.ok keep
  have hd : w2.heap[d]? = w.heap[d]? := (ht.grown.block d (Nat.lt_of_lt_of_le h.dlt hc.only.size) (fun e => h.dm (by injection e))).trans (hc.only.block d h.dlt (by simpa using h.dl))
  have hrow : RowsAt w2 l (Dk.crashTo s keep s.last.length).1 := by
    rw [hfin]
    exact hc.rows.block (ht.grown.block l (Nat.lt_of_lt_of_le h.llt hc.only.size) (fun e => h.lm (by injection e)))
  have h1 := h.renew hd (Dk.crashTo_len s keep s.last.length) hrow hm ⟨hcr.same, hcr.pos, hcr.small, hcr.pages, hcr.cpages, h.ok.lo, h.ok.hi, h.ok.live⟩
  refine ⟨h1, (hc.only.mono (by simp)).trans (Only.grown ht.grown (by simp)), ?_⟩
  exact (h1.setFuse false 0 ⟨hcr.same, hcr.pos, hcr.small, hcr.pages, hcr.cpages, by show _ ≤ (0 : Int); omega, by show (0 : Int) ≤ _; omega, fun e => by cases e⟩).setDown false
theorem crash_step {w wr W2 : World} {d l m : Nat} {s : Dk.St} (h : DiskAt w d l m s) {keep : List UInt8} {k : Nat} (hc : CrashAt w l s keep k wr) (hb : Below wr.heap.size wr W2) : CrashAt w l s keep k W2 :=
  ⟨hc.rows.block (hb.block l (Nat.lt_of_lt_of_le h.llt hc.only.size)), hc.only.trans (Only.below hb)⟩
theorem CrashAt.disk {w wr : World} {d l m : Nat} {s : Dk.St} (h : DiskAt w d l m s) {keep : List UInt8} {k : Nat} (hc : CrashAt w l s keep k wr) :
    wr.cell? ⟨d, 3, none⟩ = some (.slice (some ⟨l, 0, none⟩) s.last.length s.last.length) ∧ wr.cell? ⟨d, 4, none⟩ = some (.map (some m)) ∧ MapAt wr m s.cache :=
  ⟨(hc.only.cell (p := ⟨d, 3, none⟩) h.dlt (by simpa using h.dl)).trans h.c3, (hc.only.cell (p := ⟨d, 4, none⟩) h.dlt (by simpa using h.dl)).trans h.c4, h.map.block (hc.only.block m h.mlt (by simpa using Ne.symm h.lm))⟩
theorem crash_put {w W : World} {d l m : Nat} {s : Dk.St} (h : DiskAt w d l m s) {keep r : List UInt8} {k : Nat} {p : List UInt8} {c : UInt8} (hc : CrashAt w l s keep k W) (hk : k < s.last.length) (hp : Dk.cacheAt s k = some p) (hr : (Dk.crashTo s keep k).2 = c :: r) :
    CrashAt w l s keep (k + 1) (W.setCells l (k * 64) (byteVals (Dk.torn (Dk.lastAt s k) p c))) ∧ (Dk.crashTo s keep (k + 1)).2 = r := by
  have e : Dk.crashTo s keep (k + 1) = ((Dk.crashTo s keep k).1.set k (Dk.torn (Dk.lastAt s k) p c), r) := Dk.crashOne_some hp hr
  refine ⟨⟨?_, Only.setCells l (by simp) _ _ _ hc.only⟩, by rw [e]⟩
  rw [e]
  exact hc.rows.put k (by rw [Dk.crashTo_len]; exact hk) _ (Dk.torn_len c (Dk.lastAt_len h.ok hk) (Dk.cacheAt_len h.ok hp))
theorem run_slice_tail (A : Option Addr) (kb o K C : Nat) (hA : A = some ⟨kb, o, none⟩) (hKC : K ≤ C) : ∃ A', (∀ w : World, (Instr.slice 29 (.slice A (K + 1) (C + 1)) (some (.int .i64 1)) none none).run Try.prog w = .ok (.slice A' K C) w) ∧ (0 < K → A' = some ⟨kb, o + 1, none⟩) := by
  have eB : Try.prog.elem 29 = 5 := by kernel_rfl
  have uB : Try.prog.underlying 29 = some (.slice (Try.prog.elem 29)) := by rw [eB]; exact Try.underlying29
  refine ⟨if C + 1 = 1 then A else A.map (·.add (1 * 1)), fun w => ?_, fun h0 => ?_⟩
  · have := run_slice_l w 29 A (K + 1) (C + 1) uB .i64 1 (by omega) (by omega)
    rw [eB, run_size8, Result.andThen_ok] at this
    exact this
  show (if C + 1 = 1 then A else A.map (·.add (1 * 1))) = _
  rw [if_neg (by omega), hA]
  show some (Addr.add _ _) = _
  rw [Addr.add_mid]
theorem crash_nil (A : Option Addr) (n c : Nat) (w : World) : Calls Try.prog 11 #[.pointer none, .slice A n c] w fun e w' => e = .returned (.tuple #[]) ∧ w = w' := by
  go_enter Try.func11, Try.ntmps11
  go_wp2
  (try simp only [Exit.inBlock, Exit.then])
  refine bodyPost_ret (results_none rfl _ _ _) rfl ?_
  exact ⟨rfl, rfl⟩
end Go.Proofs.Ytlamllnflbdcjaa
