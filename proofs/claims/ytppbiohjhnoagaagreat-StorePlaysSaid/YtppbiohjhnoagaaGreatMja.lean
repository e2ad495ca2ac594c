/-
  A journal in memory: slices of pages and of changes that lie in none of some blocks; a change in a variable; the journal's own block.
-/
import Derived.Test.YtppbiohjhnoagaaGreatMhb
import Derived.Test.YtppbiohjhnoagaaGreatMdb
import Derived.Test.YtppbiohjhnoagaaGreatMma
import Derived.Laws.IdiomStrings
namespace Go.Proofs.YtppbiohjhnoagaaGreat
open Go.RowKit
open Dk (zeros zeros_length)
open Hd (Head rightB pageH)
open Jn (Chg)

/-! ### slices of rows of cells -/
def SlAt {α : Type} (w : World) (A : Option Addr) (L : List Nat) (k : Nat) (f : α → List Value) (xs : List α) : Prop :=
  0 < xs.length → ∃ b off, A = some ⟨b, off, none⟩ ∧ b < w.heap.size ∧ b ∉ L ∧ ∀ i x, xs[i]? = some x → w.rangeAt b (off + i * k) (f x)
set_option maxRecDepth 100000 in
theorem SlAt.only {α : Type} {w w' : World} {A : Option Addr} {L L' : List Nat} {k : Nat} {f : α → List Value} {xs : List α} (h : SlAt w A L k f xs) (ho : Only L' w w') (hL : ∀ x ∈ L', x ∈ L) : SlAt w' A L k f xs := fun h0 => by
  obtain ⟨b, off, e, h1, h2, h3⟩ := h h0
  exact ⟨b, off, e, Nat.lt_of_lt_of_le h1 ho.size, h2, fun i x hx j v hv => (ho.cell (p := ⟨b, off + i * k + j, none⟩) h1 (fun q => h2 (hL _ q))).trans (h3 i x hx j v hv)⟩
set_option maxRecDepth 100000 in
theorem SlAt.below {α : Type} {w w' : World} {A : Option Addr} {L : List Nat} {k : Nat} {f : α → List Value} {xs : List α} (h : SlAt w A L k f xs) (hb : Below w.heap.size w w') : SlAt w' A L k f xs := h.only (L' := []) (Only.below hb) (by simp)
set_option maxRecDepth 100000 in
theorem SlAt.mono {α : Type} {w : World} {A : Option Addr} {L L' : List Nat} {k : Nat} {f : α → List Value} {xs : List α} (h : SlAt w A L k f xs) (hL : ∀ x ∈ L', x ∈ L) : SlAt w A L' k f xs := fun h0 => by
  obtain ⟨b, off, e, h1, h2, h3⟩ := h h0
  exact ⟨b, off, e, h1, fun q => h2 (hL _ q), h3⟩
set_option maxRecDepth 100000 in
theorem SlAt.newer {α : Type} {w : World} {A : Option Addr} {L L' : List Nat} {k : Nat} {f : α → List Value} {xs : List α} (h : SlAt w A L k f xs) (hL : ∀ x ∈ L', x ∈ L ∨ w.heap.size ≤ x) : SlAt w A L' k f xs := fun h0 => by
  obtain ⟨b, off, e, h1, h2, h3⟩ := h h0
  exact ⟨b, off, e, h1, fun q => by rcases hL _ q with g | g; exact h2 g; omega, h3⟩
abbrev PgAt (w : World) (A : Option Addr) (L : List Nat) (ps : List (List UInt8)) : Prop := SlAt w A L 64 byteVals ps
set_option maxRecDepth 100000 in
theorem PgAt.row {w : World} {A : Option Addr} {L : List Nat} {ps : List (List UInt8)} (h : PgAt w A L ps) (hl : ps.length ≤ 1000) (hp : ∀ p ∈ ps, p.length = 64) : PageRow w A ps.length ps where
  len := rfl
  small := by unfold maxLen; omega
  size := hp
  cells := fun h0 => by
    obtain ⟨b, off, e, h1, _, h3⟩ := h h0
    exact ⟨b, off, e, h1, h3⟩
set_option maxRecDepth 100000 in
theorem RowsAt.slice {w : World} {b : Nat} {ps : List (List UInt8)} (h : RowsAt w b ps) {L : List Nat} (hb : b ∉ L) : PgAt w (some ⟨b, 0, none⟩) L ps := fun h0 =>
  ⟨b, 0, rfl, h.lt h0, hb, fun i p hp => by rw [Nat.zero_add]; exact h.range i p hp⟩
set_option maxRecDepth 100000 in
theorem RowsAt.below {w w' : World} {b : Nat} {ps : List (List UInt8)} (h : RowsAt w b ps) (hb : Below w.heap.size w w') (hl : b < w.heap.size) : RowsAt w' b ps := h.block (hb.block b hl)
set_option maxRecDepth 100000 in
theorem RowAt.block {w w' : World} {b : Nat} {vs : List Value} (h : RowAt w b vs) (hb : w'.heap[b]? = w.heap[b]?) : RowAt w' b vs := ⟨rangeAt_block h.range hb, there_block h.free hb⟩
set_option maxRecDepth 100000 in
theorem RowAt.only {w w' : World} {b : Nat} {v : Value} {vs : List Value} {L : List Nat} (h : RowAt w b (v :: vs)) (ho : Only L w w') (hL : b ∉ L) : RowAt w' b (v :: vs) := h.block (ho.block b h.lt hL)

/-! ### changes -/
def chgVals (c : Chg) : List Value := .int .i64 c.no :: byteVals c.page
def chgV (c : Chg) : Value := .agg (chgVals c).toArray
set_option maxRecDepth 100000 in
theorem chgVals_one (c : Chg) : ∀ v ∈ chgVals c, v.oneCell' = true := by
  intro v hv
  rcases List.mem_cons.1 hv with rfl | hv
  · rfl
  · exact byteVals_one _ v hv
set_option maxRecDepth 100000 in
theorem chgVals_length {c : Chg} (h : c.page.length = 64) : (chgVals c).length = 65 := by unfold chgVals; rw [List.length_cons, byteVals_length, h]
set_option maxRecDepth 100000 in
theorem chg_info : (Tryz.prog.info? 114).map (·.size) = some 65 := by kernel_rfl
abbrev ChAt (w : World) (A : Option Addr) (L : List Nat) (cs : List Chg) : Prop := SlAt w A L 65 chgVals cs
/-- a change in a variable -/
abbrev ChVar (w : World) (b : Nat) (c : Chg) : Prop := RowAt w b (chgVals c)
set_option maxRecDepth 100000 in
theorem ChVar.no {w : World} {b : Nat} {c : Chg} (h : ChVar w b c) : w.cell? ⟨b, 0, none⟩ = some (.int .i64 c.no) := RowAt.cell h 0 _ rfl
set_option maxRecDepth 100000 in
theorem ChVar.page {w : World} {b : Nat} {c : Chg} (h : ChVar w b c) : w.rangeAt b 1 (byteVals c.page) := fun j v hv => by
  have := h.range (j + 1) v (by unfold chgVals; exact hv)
  rwa [show 0 + (j + 1) = 1 + j by omega] at this
set_option maxRecDepth 100000 in
theorem wpList_load_chg {ops : Array Oper} {rest : List Oper} {op : Oper} {a : Act} {Q : Exit → Act → World → Prop} {w : World} {b o : Nat} {c : Chg} (hr : w.rangeAt b o (chgVals c)) (hp : c.page.length = 64) (hgd : op.guard = none) (x : Operand) (ho : op.op = .load 114 x)
    (hx : a.eval x = .pointer (some ⟨b, o, none⟩)) (h : wpList Tryz.prog ops Q rest (a.put op.dst (chgV c)) w) : wpList Tryz.prog ops Q (op :: rest) a w :=
  wpList_load_mid hgd 114 x ho b o hx (chgVals c) _ hr Tryz.underlying114 rfl (by rw [chg_info, chgVals_length hp]) h
set_option maxRecDepth 100000 in
theorem wpList_store_newchg {ops : Array Oper} {rest : List Oper} {op : Oper} {a : Act} {Q : Exit → Act → World → Prop} {w : World} {Z : Array Value} {t : TypeId} {c : Chg} (hp : c.page.length = 64) (hgd : op.guard = none) (x y : Operand) (ho : op.op = .store 114 x y)
    (hx : a.eval x = .pointer (some ⟨w.heap.size, 0, none⟩)) (hy : a.eval y = chgV c) (hZ : Z.size = 65)
    (h : ∀ W2, ChVar W2 w.heap.size c → Below w.heap.size w W2 → W2.heap.size = w.heap.size + 1 → wpList Tryz.prog ops Q rest (a.put op.dst undef) W2) :
    wpList Tryz.prog ops Q (op :: rest) a (w.alloc (.cells Z t)) := by
  have hlen : (chgVals c).toArray.size = 65 := by rw [List.size_toArray, chgVals_length hp]
  have ht : (w.alloc (.cells Z t)).there w.heap.size 0 65 := there_new w Z t _ (by omega)
  refine wpList_store_mid hgd 114 x y ho w.heap.size 0 (chgVals c).toArray hx hy (by rw [hlen]; exact ht) (by rw [chg_info, hlen]) (all_oneCell_toArray (chgVals_one c)) (h _ ?_ ?_ ?_)
  · exact ⟨World.rangeAt_setCells_same _ _ _ _ (by rw [List.toList_toArray, chgVals_length hp]; exact ht), World.there_setCells (by rw [chgVals_length hp]; exact ht) _ _ _⟩
  · exact below_setCells _ (Nat.le_refl _) _ _ _ ((Below.refl _ _).alloc (Nat.le_refl _) _)
  · rw [heap_setCells]; simp
def chgZero : Array Value := (chgVals ⟨0, zeros⟩).toArray
set_option maxRecDepth 100000 in
theorem chgZero_size : chgZero.size = 65 := by unfold chgZero; rw [List.size_toArray, chgVals_length zeros_length]
set_option maxRecDepth 100000 in
theorem zeroChg (w : World) : (zeroValue 114).run Tryz.prog w = .ok (.agg chgZero) w := by kernel_rfl

/-! ### a region as a value; the journal's own block -/
def regV (d a z : Nat) : Value := .agg #[.pointer (some ⟨d, 0, none⟩), .int .i64 (a : Int), .int .i64 (z : Int)]
def regVals (d a z : Nat) : List Value := [.pointer (some ⟨d, 0, none⟩), .int .i64 (a : Int), .int .i64 (z : Int)]
set_option maxRecDepth 100000 in
theorem regV_def (d a z : Nat) : Value.agg (regVals d a z).toArray = regV d a z := rfl
set_option maxRecDepth 100000 in
theorem reg_info : (Tryz.prog.info? 92).map (·.size) = some 3 := by kernel_rfl
def jVals (d a z : Nat) (q : Int) (o : Bool) : List Value := [.pointer (some ⟨d, 0, none⟩), .int .i64 (a : Int), .int .i64 (z : Int), .int .i64 q, .bool o]
/-- a journal: its block is none of the disk's -/
structure JAt (w : World) (j d a z : Nat) (q : Int) (o : Bool) : Prop where
  row : RowAt w j (jVals d a z q o)
set_option maxRecDepth 100000 in
theorem JAt.c0 {w : World} {j d a z : Nat} {q : Int} {o : Bool} (h : JAt w j d a z q o) : w.cell? ⟨j, 0, none⟩ = some (.pointer (some ⟨d, 0, none⟩)) := h.row.cell 0 _ rfl
set_option maxRecDepth 100000 in
theorem JAt.c1 {w : World} {j d a z : Nat} {q : Int} {o : Bool} (h : JAt w j d a z q o) : w.cell? ⟨j, 1, none⟩ = some (.int .i64 (a : Int)) := h.row.cell 1 _ rfl
set_option maxRecDepth 100000 in
theorem JAt.c2 {w : World} {j d a z : Nat} {q : Int} {o : Bool} (h : JAt w j d a z q o) : w.cell? ⟨j, 2, none⟩ = some (.int .i64 (z : Int)) := h.row.cell 2 _ rfl
set_option maxRecDepth 100000 in
theorem JAt.c3 {w : World} {j d a z : Nat} {q : Int} {o : Bool} (h : JAt w j d a z q o) : w.cell? ⟨j, 3, none⟩ = some (.int .i64 q) := h.row.cell 3 _ rfl
set_option maxRecDepth 100000 in
theorem JAt.c4 {w : World} {j d a z : Nat} {q : Int} {o : Bool} (h : JAt w j d a z q o) : w.cell? ⟨j, 4, none⟩ = some (.bool o) := h.row.cell 4 _ rfl
set_option maxRecDepth 100000 in
theorem JAt.f {w : World} {j d a z : Nat} {q : Int} {o : Bool} (h : JAt w j d a z q o) (i : Nat) (hi : i < 5) : w.frozen? ⟨j, i, none⟩ = false := by
  have := (h.row.free i hi).2
  rwa [Nat.zero_add] at this
set_option maxRecDepth 100000 in
theorem JAt.lt {w : World} {j d a z : Nat} {q : Int} {o : Bool} (h : JAt w j d a z q o) : j < w.heap.size := h.row.lt
set_option maxRecDepth 100000 in
theorem JAt.block {w w' : World} {j d a z : Nat} {q : Int} {o : Bool} (h : JAt w j d a z q o) (hb : w'.heap[j]? = w.heap[j]?) : JAt w' j d a z q o := ⟨h.row.block hb⟩
set_option maxRecDepth 100000 in
theorem JAt.only {w w' : World} {j d a z : Nat} {q : Int} {o : Bool} {L : List Nat} (h : JAt w j d a z q o) (ho : Only L w w') (hL : j ∉ L) : JAt w' j d a z q o := h.block (ho.block j h.lt hL)
set_option maxRecDepth 100000 in
theorem JAt.below {w w' : World} {j d a z : Nat} {q : Int} {o : Bool} (h : JAt w j d a z q o) (hb : Below w.heap.size w w') : JAt w' j d a z q o := h.block (hb.block j h.lt)
set_option maxRecDepth 100000 in
theorem JAt.reg {w : World} {j d a z : Nat} {q : Int} {o : Bool} (h : JAt w j d a z q o) : w.rangeAt j 0 (regVals d a z) := fun i v hv => h.row.range i v (by
  unfold regVals at hv
  unfold jVals
  match i, hv with
  | 0, hv => exact hv
  | 1, hv => exact hv
  | 2, hv => exact hv)
set_option maxRecDepth 100000 in
theorem JAt.setSeq {w : World} {j d a z : Nat} {q : Int} {o : Bool} (h : JAt w j d a z q o) (x : Int) : JAt (w.setCell ⟨j, 3, none⟩ (.int .i64 x)) j d a z x o where
  row := ⟨fun i v hv => by
      rw [Nat.zero_add]
      by_cases e : 3 = i
      · subst e
        have hv' : v = .int .i64 x := by unfold jVals at hv; simpa using hv.symm
        rw [hv']
        exact World.cell?_setCell_same' _ _ _ (by rw [h.c3]; rfl)
      · rw [World.cell?_setCell_other _ _ _ _ (fun q => e (by injection q))]
        have : (jVals d a z q o)[i]? = some v := by
          rw [← hv]
          unfold jVals
          match i, e with
          | 0, _ => rfl
          | 1, _ => rfl
          | 2, _ => rfl
          | 4, _ => rfl
          | _ + 5, _ => rfl
        have := h.row.range i v this
        rwa [Nat.zero_add] at this,
    fun i hi => by
      have hf := h.row.free i hi
      rw [World.frozen?_setCell]
      refine ⟨?_, hf.2⟩
      by_cases e : 3 = i
      · subst e
        rw [Nat.zero_add, World.cell?_setCell_same' _ _ _ (by rw [h.c3]; rfl)]; rfl
      · rw [World.cell?_setCell_other _ _ _ _ (fun q => e (by injection q with _ q; omega))]; exact hf.1⟩
set_option maxRecDepth 100000 in
theorem JAt.setOver {w : World} {j d a z : Nat} {q : Int} {o : Bool} (h : JAt w j d a z q o) (x : Bool) : JAt (w.setCell ⟨j, 4, none⟩ (.bool x)) j d a z q x where
  row := ⟨fun i v hv => by
      rw [Nat.zero_add]
      by_cases e : 4 = i
      · subst e
        have hv' : v = .bool x := by unfold jVals at hv; simpa using hv.symm
        rw [hv']
        exact World.cell?_setCell_same' _ _ _ (by rw [h.c4]; rfl)
      · rw [World.cell?_setCell_other _ _ _ _ (fun q => e (by injection q))]
        have : (jVals d a z q o)[i]? = some v := by
          rw [← hv]
          unfold jVals
          match i, e with
          | 0, _ => rfl
          | 1, _ => rfl
          | 2, _ => rfl
          | 3, _ => rfl
          | _ + 5, _ => rfl
        have := h.row.range i v this
        rwa [Nat.zero_add] at this,
    fun i hi => by
      have hf := h.row.free i hi
      rw [World.frozen?_setCell]
      refine ⟨?_, hf.2⟩
      by_cases e : 4 = i
      · subst e
        rw [Nat.zero_add, World.cell?_setCell_same' _ _ _ (by rw [h.c4]; rfl)]; rfl
      · rw [World.cell?_setCell_other _ _ _ _ (fun q => e (by injection q with _ q; omega))]; exact hf.1⟩
set_option maxRecDepth 100000 in
theorem wpList_load_reg {ops : Array Oper} {rest : List Oper} {op : Oper} {a : Act} {Q : Exit → Act → World → Prop} {w : World} {b d x0 z : Nat} (hr : w.rangeAt b 0 (regVals d x0 z)) (hgd : op.guard = none) (x : Operand) (ho : op.op = .load 92 x)
    (hx : a.eval x = .pointer (some ⟨b, 0, none⟩)) (h : wpList Tryz.prog ops Q rest (a.put op.dst (regV d x0 z)) w) : wpList Tryz.prog ops Q (op :: rest) a w :=
  wpList_load_mid hgd 92 x ho b 0 hx (regVals d x0 z) _ hr Tryz.underlying92 rfl reg_info h
end Go.Proofs.YtppbiohjhnoagaaGreat

/-
  The contracts of sum.Pages, and of journal's small functions: Room, lists, other.
-/
namespace Go.Proofs.YtppbiohjhnoagaaGreat
open Go.RowKit
open Dk (zeros zeros_length)
open Hd (Head rightB pageH)
open Jn (Chg)

set_option maxRecDepth 100000 in
theorem page_text {W : World} {B : Nat} {p : List UInt8} (h : PageAt W B p) : (convert 39 9 (.slice (some ⟨B, 0, none⟩) 64 64)).run Tryz.prog W = .ok (.string ⟨p.toArray⟩) W := by
  have := run_convert_bytes_back (P := Tryz.prog) W 39 9 5 ⟨B, 0, none⟩ 64 p Tryz.underlying39 Tryz.underlying5 Tryz.underlying9 (fun j hj => by
    rw [Addr.add_mid]
    have := h.range j _ (byteVals_at p j hj)
    exact this)
  rw [h.len] at this
  exact this
set_option maxRecDepth 100000 in
set_option maxHeartbeats 1000000 in
theorem sumPages_any (A : Option Addr) (n c : Nat) (ps : List (List UInt8)) (w : World) (hrow : PageRow w A n ps) (hn : n ≤ 1000) (h0 : 0 < n) :
    Calls Tryz.prog 79 #[.slice A n c] w fun e w' => e = .returned (.int .u32 (Jn.sumN ps)) ∧ Below w.heap.size w w' := by
  have HR : Hid (NxR w A n ps w) := Lib.hid ⟨hrow, Below.refl _ _⟩
  have HL := Lib.hid hrow.len
  have HZ := Lib.hid hrow.size
  clear hrow
  have hf := Mt.fit_zero
  go_enter Tryz.func79, Tryz.ntmps79
  go_wp2_with (go_at_call 94; refine (split_any _ _ (by omega) (by omega)).mono ?_; rintro e w' ⟨rfl, rfl⟩)
  go_loopw [3, 4, 13] (fun x y i wr => ∃ k : Nat, k ≤ n ∧ i = .int .i64 k ∧ x = .int .u32 (Mt.run (0, 0) (ps.take k).flatten).1 ∧ y = .int .u32 (Mt.run (0, 0) (ps.take k).flatten).2 ∧ NxR w A n ps wr) (fun _ _ i _ => n - (intOf i).toNat)
  case atStart => exact ⟨0, Nat.zero_le _, rfl, rfl, rfl, HR.out⟩
  case round =>
    obtain ⟨k, hk, rfl, rfl, rfl, hnx⟩ := hrel
    have HX := Lib.hid hnx
    clear hnx HR
    have hr := Mt.fit_run (0, 0) (ps.take k).flatten hf
    obtain ⟨r1, r2, r3, r4⟩ := id hr
    have HF := Lib.hid hr; clear hr
    by_cases hlt : k < n
    · obtain ⟨b, off, rfl, hb, hc⟩ := HX.out.1.cells (by omega)
      obtain ⟨p, hp⟩ : ∃ p, ps[k]? = some p := ⟨_, List.getElem?_eq_getElem (by rw [HL.out]; exact hlt)⟩
      have HP := Lib.hid (hc k p hp)
      have HPL := Lib.hid (HZ.out p (List.mem_of_getElem? hp))
      have HS : Hid (Mt.run (0, 0) (ps.take (k + 1)).flatten = Mt.run (Mt.run (0, 0) (ps.take k).flatten) (⟨p.toArray⟩ : ByteArray).data.toList) := Lib.hid (by
        rw [take_more ps k p hp, List.flatten_append, Mt.run_append]; simp)
      have HSZ : Hid ((⟨p.toArray⟩ : ByteArray).size ≤ maxLen) := Lib.hid (by show p.toArray.size ≤ _; rw [List.size_toArray, HPL.out]; unfold maxLen; omega)
      clear hc hp hb
      go_wp2_with (first
        | ((with_reducible refine wpList_load_at HP.out HPL.out rfl (.tmp 15) rfl ?_ ?_); (exact rfl))
        | ((with_reducible refine wpList_store_new rfl (.tmp 6) (.tmp 16) rfl rfl ?_ ?_ HPL.out ?_); (exact rfl); (exact rfl); intro W2 hP hB2 hz2; have hcv := page_text hP; have HX2 := Lib.hid (NxR.call HX.out hB2); clear HX hP hB2 hz2)
        | (go_at_call 95; refine (add_any _ _ _ _ HF.out HSZ.out).mono ?_; rintro e w' ⟨rfl, rfl⟩))
      go_roundw
      case rel => exact ⟨k + 1, by omega, by go_num, by rw [HS.out]; rfl, by rw [HS.out]; rfl, HX2.out⟩
      case measure => simp [intOf]; omega
    · have HK : Hid (ps.take k = ps) := Lib.hid (List.take_of_length_le (by rw [HL.out]; omega))
      go_wp2_with (go_at_call 96; refine (join_any _ _ _ r1 r2 r3 r4).mono ?_; rintro e w' ⟨rfl, rfl⟩)
      go_ret
      exact ⟨ret_int (by rw [HK.out]; rfl), HX.out.2⟩

/-! ### Room, lists -/
/-- the room of a region of z pages is r -/
def RoomIs (z r : Nat) : Prop := ∀ w, Calls Tryz.prog 46 #[.int .i64 (z : Int)] w fun e w' => e = .returned (.int .i64 (r : Int)) ∧ w = w'
set_option maxRecDepth 100000 in
theorem room20 : RoomIs 20 18 := fun w => by
  show Calls Tryz.prog 46 #[.int .i64 20] w fun e w' => e = .returned (.int .i64 18) ∧ w = w'
  go_enter Tryz.func46, Tryz.ntmps46
  go_wp2
  go_ret
  exact ⟨rfl, rfl⟩
set_option maxRecDepth 100000 in
theorem room4 : RoomIs 4 2 := fun w => by
  show Calls Tryz.prog 46 #[.int .i64 4] w fun e w' => e = .returned (.int .i64 2) ∧ w = w'
  go_enter Tryz.func46, Tryz.ntmps46
  go_wp2
  go_ret
  exact ⟨rfl, rfl⟩
set_option maxRecDepth 100000 in
theorem room3 : RoomIs 3 1 := fun w => by
  show Calls Tryz.prog 46 #[.int .i64 3] w fun e w' => e = .returned (.int .i64 1) ∧ w = w'
  go_enter Tryz.func46, Tryz.ntmps46
  go_wp2
  go_ret
  exact ⟨rfl, rfl⟩
set_option maxRecDepth 100000 in
theorem room40 : RoomIs 40 37 := fun w => by
  show Calls Tryz.prog 46 #[.int .i64 40] w fun e w' => e = .returned (.int .i64 37) ∧ w = w'
  go_enter Tryz.func46, Tryz.ntmps46
  go_wp2
  go_ret
  exact ⟨rfl, rfl⟩
set_option maxRecDepth 100000 in
theorem room2 : RoomIs 2 0 := fun w => by
  show Calls Tryz.prog 46 #[.int .i64 2] w fun e w' => e = .returned (.int .i64 0) ∧ w = w'
  go_enter Tryz.func46, Tryz.ntmps46
  go_wp2
  go_ret
  exact ⟨rfl, rfl⟩
set_option maxRecDepth 100000 in
theorem lists_one (n : Nat) (h1 : 1 ≤ n) (h2 : n ≤ 32) (w : World) : Calls Tryz.prog 88 #[.int .i64 (n : Int)] w fun e w' => e = .returned (.int .i64 1) ∧ w = w' := by
  go_enter Tryz.func88, Tryz.ntmps88
  go_wp2
  go_ret
  exact ⟨ret_int (by omega), rfl⟩

/-! ### other -/
def otherB (n a z : Nat) (i : Int) : Bool := decide (0 ≤ i ∧ i < (n : Int) ∧ (i < (a : Int) ∨ (a : Int) + (z : Int) ≤ i))
set_option maxRecDepth 100000 in
set_option maxHeartbeats 1000000 in
theorem other_any {w : World} {d l m : Nat} {s : Dk.St} (h : DiskAt w d l m s) (a z : Nat) (ha : a ≤ 1000) (hz : z ≤ 1000) (i : Int) :
    Calls Tryz.prog 76 #[regV d a z, .int .i64 i] w fun e w' => e = .returned (.bool (otherB s.last.length a z i)) ∧ Below w.heap.size w w' := by
  have HD := Lib.hid (pages_any (h.alloc (.cells #[.pointer (some ⟨d, 0, none⟩), .int .i64 (a : Int), .int .i64 (z : Int)] 92)))
  have hsm := h.ok.small
  clear h
  unfold regV
  generalize s.last.length = n at HD hsm ⊢
  by_cases c1 : 0 ≤ i
  · by_cases c2 : i < (n : Int)
    · by_cases c3 : i < (a : Int)
      · go_enter Tryz.func76, Tryz.ntmps76
        go_wp2_with (go_at_call 47; refine HD.out.mono ?_; rintro e w' ⟨rfl, rfl⟩)
        go_ret
        exact ⟨ret_bool (by unfold otherB; symm; rw [decide_eq_true_iff]; omega), (Below.refl _ _).alloc (Nat.le_refl _) _⟩
      · go_enter Tryz.func76, Tryz.ntmps76
        go_wp2_with (go_at_call 47; refine HD.out.mono ?_; rintro e w' ⟨rfl, rfl⟩)
        go_ret
        exact ⟨ret_bool (by unfold otherB; rw [← Bool.decide_or, decide_eq_decide]; omega), (Below.refl _ _).alloc (Nat.le_refl _) _⟩
    · go_enter Tryz.func76, Tryz.ntmps76
      go_wp2_with (go_at_call 47; refine HD.out.mono ?_; rintro e w' ⟨rfl, rfl⟩)
      go_ret
      exact ⟨ret_bool (by unfold otherB; symm; rw [decide_eq_false_iff_not]; omega), (Below.refl _ _).alloc (Nat.le_refl _) _⟩
  · go_enter Tryz.func76, Tryz.ntmps76
    go_wp2_with fail
    go_ret
    exact ⟨ret_bool (by unfold otherB; symm; rw [decide_eq_false_iff_not]; omega), (Below.refl _ _).alloc (Nat.le_refl _) _⟩
end Go.Proofs.YtppbiohjhnoagaaGreat

/-
  The contracts of journal's put and apply: writes, and a flush behind them.
-/
namespace Go.Proofs.YtppbiohjhnoagaaGreat
open Go.RowKit
open Dk (zeros zeros_length)
open Hd (Head rightB pageH)
open Jn (Chg)

/-- what stands in memory in a round -/
structure PutI (w : World) (d l m : Nat) (R : World → Prop) (r a z : Nat) (s : Dk.St) (W : World) : Prop where
  disk : DiskAt W d l m s
  row : R W
  reg : RowAt W r (regVals d a z)
  fresh : w.heap.size ≤ r
  old : d < w.heap.size ∧ l < w.heap.size ∧ m < w.heap.size
  only : Only [d, l, m] w W
def Stays (R : World → Prop) (d l m : Nat) : Prop := ∀ W W' L, (∀ x ∈ L, x ∈ [d, l, m]) → Only L W W' → R W → R W'
set_option maxRecDepth 100000 in
theorem PutI.call {w : World} {d l m : Nat} {R : World → Prop} {r a z : Nat} {s s' : Dk.St} {W W' : World} {L : List Nat} (h : PutI w d l m R r a z s W) (hR : Stays R d l m) (hd : DiskAt W' d l m s') (ho : Only L W W') (hL : ∀ x ∈ L, x ∈ [d, l, m]) : PutI w d l m R r a z s' W' where
  disk := hd
  row := hR W W' L hL ho h.row
  reg := h.reg.only ho (fun e => by have := hL _ e; have := h.old; have := h.fresh; simp at *; omega)
  fresh := h.fresh
  old := h.old
  only := h.only.trans (ho.mono hL)
set_option maxRecDepth 100000 in
theorem PutI.below {w : World} {d l m : Nat} {R : World → Prop} {r a z : Nat} {s : Dk.St} {W W' : World} (h : PutI w d l m R r a z s W) (hR : Stays R d l m) (hb : Below W.heap.size W W') : PutI w d l m R r a z s W' :=
  h.call hR (h.disk.below hb) (Only.below (l := []) hb) (by simp)
set_option maxRecDepth 100000 in
theorem PutI.far {w : World} {d l m : Nat} {R : World → Prop} {r a z : Nat} {s : Dk.St} {W : World} (h : PutI w d l m R r a z s W) (b : Nat) (hb : w.heap.size ≤ b) : b ∉ [d, l, m] := fun e => by
  have := h.old
  simp at e
  omega
set_option maxRecDepth 100000 in
theorem putI_start {w : World} {d l m : Nat} {R : World → Prop} {s : Dk.St} (a z : Nat) (h : DiskAt w d l m s) (hR : Stays R d l m) (hr : R w) (t : TypeId) : PutI w d l m R w.heap.size a z s (w.alloc (.cells (regVals d a z).toArray t)) where
  disk := h.alloc _
  row := hR w _ [] (by simp) ((Only.refl _ _).alloc _) hr
  reg := rowAt_new w _ t
  fresh := Nat.le_refl _
  old := ⟨h.dlt, h.llt, h.mlt⟩
  only := (Only.refl _ _).alloc _
set_option maxRecDepth 100000 in
theorem stays_pg (A : Option Addr) (d l m : Nat) (ps : List (List UInt8)) : Stays (fun W => PgAt W A [d, l, m] ps) d l m := fun _ _ _ hL ho h => h.only ho hL
set_option maxRecDepth 100000 in
theorem stays_ch (A : Option Addr) (d l m : Nat) (cs : List Chg) : Stays (fun W => ChAt W A [d, l, m] cs) d l m := fun _ _ _ hL ho h => h.only ho hL

set_option maxRecDepth 100000 in
theorem layAt_drop (ps : List (List UInt8)) : ∀ (a k : Nat), Jn.layAt (a + k) (ps.drop k) = (Jn.layAt a ps).drop k := by
  induction ps with
  | nil => intro a k; simp [Jn.layAt]
  | cons p r ih =>
    intro a k
    cases k with
    | zero => rfl
    | succ k =>
      show Jn.layAt (a + (k + 1)) (r.drop k) = (Jn.layAt (a + 1) r).drop k
      rw [← ih (a + 1) k, show a + 1 + k = a + (k + 1) by omega]
set_option maxRecDepth 100000 in
theorem layAt_rest (ps : List (List UInt8)) (a k : Nat) (p : List UInt8) (h : ps[k]? = some p) : Jn.layAt (a + k) (ps.drop k) = ⟨((a + k : Nat) : Int), p⟩ :: Jn.layAt (a + (k + 1)) (ps.drop (k + 1)) := by
  obtain ⟨hk, he⟩ := List.getElem?_eq_some_iff.1 h
  rw [List.drop_eq_getElem_cons hk, he]
  rfl
set_option maxRecDepth 100000 in
theorem runW_ok {s : Dk.St} {c : Chg} {r : List Chg} (h : Dk.writeE s c.no = 0) : Jn.runW s (c :: r) = Jn.runW (Dk.write s c.no c.page) r := by rw [Jn.runW, if_pos h]
set_option maxRecDepth 100000 in
theorem runW_bad {s : Dk.St} {c : Chg} {r : List Chg} (h : Dk.writeE s c.no ≠ 0) : Jn.runW s (c :: r) = (Dk.write s c.no c.page, Dk.writeE s c.no) := by rw [Jn.runW, if_neg h]

set_option maxRecDepth 100000 in
set_option maxHeartbeats 2000000 in
theorem put_any {w : World} {d l m : Nat} {s : Dk.St} (h : DiskAt w d l m s) (g a z : Nat) (A : Option Addr) (c : Nat) (ps : List (List UInt8)) (hrow : PgAt w A [d, l, m] ps) (hp : ∀ p ∈ ps, p.length = 64) (hl : ps.length ≤ 1000) (ha : a ≤ 1000) :
    Calls Tryz.prog 78 #[regV d g z, .int .i64 (a : Int), .slice A ps.length c] w fun e w' => e = .returned (.int .i64 (Jn.runW s (Jn.layAt a ps)).2) ∧ DiskAt w' d l m (Jn.runW s (Jn.layAt a ps)).1 ∧ Only [d, l, m] w w' := by
  have HS := Lib.hid (putI_start g z h (stays_pg A d l m ps) hrow 92)
  have HP := Lib.hid hp
  have HST := Lib.hid (stays_pg A d l m ps)
  clear h hrow hp
  obtain ⟨n, hn⟩ : ∃ n, ps.length = n := ⟨_, rfl⟩
  have HN := Lib.hid hn
  rw [hn] at hl ⊢
  clear hn
  unfold regV
  go_enter Tryz.func78, Tryz.ntmps78
  go_wp2_with fail
  unfold regVals at HS
  generalize (w.alloc (.cells _ 92)) = w1 at HS ⊢
  generalize hrb : w.heap.size = rb at HS ⊢
  go_loopw [12] (fun i wr => ∃ (k : Nat) (sk : Dk.St), k ≤ n ∧ i = .int .i64 k ∧ PutI w d l m (fun W => PgAt W A [d, l, m] ps) rb g z sk wr ∧ Jn.runW s (Jn.layAt a ps) = Jn.runW sk (Jn.layAt (a + k) (ps.drop k))) (fun i _ => n - (intOf i).toNat)
  case atStart => exact ⟨0, s, Nat.zero_le _, rfl, HS.out, rfl⟩
  case round =>
    obtain ⟨k, sk, hk, rfl, hput, hrun⟩ := hrel
    have HI := Lib.hid hput
    have HR := Lib.hid hrun
    clear hput hrun HS
    by_cases hlt : k < n
    · obtain ⟨p, hpk⟩ : ∃ p, ps[k]? = some p := ⟨_, List.getElem?_eq_getElem (by rw [HN.out]; exact hlt)⟩
      obtain ⟨b, off, rfl, hb, _, hc⟩ := HI.out.row (by rw [HN.out]; omega)
      have HC := Lib.hid (hc k p hpk)
      have HPL := Lib.hid (HP.out p (List.mem_of_getElem? hpk))
      have HE := Lib.hid (layAt_rest ps a k p hpk)
      clear hb hc hpk
      have HX : Hid ((a : Int) + (k : Int) = ((a + k : Nat) : Int)) := Lib.hid (by omega)
      have hF : Hid (wr.heap.size ∉ [d, l, m]) := Lib.hid (HI.out.far _ (HI.out.only.size))
      go_wp2_with (first
        | ((with_reducible refine wpList_load_at HC.out HPL.out rfl (.tmp 15) rfl ?_ ?_); (exact rfl))
        | ((with_reducible refine wpList_store_new rfl (.tmp 8) (.tmp 16) rfl rfl ?_ ?_ HPL.out ?_); (exact rfl); (exact rfl); intro W2 hP hB2 hz2; have HI2 := Lib.hid (HI.out.below HST.out hB2); have HP2 := Lib.hid hP; have hr0 := HI2.out.reg.cell 0 _ rfl; clear HI hP hB2 hz2; generalize wr.heap.size = B at HP2 hF ⊢)
        | (with_reducible refine wpList_load_page HP2.out rfl (.tmp 8) rfl rfl ?_))
      rw [HX.out]
      refine (write_any HI2.out.disk _ p HPL.out).mono ?_
      rintro e W3 ⟨rfl, hd3, ho3⟩
      have HI3 := Lib.hid (HI2.out.call HST.out hd3 ho3 (by simp))
      clear HI2 HP2 hr0 hd3 ho3
      by_cases hw : Dk.writeE sk ((a + k : Nat) : Int) = 0
      · have HRW : Hid (Jn.runW s (Jn.layAt a ps) = Jn.runW (Dk.write sk ((a + k : Nat) : Int) p) (Jn.layAt (a + (k + 1)) (ps.drop (k + 1)))) := Lib.hid (by rw [HR.out, HE.out, runW_ok hw])
        rw [hw]
        go_wp2
        go_roundw
        case rel => exact ⟨k + 1, _, by omega, by go_num, HI3.out, HRW.out⟩
        case measure => simp [intOf]; omega
      · have HRW : Hid (Jn.runW s (Jn.layAt a ps) = (Dk.write sk ((a + k : Nat) : Int) p, Dk.writeE sk ((a + k : Nat) : Int))) := Lib.hid (by rw [HR.out, HE.out, runW_bad hw])
        have hne2 : (Dk.writeE sk ((a + k : Nat) : Int) == 0) = false := by simpa using hw
        have hne3 : (Dk.writeE sk ((a + k : Nat) : Int) != 0) = true := by simpa using hw
        generalize Dk.writeE sk ((a + k : Nat) : Int) = E at hne2 hne3 HRW ⊢
        clear hw
        go_wp2
        go_ret
        rw [HRW.out]
        exact ⟨rfl, HI3.out.disk, HI3.out.only⟩
    · obtain rfl : k = n := by omega
      have HRW : Hid (Jn.runW s (Jn.layAt a ps) = (Dk.flush sk, Dk.flushE sk)) := Lib.hid (by rw [HR.out, List.drop_of_length_le (by rw [HN.out]; omega)]; rfl)
      have hr0 := HI.out.reg.cell 0 _ rfl
      go_wp2_with fail
      refine (flush_any HI.out.disk).mono ?_
      rintro e W3 ⟨rfl, hd3, ho3⟩
      have HI3 := Lib.hid (HI.out.call HST.out hd3 ho3 (by simp))
      clear HI hr0 hd3 ho3
      go_wp2
      go_ret
      rw [HRW.out]
      exact ⟨rfl, HI3.out.disk, HI3.out.only⟩

set_option maxRecDepth 100000 in
theorem drop_rest (cs : List Chg) (k : Nat) (c : Chg) (h : cs[k]? = some c) : cs.drop k = c :: cs.drop (k + 1) := by
  obtain ⟨hk, he⟩ := List.getElem?_eq_some_iff.1 h
  rw [List.drop_eq_getElem_cons hk, he]
set_option maxRecDepth 100000 in
set_option maxHeartbeats 2000000 in
theorem apply_any {w : World} {d l m : Nat} {s : Dk.St} (h : DiskAt w d l m s) (g z : Nat) (A : Option Addr) (c : Nat) (cs : List Chg) (hrow : ChAt w A [d, l, m] cs) (hp : ∀ x ∈ cs, x.page.length = 64) (hl : cs.length ≤ 1000) :
    Calls Tryz.prog 68 #[regV d g z, .slice A cs.length c] w fun e w' => e = .returned (.int .i64 (Jn.runW s cs).2) ∧ DiskAt w' d l m (Jn.runW s cs).1 ∧ Only [d, l, m] w w' := by
  have HS := Lib.hid (putI_start g z h (stays_ch A d l m cs) hrow 92)
  have HP := Lib.hid hp
  have HST := Lib.hid (stays_ch A d l m cs)
  clear h hrow hp
  obtain ⟨n, hn⟩ : ∃ n, cs.length = n := ⟨_, rfl⟩
  have HN := Lib.hid hn
  rw [hn] at hl ⊢
  clear hn
  unfold regV
  go_enter Tryz.func68, Tryz.ntmps68
  go_wp2_with fail
  unfold regVals at HS
  generalize (w.alloc (.cells _ 92)) = w1 at HS ⊢
  generalize hrb : w.heap.size = rb at HS ⊢
  go_loopw [10] (fun i wr => ∃ (k : Nat) (sk : Dk.St), k ≤ n ∧ i = .int .i64 k ∧ PutI w d l m (fun W => ChAt W A [d, l, m] cs) rb g z sk wr ∧ Jn.runW s cs = Jn.runW sk (cs.drop k)) (fun i _ => n - (intOf i).toNat)
  case atStart => exact ⟨0, s, Nat.zero_le _, rfl, HS.out, rfl⟩
  case round =>
    obtain ⟨k, sk, hk, rfl, hput, hrun⟩ := hrel
    have HI := Lib.hid hput
    have HR := Lib.hid hrun
    clear hput hrun HS
    by_cases hlt : k < n
    · obtain ⟨x, hpk⟩ : ∃ x, cs[k]? = some x := ⟨_, List.getElem?_eq_getElem (by rw [HN.out]; exact hlt)⟩
      obtain ⟨b, off, rfl, hb, _, hc⟩ := HI.out.row (by rw [HN.out]; omega)
      have HC := Lib.hid (hc k x hpk)
      have HPL := Lib.hid (HP.out x (List.mem_of_getElem? hpk))
      have HE := Lib.hid (drop_rest cs k x hpk)
      clear hb hc hpk
      have hF : Hid (wr.heap.size ∉ [d, l, m]) := Lib.hid (HI.out.far _ (HI.out.only.size))
      have hzc := zeroChg
      go_wp2_with (first
        | ((with_reducible refine wpList_load_chg HC.out HPL.out rfl (.tmp 12) rfl ?_ ?_); (exact rfl))
        | ((with_reducible refine wpList_store_newchg HPL.out rfl (.tmp 6) (.tmp 13) rfl rfl ?_ chgZero_size ?_); (exact rfl); intro W2 hP hB2 hz2; have HI2 := Lib.hid (HI.out.below HST.out hB2); have HP2 := Lib.hid hP; have hr0 := HI2.out.reg.cell 0 _ rfl; have hv0 := ChVar.no hP; have HV1 := Lib.hid (ChVar.page hP); clear HI hP hB2 hz2; generalize wr.heap.size = B at HP2 hF hv0 HV1 ⊢)
        | ((with_reducible refine wpList_load_at HV1.out HPL.out rfl (.tmp 18) rfl ?_ ?_); (exact rfl)))
      refine (write_any HI2.out.disk _ x.page HPL.out).mono ?_
      rintro e W3 ⟨rfl, hd3, ho3⟩
      have HI3 := Lib.hid (HI2.out.call HST.out hd3 ho3 (by simp))
      clear HI2 HP2 hr0 hd3 ho3 hv0 HV1
      by_cases hw : Dk.writeE sk x.no = 0
      · have HRW : Hid (Jn.runW s cs = Jn.runW (Dk.write sk x.no x.page) (cs.drop (k + 1))) := Lib.hid (by rw [HR.out, HE.out, runW_ok hw])
        rw [hw]
        go_wp2
        go_roundw
        case rel => exact ⟨k + 1, _, by omega, by go_num, HI3.out, HRW.out⟩
        case measure => simp [intOf]; omega
      · have HRW : Hid (Jn.runW s cs = (Dk.write sk x.no x.page, Dk.writeE sk x.no)) := Lib.hid (by rw [HR.out, HE.out, runW_bad hw])
        have hne2 : (Dk.writeE sk x.no == 0) = false := by simpa using hw
        have hne3 : (Dk.writeE sk x.no != 0) = true := by simpa using hw
        generalize Dk.writeE sk x.no = E at hne2 hne3 HRW ⊢
        clear hw
        go_wp2
        go_ret
        rw [HRW.out]
        exact ⟨rfl, HI3.out.disk, HI3.out.only⟩
    · obtain rfl : k = n := by omega
      have HRW : Hid (Jn.runW s cs = (Dk.flush sk, Dk.flushE sk)) := Lib.hid (by rw [HR.out, List.drop_of_length_le (by rw [HN.out]; omega)]; rfl)
      have hr0 := HI.out.reg.cell 0 _ rfl
      go_wp2_with fail
      refine (flush_any HI.out.disk).mono ?_
      rintro e W3 ⟨rfl, hd3, ho3⟩
      have HI3 := Lib.hid (HI.out.call HST.out hd3 ho3 (by simp))
      clear HI hr0 hd3 ho3
      go_wp2
      go_ret
      rw [HRW.out]
      exact ⟨rfl, HI3.out.disk, HI3.out.only⟩
end Go.Proofs.YtppbiohjhnoagaaGreat

/-
  The contract of journal's takes: whether changes are of other pages than the region's, each once.
-/
namespace Go.Proofs.YtppbiohjhnoagaaGreat
open Go.RowKit
open Dk (zeros zeros_length)
open Hd (Head rightB pageH)
open Jn (Chg)

/-- a row of marks -/
structure MarkAt (w : World) (b : Nat) (f : Nat → Bool) : Prop where
  cell : ∀ i, i < 512 → w.cell? ⟨b, i, none⟩ = some (.bool (f i))
  free : ∀ i, i < 512 → w.frozen? ⟨b, i, none⟩ = false
def mark (f : Nat → Bool) (j : Nat) : Nat → Bool := fun i => i == j || f i
set_option maxRecDepth 100000 in
theorem MarkAt.block {w w' : World} {b : Nat} {f : Nat → Bool} (h : MarkAt w b f) (hb : w'.heap[b]? = w.heap[b]?) : MarkAt w' b f :=
  ⟨fun i hi => (World.cell?_of_block (w := w) (a := ⟨b, i, none⟩) hb).trans (h.cell i hi), fun i hi => (World.frozen?_of_block (w := w) (a := ⟨b, i, none⟩) hb).trans (h.free i hi)⟩
set_option maxRecDepth 100000 in
theorem MarkAt.lt {w : World} {b : Nat} {f : Nat → Bool} (h : MarkAt w b f) : b < w.heap.size := World.block_lt_of_cell? w _ (h.cell 0 (by omega))
set_option maxRecDepth 100000 in
theorem MarkAt.below {w w' : World} {b : Nat} {f : Nat → Bool} (h : MarkAt w b f) (hb : Below w.heap.size w w') : MarkAt w' b f := h.block (hb.block b h.lt)
set_option maxRecDepth 100000 in
theorem MarkAt.set {w : World} {b : Nat} {f : Nat → Bool} (h : MarkAt w b f) (j : Nat) (hj : j < 512) : MarkAt (w.setCell ⟨b, j, none⟩ (.bool true)) b (mark f j) where
  cell := fun i hi => by
    by_cases e : j = i
    · subst e
      rw [World.cell?_setCell_same' _ _ _ (by rw [h.cell j hj]; rfl)]
      simp [mark]
    · rw [World.cell?_setCell_other _ _ _ _ (fun q => e (by injection q)), h.cell i hi]
      have : (i == j) = false := by simpa using fun q => e q.symm
      simp [mark, this]
  free := fun i hi => by rw [World.frozen?_setCell]; exact h.free i hi
def noMarks : Array Value := (List.replicate 512 (Value.bool false)).toArray
set_option maxRecDepth 100000 in
theorem noMarks_zero (w : World) : (zeroValue 129).run Tryz.prog w = .ok (.agg noMarks) w := by kernel_rfl
set_option maxRecDepth 100000 in
theorem markAt_new (w : World) (t : TypeId) : MarkAt (w.alloc (.cells noMarks t)) w.heap.size (fun _ => false) where
  cell := fun i hi => by
    rw [World.cell?_alloc_mark]
    unfold noMarks
    rw [List.getElem?_toArray, List.getElem?_replicate, if_pos hi]
  free := fun i hi => by
    rw [World.frozen?_alloc_mark]
    simp

def takesFrom (n a z : Nat) : (Nat → Bool) → List Chg → Bool
  | _, [] => true
  | f, c :: r => if otherB n a z c.no = true ∧ f c.no.toNat = false then takesFrom n a z (mark f c.no.toNat) r else false
def takesB (n a z : Nat) (cs : List Chg) : Bool := takesFrom n a z (fun _ => false) cs

structure TakI (w : World) (d l m : Nat) (s : Dk.St) (A : Option Addr) (cs : List Chg) (r a z t : Nat) (f : Nat → Bool) (W : World) : Prop where
  disk : DiskAt W d l m s
  row : ChAt W A [] cs
  reg : RowAt W r (regVals d a z)
  marks : MarkAt W t f
  fresh : w.heap.size ≤ t
  apart : t ≠ r
  old : d < w.heap.size ∧ l < w.heap.size ∧ m < w.heap.size
  rowold : ∀ b off, 0 < cs.length → A = some ⟨b, off, none⟩ → b < w.heap.size
  below : Below w.heap.size w W
set_option maxRecDepth 100000 in
theorem TakI.call {w : World} {d l m : Nat} {s : Dk.St} {A : Option Addr} {cs : List Chg} {r a z t : Nat} {f : Nat → Bool} {W W' : World} (h : TakI w d l m s A cs r a z t f W) (hb : Below W.heap.size W W') : TakI w d l m s A cs r a z t f W' :=
  ⟨h.disk.below hb, h.row.below hb, h.reg.below hb h.reg.lt, h.marks.below hb, h.fresh, h.apart, h.old, h.rowold, h.below.trans (hb.mono h.below.size)⟩
set_option maxRecDepth 100000 in
theorem TakI.set {w : World} {d l m : Nat} {s : Dk.St} {A : Option Addr} {cs : List Chg} {r a z t : Nat} {f : Nat → Bool} {W : World} (h : TakI w d l m s A cs r a z t f W) (j : Nat) (hj : j < 512) : TakI w d l m s A cs r a z t (mark f j) (W.setCell ⟨t, j, none⟩ (.bool true)) := by
  have ho : Only [t] W (W.setCell ⟨t, j, none⟩ (.bool true)) := (Only.refl _ _).setCell (by simp) _
  have hf := h.fresh
  have hold := h.old
  exact { disk := h.disk.only ho (by simp; omega) (by simp; omega) (by simp; omega)
          row := fun h0 => by
            obtain ⟨b, off, e, h1, h2, h3⟩ := h.row h0
            have := h.rowold b off h0 e
            exact ⟨b, off, e, by have := ho.size; omega, h2, fun i x hx k v hv => (ho.cell (p := ⟨b, off + i * 65 + k, none⟩) h1 (by simp; omega)).trans (h3 i x hx k v hv)⟩
          reg := h.reg.only ho (by simp; exact Ne.symm h.apart)
          marks := h.marks.set j hj
          fresh := h.fresh, apart := h.apart, old := h.old, rowold := h.rowold
          below := h.below.setCell (by exact h.fresh) _ }
set_option maxRecDepth 100000 in
theorem takI_start {w : World} {d l m : Nat} {s : Dk.St} {A : Option Addr} {cs : List Chg} (a z : Nat) (h : DiskAt w d l m s) (hrow : ChAt w A [] cs) (t1 t2 : TypeId) :
    TakI w d l m s A cs w.heap.size a z (w.heap.size + 1) (fun _ => false) ((w.alloc (.cells (regVals d a z).toArray t1)).alloc (.cells noMarks t2)) where
  disk := (h.alloc _).alloc _
  row := (hrow.below ((Below.refl _ _).alloc (Nat.le_refl _) _)).below ((Below.refl _ _).alloc (Nat.le_refl _) _)
  reg := (rowAt_new w _ t1).alloc _
  marks := by simpa using markAt_new (w.alloc (.cells (regVals d a z).toArray t1)) t2
  fresh := by omega
  apart := by omega
  old := ⟨h.dlt, h.llt, h.mlt⟩
  rowold := fun b off h0 e => by
    obtain ⟨b', off', e', h1, _⟩ := hrow h0
    rw [e] at e'
    injection e' with e'
    injection e' with e1
    omega
  below := ((Below.refl _ _).alloc (Nat.le_refl _) _).alloc (by simp) _

set_option maxRecDepth 100000 in
theorem takes_ok {n a z : Nat} {f : Nat → Bool} {c : Chg} {r : List Chg} (h1 : otherB n a z c.no = true) (h2 : f c.no.toNat = false) : takesFrom n a z f (c :: r) = takesFrom n a z (mark f c.no.toNat) r := by rw [takesFrom, if_pos ⟨h1, h2⟩]
set_option maxRecDepth 100000 in
theorem takes_bad {n a z : Nat} {f : Nat → Bool} {c : Chg} {r : List Chg} (h : ¬ (otherB n a z c.no = true ∧ f c.no.toNat = false)) : takesFrom n a z f (c :: r) = false := by rw [takesFrom, if_neg h]

set_option maxRecDepth 100000 in
set_option maxHeartbeats 2000000 in
theorem takes_any {w : World} {d l m : Nat} {s : Dk.St} (h : DiskAt w d l m s) (a z : Nat) (ha : a ≤ 1000) (hz : z ≤ 1000) (A : Option Addr) (c : Nat) (cs : List Chg) (hrow : ChAt w A [] cs) (hp : ∀ x ∈ cs, x.page.length = 64) (hl : cs.length ≤ 1000) :
    Calls Tryz.prog 58 #[regV d a z, .slice A cs.length c] w fun e w' => e = .returned (.bool (takesB s.last.length a z cs)) ∧ Below w.heap.size w w' := by
  have HS := Lib.hid (takI_start a z h hrow 92 129)
  have HP := Lib.hid hp
  have hsm := h.ok.small
  clear h hrow hp
  obtain ⟨n, hn⟩ : ∃ n, cs.length = n := ⟨_, rfl⟩
  have HN := Lib.hid hn
  rw [hn] at hl ⊢
  clear hn
  unfold regV
  have hz80 := noMarks_zero
  go_enter Tryz.func58, Tryz.ntmps58
  go_wp2_with fail
  unfold regVals at HS
  generalize ((w.alloc (.cells _ 92)).alloc (.cells noMarks 129)) = w1 at HS ⊢
  generalize hrb : w.heap.size = rb at HS ⊢
  go_loopw [10] (fun i wr => ∃ (k : Nat) (f : Nat → Bool), k ≤ n ∧ i = .int .i64 k ∧ TakI w d l m s A cs rb a z (rb + 1) f wr ∧ takesB s.last.length a z cs = takesFrom s.last.length a z f (cs.drop k)) (fun i _ => n - (intOf i).toNat)
  case atStart => exact ⟨0, _, Nat.zero_le _, rfl, HS.out, rfl⟩
  case round =>
    obtain ⟨k, f, hk, rfl, hput, hrun⟩ := hrel
    have HI := Lib.hid hput
    have HR := Lib.hid hrun
    clear hput hrun HS
    by_cases hlt : k < n
    · obtain ⟨x, hpk⟩ : ∃ x, cs[k]? = some x := ⟨_, List.getElem?_eq_getElem (by rw [HN.out]; exact hlt)⟩
      obtain ⟨b, off, rfl, hb, _, hc⟩ := HI.out.row (by rw [HN.out]; omega)
      have HC := Lib.hid (hc k x hpk)
      have HPL := Lib.hid (HP.out x (List.mem_of_getElem? hpk))
      have HE := Lib.hid (drop_rest cs k x hpk)
      clear hb hc hpk
      have hzc := zeroChg
      go_wp2_with (first
        | ((with_reducible refine wpList_load_chg HC.out HPL.out rfl (.tmp 12) rfl ?_ ?_); (exact rfl))
        | ((with_reducible refine wpList_store_newchg HPL.out rfl (.tmp 7) (.tmp 13) rfl rfl ?_ chgZero_size ?_); (exact rfl); intro W2 hP hB2 hz2; have HI2 := Lib.hid (HI.out.call hB2); have HP2 := Lib.hid hP; have hv0 := ChVar.no hP; clear HI hP hB2 hz2; generalize wr.heap.size = B at HP2 hv0 ⊢)
        | (with_reducible refine wpList_load_reg HI2.out.reg.range rfl (.tmp 2) rfl rfl ?_))
      refine (other_any HI2.out.disk a z ha hz x.no).mono ?_
      rintro e W3 ⟨rfl, hb3⟩
      have HI3 := Lib.hid (HI2.out.call hb3)
      have HP3 := Lib.hid (RowAt.below HP2.out hb3 (RowAt.lt HP2.out))
      have hv3 := ChVar.no HP3.out
      clear HI2 HP2 hb3 hv0
      by_cases ho : otherB s.last.length a z x.no = true
      · have hoo : 0 ≤ x.no ∧ x.no < (s.last.length : Int) ∧ (x.no < (a : Int) ∨ (a : Int) + (z : Int) ≤ x.no) := of_decide_eq_true ho
        obtain ⟨j, hj⟩ : ∃ j : Nat, x.no = (j : Int) := ⟨x.no.toNat, by omega⟩
        have hj512 : j < 512 := by omega
        have HT : Hid (x.no.toNat = j) := Lib.hid (by omega)
        have HOT := Lib.hid ho
        rw [ho]
        clear hoo ho
        rw [hj] at hv3
        have hm3 := HI3.out.marks.cell j hj512
        have hf3 := HI3.out.marks.free j hj512
        clear hj
        cases hfj : f j with
        | true =>
          have HRW : Hid (takesB s.last.length a z cs = false) := Lib.hid (by rw [HR.out, HE.out, takes_bad (by rw [HT.out, hfj]; simp)])
          rw [hfj] at hm3
          go_wp2
          go_ret
          exact ⟨by rw [HRW.out]; rfl, HI3.out.below⟩
        | false =>
          have HRW : Hid (takesB s.last.length a z cs = takesFrom s.last.length a z (mark f j) (cs.drop (k + 1))) := Lib.hid (by rw [HR.out, HE.out, takes_ok HOT.out (by rw [HT.out, hfj]), HT.out])
          rw [hfj] at hm3
          go_wp2
          go_roundw
          case rel => exact ⟨k + 1, _, by omega, by go_num, HI3.out.set j hj512, HRW.out⟩
          case measure => simp [intOf]; omega
      · have HRW : Hid (takesB s.last.length a z cs = false) := Lib.hid (by rw [HR.out, HE.out, takes_bad (fun q => ho q.1)])
        have ho' : otherB s.last.length a z x.no = false := by simpa using ho
        rw [ho']
        clear ho ho'
        go_wp2
        go_ret
        exact ⟨by rw [HRW.out]; rfl, HI3.out.below⟩
    · obtain rfl : k = n := by omega
      have HRW : Hid (takesB s.last.length a z cs = true) := Lib.hid (by rw [HR.out, List.drop_of_length_le (by rw [HN.out]; omega)]; rfl)
      go_wp2_with fail
      go_ret
      exact ⟨by rw [HRW.out]; rfl, HI.out.below⟩
end Go.Proofs.YtppbiohjhnoagaaGreat
