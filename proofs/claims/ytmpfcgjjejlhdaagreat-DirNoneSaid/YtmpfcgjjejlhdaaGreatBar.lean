/- Texts of the proof. -/
import Derived.Test.YtmpfcgjjejlhdaaGreatBaq
import Derived.Test.YtmpfcgjjejlhdaaGreatBam
import Derived.Great.BuildSlice
import Derived.Test.YtmpfcgjjejlhdaaGreatBap
set_option maxRecDepth 100000
set_option maxHeartbeats 16000000
namespace Go.Proofs.YtmpfcgjjejlhdaaGreat
section
open Go.RowKit Go.Maps
open Dk (zeros zeros_length)
open Ii (Ino)
open Dm (Ent Has)
open Fs (flat View)
theorem QPageRow.inn {w : World} {A : Option Addr} {n : Nat} {ps : List (List UInt8)} (h : QPageRow w A n ps) : PagesIn w A n ps where
  len := h.len
  small := h.small
  size := fun p hp => by
    obtain ⟨i, hi, he⟩ := List.getElem_of_mem hp
    have := h.size i (by rw [← h.len]; exact hi)
    rw [List.getD_eq_getElem?_getD, List.getElem?_eq_getElem hi, he] at this
    exact this
  rows := ⟨fun h0 => by
    rw [List.length_map, h.len] at h0
    obtain ⟨b, off, e, hlt, hc⟩ := h.cells h0
    refine ⟨b, off, e, hlt, fun i r hi => ?_⟩
    rw [List.getElem?_map] at hi
    obtain ⟨p, hp, rfl⟩ := Option.map_eq_some_iff.1 hi
    have hil := (List.getElem?_eq_some_iff.1 hp).1
    have := hc i (by rw [← h.len]; exact hil)
    rw [List.getD_eq_getElem?_getD, hp] at this
    exact this⟩
structure TabAt (w0 w : World) (A1 : Option Addr) (A2 : Option Addr) (c2 : Nat) (ps : List (List UInt8)) (E : List Ent) : Prop where
  pages : PagesIn w A1 ps.length ps
  own : w.ownsRow w0.heap.size 41 2 (.slice A2 E.length c2) E.length (E.flatMap entE)
theorem TabAt.below {w0 w w' : World} {A1 A2 : Option Addr} {c2 : Nat} {ps : List (List UInt8)} {E : List Ent} (h : TabAt w0 w A1 A2 c2 ps E) (hb : Below w.heap.size w w') : TabAt w0 w' A1 A2 c2 ps E :=
  ⟨h.pages.step hb, owns_below h.own hb⟩
theorem owns_ents {w : World} {base : Nat} {A : Option Addr} {c : Nat} {E : List Ent} (h : w.ownsRow base 41 2 (.slice A E.length c) E.length (E.flatMap entE)) :
    (E = [] ∨ ∃ g, A = some ⟨g, 0, none⟩ ∧ base ≤ g ∧ RowAt w g (E.flatMap entE)) := by
  obtain ⟨h1, h2⟩ := h
  rcases h2 with ⟨e, e2⟩ | ⟨g, cap, cur, e, hb, hg, hcap, _, hsz, htk⟩
  · exact Or.inl (List.eq_nil_of_length_eq_zero e2)
  · injection e with e _ _
    refine Or.inr ⟨g, e, hb, ⟨fun j v hv => ?_, fun j hj => ?_⟩⟩
    · rw [← htk] at hv
      have hlt : j < E.length * 2 := by
        have := (List.getElem?_eq_some_iff.1 hv).1
        rw [List.length_take] at this; omega
      rw [List.getElem?_take_of_lt hlt] at hv
      simp only [World.cell?, hg, Nat.zero_add]
      simp only [Option.isSome_none, Bool.false_eq_true, if_false]
      rw [← Array.getElem?_toList]
      exact hv
    · have hl : j < cur.size := by
        have hcl : cur.toList.length = cur.size := Array.length_toList
        rw [← htk, List.length_take, hcl] at hj
        omega
      refine ⟨?_, ?_⟩
      · simp only [World.cell?, hg, Nat.zero_add]
        simp only [Option.isSome_none, Bool.false_eq_true, if_false]
        rw [Array.getElem?_eq_getElem hl]
        rfl
      · simp only [World.frozen?, hg, Nat.zero_add]
        simp
theorem owns_low {w : World} {base base' : Nat} {e : TypeId} {size : Nat} {v : Value} {n : Nat} {xs : List Value} (h : w.ownsRow base e size v n xs) (hb : base' ≤ base) : w.ownsRow base' e size v n xs :=
  ⟨h.1, h.2.imp id fun ⟨g, cap, cur, h1, h2, h3⟩ => ⟨g, cap, cur, h1, Nat.le_trans hb h2, h3⟩⟩
theorem owns_only {w w' : World} {base : Nat} {e : TypeId} {size : Nat} {v : Value} {n : Nat} {xs : List Value} {L : List Nat} (h : w.ownsRow base e size v n xs) (ho : Only L w w') (hL : ∀ k ∈ L, k < base) : w'.ownsRow base e size v n xs :=
  ⟨h.1, h.2.imp id fun ⟨g, cap, cur, h1, h2, h3, h4⟩ => ⟨g, cap, cur, h1, h2, (ho.block g (Array.getElem?_eq_some_iff.1 h3).1 (fun q => by have := hL g q; omega)).trans h3, h4⟩⟩
theorem PagesIn.only {w w' : World} {g o n : Nat} {ps : List (List UInt8)} {L : List Nat} (h : PagesIn w (some ⟨g, o, none⟩) n ps) (ho : Only L w w') (hg : g ∉ L) : PagesIn w' (some ⟨g, o, none⟩) n ps :=
  ⟨h.len, h.small, h.size, ⟨fun h0 => by
    obtain ⟨b, off, e, hlt, hc⟩ := h.rows.cells h0
    injection e with e
    injection e with e1 e2
    subst e1 e2
    exact ⟨_, _, rfl, Nat.lt_of_lt_of_le hlt ho.size, fun i r hi => rangeAt_block (hc i r hi) (ho.block _ hlt hg)⟩⟩⟩
theorem tab_at {w0 w2 w3 : World} {g : Nat} {A2 : Option Addr} {c2 m X : Nat} {ps : List (List UInt8)} {E : List Ent} {us : List Value} (hl : ps.length = m) (hin : PagesIn w3 (some ⟨g, 0, none⟩) m ps) (hb0 : w0.heap.size ≤ w2.heap.size) (hX : X < g) (hX2 : X < w2.heap.size) (hown : w3.ownsRow w2.heap.size 41 2 (.slice A2 E.length c2) E.length (E.flatMap entE)) : TabAt w0 (w3.setCells X 0 us) (some ⟨g, 0, none⟩) A2 c2 ps E := by
  have ho : Only [X] w3 (w3.setCells X 0 us) := (Only.refl [X] w3).setCells X (by simp) us 0 w3
  exact ⟨by rw [hl]; exact hin.only ho (by simp; omega), owns_low (owns_only hown ho (by simpa using hX2)) hb0⟩
theorem TabAt.row {w0 w : World} {A1 A2 : Option Addr} {c2 : Nat} {ps : List (List UInt8)} {E : List Ent} (h : TabAt w0 w A1 A2 c2 ps E) : EntRow w A2 E.length E where
  len := rfl
  cells := fun h0 => by
    rcases owns_ents h.own with rfl | ⟨g, e, _, hr⟩
    · exact absurd h0 (Nat.lt_irrefl _)
    · refine ⟨g, 0, e, World.block_lt_of_cell? w _ (hr.cell 0 _ (List.getElem?_eq_getElem (by rw [flatE_length]; omega))), fun i x hx j v hv => ?_⟩
      have := hr.cell (i * 2 + j) v (flatE_at E i x j v hx hv)
      rw [Nat.zero_add]
      exact this
abbrev tabV (A1 : Option Addr) (n1 c1 : Nat) (A2 : Option Addr) (n2 c2 : Nat) : Value := .agg #[.slice A1 n1 c1, .slice A2 n2 c2]
def tabL (A1 : Option Addr) (n1 c1 : Nat) (A2 : Option Addr) (n2 c2 : Nat) : List Value := [.slice A1 n1 c1, .slice A2 n2 c2]
theorem tabL_one (A1 : Option Addr) (n1 c1 : Nat) (A2 : Option Addr) (n2 c2 : Nat) : ∀ v ∈ tabL A1 n1 c1 A2 n2 c2, v.oneCell' = true := by
  intro v hv
  simp only [tabL, List.mem_cons, List.not_mem_nil, or_false] at hv
  rcases hv with rfl | rfl <;> rfl
theorem tabT : RowT 88 2 := ⟨⟨_, Tryz.underlying88, rfl⟩, by kernel_rfl⟩
theorem tab_box (w : World) (B : Nat) (i : Int) : Lo [] w [(w.heap.size, dirL B i), (w.heap.size + 1, tabL none 0 0 none 0 0)] ((w.alloc (.cells #[.pointer (some ⟨B, 0, none⟩), .int .i64 i] 52)).alloc (.cells #[.slice none 0 0, .slice none 0 0] 88)) :=
  ((Lo.start (L := []) w (by simp)).alloc _ rfl (dirL B i) _).alloc (w.heap.size + 1) (by simp) (tabL none 0 0 none 0 0) _
theorem tab_any {w : World} {B : Nat} {b : Blk} {s : Sto} {n I : Int} {x : Ino} {u : Nat} {P : Nat → List UInt8} {E : List Ent} {H : Has} (h : Ctx w B b s n I) (hd : Dm.Dr n I (nv s) x u P E H) :
    Calls Tryz.prog 48 #[dirV B 1] w fun e w' => ∃ A1 c1 A2 c2, e = .returned (tabV A1 (E.length / 4) c1 A2 E.length c2) ∧ TabAt w w' A1 A2 c2 (pagesE E (flat P 36)) E ∧ Below w.heap.size w w' := by
  have hfew := hd.few
  have h4 := hd.ok.four
  have hFl := hd.rt.fl.flat_length
  have S := Lib.hid (tab_box w B 1)
  have c0 := (S.out.get 0 _ rfl).cell 0 _ rfl
  have c1 := (S.out.get 0 _ rfl).cell 1 _ rfl
  obtain ⟨t, ht⟩ : ∃ t, (flat P 36).take (16 * E.length) = t := ⟨_, rfl⟩
  have htl : t.length = 16 * E.length := by rw [← ht, List.length_take, hFl]; omega
  have HR : Hid (∀ W l, Lo [] w l W → Calls Tryz.prog 89 #[.pointer (some ⟨B, 0, none⟩), .int .i64 1, .int .i64 0, .int .i64 67840] W fun e w' => e = .returned (.string (strOf t)) ∧ Below W.heap.size W w') := Lib.hid (fun W l hl => sread_yes (Lo.ctx (L := []) hl h) 1 0 67840 (by decide) (by rw [← ht]; exact hd.whole))
  have hps : pagesE E (flat P 36) = qchunks (E.length / 4) t := by unfold pagesE; rw [ht]
  have HS : Hid (∀ W, Calls Tryz.prog 88 #[.string (strOf t)] W fun e w' => e = .returned (.slice (some ⟨W.heap.size, 0, none⟩) (E.length / 4) (E.length / 4)) ∧ PagesIn w' (some ⟨W.heap.size, 0, none⟩) (E.length / 4) (pagesE E (flat P 36)) ∧ W.heap.size < w'.heap.size ∧ Below W.heap.size W w') := Lib.hid (fun W => by
    refine (qsplit_any (strOf t) (E.length / 4) W (by rw [strOf_size]; omega) (by rw [strOf_size]; omega)).mono ?_
    rintro e w' ⟨rfl, hr, hz, hb⟩
    refine ⟨rfl, ?_, hz, hb⟩
    have e2 : qpadded (E.length / 4) (strOf t).data.toList = t := by rw [bytes_strOf]; exact padded_full _ _ (by omega)
    rw [hps, ← e2]
    exact hr.inn)
  have hbl := blocks_dir hd.bytes hd.ok
  obtain ⟨ha1, ha2⟩ := allOk_dir hd.ok.st
  have HA : Hid (∀ W A, PagesIn W A (E.length / 4) (pagesE E (flat P 36)) → (0 < E.length / 4 → ∀ b off, A = some ⟨b, off, none⟩ → b < W.heap.size) → Calls Tryz.prog 90 #[.slice A (E.length / 4) (E.length / 4)] W fun e w' => ∃ A2 c2, e = .returned (.tuple #[.slice A2 E.length c2, .int .i64 0]) ∧ w'.ownsRow W.heap.size 41 2 (.slice A2 E.length c2) E.length (E.flatMap entE) ∧ Below W.heap.size W w') := Lib.hid (fun W A hin hf => by
    refine (all_any A (E.length / 4) (E.length / 4) _ W hin hf (by omega)).mono ?_
    intro e w' hg
    unfold AllGive at hg
    rw [hbl, if_pos ha1, ha2, List.length_map] at hg
    exact hg)
  have hpl : (pagesE E (flat P 36)).length = E.length / 4 := pagesE_length _ _
  have HPL := Lib.hid hpl
  clear h hd hps hbl ha1 ha2 hpl htl ht hFl h4
  generalize pagesE E (flat P 36) = ps at HS HA HPL ⊢
  obtain ⟨m, hm⟩ : ∃ m, E.length / 4 = m := ⟨_, rfl⟩
  rw [hm] at HS HA HPL ⊢
  clear hm
  go_enter Tryz.func48, Tryz.ntmps48
  go_wp2_with (first
    | (go_at_call 89; refine (HR.out _ _ S.out).mono ?_; rintro e w1 ⟨rfl, hb⟩; replace S := Lib.hid (S.out.below hb); clear hb)
    | (go_at_call 88; have HXG := Lib.hid (S.out.lt 1 _ rfl); refine (HS.out _).mono ?_; rintro e w2 ⟨rfl, hin, hz, hb⟩; replace S := Lib.hid (S.out.below hb); have HIN := Lib.hid hin; have HBL := Lib.hid hz; clear hb hin hz)
    | (go_at_call 90; refine (HA.out _ _ HIN.out (fun _ b off e => by injection e with e; injection e with e; subst e; exact HBL.out)).mono ?_; rintro e w3 ⟨A2, c2, rfl, hown, hb⟩; have HIN3 := Lib.hid (HIN.out.step hb); have HOW := Lib.hid hown; have HSZ := Lib.hid S.out.bel.size; have HXL := Lib.hid (S.out.lt 1 _ rfl);  replace S := Lib.hid (S.out.below hb); clear hb hown)
    | ((with_reducible refine wpList_store_rw (vs := tabL (some ⟨w1.heap.size, 0, none⟩) m m A2 E.length c2) tabT (S.out.get 1 _ rfl) ?_ ?_ (tabL_one _ _ _ _ _ _) rfl (.tmp 2) (.tmp 25) rfl ?_ ?_ ?_); (exact rfl); (exact rfl); (exact rfl); (exact rfl)))
  have S2 := Lib.hid (S.out.put 1 _ rfl (tabL (some ⟨w1.heap.size, 0, none⟩) m m A2 E.length c2) rfl)
  refine bodyPost_ret (results_row1 tabT _ 2 rfl _ (S2.out.get 1 _ rfl) rfl rfl) rfl ⟨_, _, _, _, rfl, ?_, S2.out.bel⟩
  exact tab_at HPL.out HIN3.out HSZ.out HXG.out HXL.out HOW.out
end

section
open Go.RowKit Go.Maps
open Dk (zeros zeros_length)
open Ii (Ino)
open Dm (Ent Has)
theorem strOf_toList (l : List UInt8) : (strOf l).toList = l := by rw [Lib.toList_data]; rfl
theorem used_not {e : Ent} (h : Nm.standB e.1 e.2 = true) (hu : Dm.used e = false) : e = (0, []) := by
  unfold Dm.used at hu
  have h0 : e.1 = 0 := by simpa using hu
  rcases Nm.stand_yes h with ⟨h1, h2⟩ | ⟨h1, _⟩
  · exact Prod.ext h1 h2
  · omega
theorem empty_ent {e : Ent} (h : Nm.standB e.1 e.2 = true) (w : World) : Calls Tryz.prog 70 #[.agg (entE e).toArray] w fun r w' => r = .returned (.bool (!Dm.used e)) ∧ Below w.heap.size w w' := by
  obtain ⟨n, s⟩ := e
  have HB : Hid (Below w.heap.size w (w.alloc (.cells #[.int .i64 n, .string (strOf s)] 41))) := Lib.hid ((Below.refl _ _).alloc (Nat.le_refl _) _)
  change Calls Tryz.prog _ #[.agg #[.int .i64 n, .string (strOf s)]] w _
  cases hu : Dm.used (n, s) with
  | true =>
    have hn : n ≠ 0 := by unfold Dm.used at hu; simpa using hu
    have g0 : (n == 0) = false := by simpa using hn
    clear h hu
    go_enter Tryz.func70, Tryz.ntmps70
    go_wp2
    go_ret
    exact ⟨rfl, HB.out⟩
  | false =>
    have he := used_not h hu
    injection he with h1 h2
    subst h1 h2
    have hs : (strOf ([] : List UInt8)).toList = [] := strOf_toList []
    clear h hu
    go_enter Tryz.func70, Tryz.ntmps70
    go_wp2
    go_ret
    exact ⟨rfl, HB.out⟩
theorem ent_cell (w : World) (n : Int) (s : ByteArray) : (w.alloc (.cells #[.int .i64 n, .string s] 41)).cell? ⟨w.heap.size, 1, none⟩ = some (.string s) ∧ RowAt (w.alloc (.cells #[.int .i64 n, .string s] 41)) w.heap.size [.int .i64 n, .string s] := by
  have r0 : RowAt (w.alloc (.cells #[.int .i64 n, .string s] 41)) w.heap.size [.int .i64 n, .string s] := ((Lo.start (L := []) w (by simp)).alloc _ rfl [.int .i64 n, .string s] _).get 0 _ rfl
  exact ⟨r0.cell 1 _ rfl, r0⟩
theorem hit_any {e : Ent} (h : Nm.standB e.1 e.2 = true) (s : List UInt8) (X : Nat) (w : World) (hX : RowAt w X [.string (strOf s)]) : Calls Tryz.prog 92 #[.agg (entE e).toArray, .pointer (some ⟨X, 0, none⟩)] w fun r w' => r = .returned (.bool (Dm.hits s e)) ∧ Below w.heap.size w w' := by
  have HE := Lib.hid (fun W => empty_ent h W)
  obtain ⟨n, r⟩ := e
  have HB : Hid (Below w.heap.size w (w.alloc (.cells #[.int .i64 n, .string (strOf r)] 41))) := Lib.hid ((Below.refl _ _).alloc (Nat.le_refl _) _)
  have HX := Lib.hid (hX.step HB.out)
  have HR := Lib.hid (ent_cell w n (strOf r)).2
  change Hid (∀ W, Calls Tryz.prog _ #[.agg #[.int .i64 n, .string (strOf r)]] W _) at HE
  change Calls Tryz.prog _ #[.agg #[.int .i64 n, .string (strOf r)], _] w _
  unfold Dm.hits
  clear hX h
  cases hu : Dm.used (n, r) with
  | true =>
    rw [hu] at HE
    by_cases hs : r = s
    · have g0 : ((strOf r).toList == (strOf s).toList) = true := by rw [strOf_toList, strOf_toList]; simpa using hs
      rw [show decide (((n, r) : Ent).2 = s) = true from decide_eq_true hs]
      clear hs hu
      go_enter Tryz.func92, Tryz.ntmps92
      go_wp2_with (go_at_call 70; refine (HE.out _).mono ?_; rintro e w1 ⟨rfl, hb⟩; have HB1 := Lib.hid (HB.out.trans (hb.mono HB.out.size)); have c1 := (HR.out.step hb).cell 1 _ rfl; have c2 := (HX.out.step hb).cell 0 _ rfl; clear hb)
      go_ret
      exact ⟨rfl, HB1.out⟩
    · have g0 : ((strOf r).toList == (strOf s).toList) = false := by rw [strOf_toList, strOf_toList]; simpa using hs
      rw [show decide (((n, r) : Ent).2 = s) = false from decide_eq_false hs]
      clear hs hu
      go_enter Tryz.func92, Tryz.ntmps92
      go_wp2_with (go_at_call 70; refine (HE.out _).mono ?_; rintro e w1 ⟨rfl, hb⟩; have HB1 := Lib.hid (HB.out.trans (hb.mono HB.out.size)); have c1 := (HR.out.step hb).cell 1 _ rfl; have c2 := (HX.out.step hb).cell 0 _ rfl; clear hb)
      go_ret
      exact ⟨rfl, HB1.out⟩
  | false =>
    rw [hu] at HE
    clear hu
    go_enter Tryz.func92, Tryz.ntmps92
    go_wp2_with (go_at_call 70; refine (HE.out _).mono ?_; rintro e w1 ⟨rfl, hb⟩; have HB1 := Lib.hid (HB.out.trans (hb.mono HB.out.size)); clear hb)
    go_ret
    exact ⟨rfl, HB1.out⟩
def idxI : Option Nat → Int
  | none => -1
  | some i => (i : Int)
theorem find_hit {p : Ent → Bool} {E : List Ent} {k : Nat} {e : Ent} (he : E[k]? = some e) (hp : p e = true) (hb : ∀ j x, j < k → E[j]? = some x → p x = false) : E.findIdx? p = some k := by
  obtain ⟨hk1, hk2⟩ := (List.getElem?_eq_some_iff.1 he)
  rw [List.findIdx?_eq_some_iff_getElem]
  refine ⟨hk1, by rw [hk2]; exact hp, fun j hj => ?_⟩
  have := hb j _ hj (List.getElem?_eq_getElem (by omega))
  simpa using this
theorem find_miss {p : Ent → Bool} {E : List Ent} (hb : ∀ j x, j < E.length → E[j]? = some x → p x = false) : E.findIdx? p = none := by
  rw [List.findIdx?_eq_none_iff]
  intro x hx
  obtain ⟨i, hi, he⟩ := List.getElem_of_mem hx
  exact hb i x hi (by rw [List.getElem?_eq_getElem hi, he])
theorem idx_any (p : Ent → Bool) (g : FuncId) (lb : Array Value) (eg : ∀ args w, (callFunc g args).run Tryz.prog w = .ok (.enter g args) w) (A : Option Addr) (n c : Nat) (E : List Ent) (w : World) (hr : EntRow w A n E) (hn : n ≤ 1000)
    (hp : ∀ W e, e ∈ E → Below w.heap.size w W → Calls Tryz.prog g (#[.agg (entE e).toArray] ++ lb) W fun r w' => r = .returned (.bool (p e)) ∧ Below W.heap.size W w') :
    Calls Tryz.prog 91 #[.slice A n c, .func (.func g) #[] lb] w fun e w' => e = .returned (.int .i64 (idxI (E.findIdx? p))) ∧ Below w.heap.size w w' := by
  have HR := Lib.hid hr
  have HP := Lib.hid hp
  have HLN := Lib.hid hr.len
  clear hr hp
  go_enter Tryz.func91, Tryz.ntmps91
  go_wp2_with fail
  go_loopw [5, 8] (fun _ i wr => ∃ (k : Nat), k ≤ n ∧ i = .int .i64 k ∧ Hid (Below w.heap.size w wr) ∧ Hid (∀ j x, j < k → E[j]? = some x → p x = false)) (fun _ i _ => n - (intOf i).toNat)
  case atStart => exact ⟨0, Nat.zero_le _, rfl, Lib.hid (Below.refl _ _), Lib.hid (fun j x hj => absurd hj (Nat.not_lt_zero _))⟩
  case round =>
    obtain ⟨k, hk, rfl, HB, HN⟩ := hrel
    rename World => wr
    by_cases hlt : k < n
    · obtain ⟨e, he⟩ : ∃ e, E[k]? = some e := ⟨_, List.getElem?_eq_getElem (by rw [HLN.out]; exact hlt)⟩
      have HR2 := Lib.hid (HR.out.below HB.out)
      obtain ⟨pb, poff, rfl, hpb, hpr⟩ := HR2.out.cells (by omega)
      have HPE : Hid (wr.rangeAt pb (poff + k * 2) (entE e)) := Lib.hid (hpr k e he)
      have HC := Lib.hid (HP.out wr e (List.mem_of_getElem? he) HB.out)
      have HE := Lib.hid he
      clear hpr hpb he
      have hlz : (k : Int) < (n : Int) := by omega
      go_wp2_with (with_reducible refine wpList_load_mid rfl 41 (.tmp 14) rfl pb (poff + k * 2) rfl (entE e) _ HPE.out Tryz.underlying41 rfl (by kernel_rfl) ?_)
      refine HC.out.mono ?_
      rintro r w1 ⟨rfl, hb⟩
      have HB1 := Lib.hid (HB.out.trans (hb.mono HB.out.size))
      clear hb HC
      cases hpe : p e with
      | true =>
        go_wp2_with fail
        go_ret
        rw [find_hit HE.out hpe HN.out]
        exact ⟨rfl, HB1.out⟩
      | false =>
        have HN1 : Hid (∀ j x, j < k + 1 → E[j]? = some x → p x = false) := Lib.hid (fun j x hj hx => by
          rcases Nat.lt_or_ge j k with q | q
          · exact HN.out j x q hx
          · obtain rfl : j = k := by omega
            rw [HE.out] at hx
            injection hx with hx
            rw [← hx]; exact hpe)
        clear hpe HE HN
        go_wp2_with fail
        go_roundw
        case rel => exact ⟨k + 1, by omega, by go_num, HB1, HN1⟩
        case measure => simp [intOf]; omega
    · obtain rfl : k = n := by omega
      have hlz : ¬ (k : Int) < (k : Int) := by omega
      go_wp2_with fail
      go_ret
      rw [find_miss (fun j x hj hx => HN.out j x (by rw [HLN.out] at hj; exact hj) hx)]
      exact ⟨rfl, HB.out⟩
theorem qfind_box (w : World) (A1 : Option Addr) (n1 c1 : Nat) (A2 : Option Addr) (n2 c2 : Nat) (s : ByteArray) : Lo [] w [(w.heap.size, tabL A1 n1 c1 A2 n2 c2), (w.heap.size + 1, [.string s])] ((w.alloc (.cells #[.slice A1 n1 c1, .slice A2 n2 c2] 88)).alloc (.cells #[.string s] 9)) :=
  ((Lo.start (L := []) w (by simp)).alloc _ rfl (tabL A1 n1 c1 A2 n2 c2) _).alloc (w.heap.size + 1) (by simp) [.string s] _
theorem qroom_box (w : World) (A1 : Option Addr) (n1 c1 : Nat) (A2 : Option Addr) (n2 c2 : Nat) : Lo [] w [(w.heap.size, tabL A1 n1 c1 A2 n2 c2)] (w.alloc (.cells #[.slice A1 n1 c1, .slice A2 n2 c2] 88)) :=
  (Lo.start (L := []) w (by simp)).alloc _ rfl (tabL A1 n1 c1 A2 n2 c2) _
theorem find_any (A1 : Option Addr) (n1 c1 : Nat) (A2 : Option Addr) (n2 c2 : Nat) (s : List UInt8) (E : List Ent) (w : World) (hr : EntRow w A2 n2 E) (hn : n2 ≤ 1000) (hst : ∀ e ∈ E, Nm.standB e.1 e.2 = true) :
    Calls Tryz.prog 49 #[tabV A1 n1 c1 A2 n2 c2, .string (strOf s)] w fun e w' => e = .returned (.int .i64 (idxI (Dm.spot E s))) ∧ Below w.heap.size w w' := by
  have hmf : ∀ (fn : Fn) (first cap : Array Value) (w : World), (Instr.makeFunc fn first cap).run Tryz.prog w = .ok (.func fn first cap) w := fun _ _ _ _ => rfl
  have S := Lib.hid (qfind_box w A1 n1 c1 A2 n2 c2 (strOf s))
  have c1' := (S.out.get 0 _ rfl).cell 1 _ rfl
  have HI : Hid (∀ W, Lo [] w [(w.heap.size, tabL A1 n1 c1 A2 n2 c2), (w.heap.size + 1, [.string (strOf s)])] W → Calls Tryz.prog 91 #[.slice A2 n2 c2, .func (.func 92) #[] #[.pointer (some ⟨w.heap.size + 1, 0, none⟩)]] W fun e w' => e = .returned (.int .i64 (idxI (Dm.spot E s))) ∧ Below W.heap.size W w') := Lib.hid (fun W hl => by
    have h1 := hr.below hl.bel
    exact idx_any (Dm.hits s) _ _ (fun args w => by simp [go_sem]) A2 n2 c2 E W h1 hn (fun W2 e he hb => hit_any (hst e he) s _ W2 ((hl.get 1 _ rfl).step hb)))
  clear hr hst
  go_enter Tryz.func49, Tryz.ntmps49
  go_wp2_with (go_at_call 91; refine (HI.out _ S.out).mono ?_; rintro e w1 ⟨rfl, hb⟩; replace S := Lib.hid (S.out.below hb); clear hb)
  go_ret
  exact ⟨rfl, S.out.bel⟩
def roomI (n : Nat) (o : Option Nat) : Int := match o with
  | none => (n : Int)
  | some i => (i : Int)
theorem room_any (A1 : Option Addr) (n1 c1 : Nat) (A2 : Option Addr) (n2 c2 : Nat) (E : List Ent) (w : World) (hr : EntRow w A2 n2 E) (hn : n2 ≤ 1000) (hst : ∀ e ∈ E, Nm.standB e.1 e.2 = true) :
    Calls Tryz.prog 51 #[tabV A1 n1 c1 A2 n2 c2] w fun e w' => e = .returned (.int .i64 (roomI n2 (Dm.room E))) ∧ Below w.heap.size w w' := by
  have S := Lib.hid (qroom_box w A1 n1 c1 A2 n2 c2)
  have c1' := (S.out.get 0 _ rfl).cell 1 _ rfl
  have HI : Hid (∀ W, Lo [] w [(w.heap.size, tabL A1 n1 c1 A2 n2 c2)] W → Calls Tryz.prog 91 #[.slice A2 n2 c2, .func (.func 70) #[] #[]] W fun e w' => e = .returned (.int .i64 (idxI (Dm.room E))) ∧ Below W.heap.size W w') := Lib.hid (fun W hl => by
    have h1 := hr.below hl.bel
    exact idx_any (fun e => !Dm.used e) _ _ (fun args w => by simp [go_sem]) A2 n2 c2 E W h1 hn (fun W2 e he hb => empty_ent (hst e he) W2))
  clear hr hst
  cases hq : Dm.room E with
  | none =>
    rw [hq] at HI
    simp only [idxI] at HI
    clear hq
    go_enter Tryz.func51, Tryz.ntmps51
    go_wp2_with (go_at_call 91; refine (HI.out _ S.out).mono ?_; rintro e w1 ⟨rfl, hb⟩; replace S := Lib.hid (S.out.below hb); have c2' := (S.out.get 0 _ rfl).cell 1 _ rfl; clear hb)
    go_ret
    exact ⟨rfl, S.out.bel⟩
  | some i =>
    rw [hq] at HI
    simp only [idxI] at HI
    clear hq
    have g0 : (0 : Int) ≤ (i : Int) := by omega
    go_enter Tryz.func51, Tryz.ntmps51
    go_wp2_with (go_at_call 91; refine (HI.out _ S.out).mono ?_; rintro e w1 ⟨rfl, hb⟩; replace S := Lib.hid (S.out.below hb); clear hb)
    go_ret
    exact ⟨rfl, S.out.bel⟩
def wrongF (s : List UInt8) (i : Int) : Int := if Nm.chk s ≠ 0 then Nm.chk s else if Nm.rightB i s = true then 0 else 22
theorem wrong_any (s : List UInt8) (i : Int) (w : World) (hm : (strOf s).size ≤ maxLen) : Calls Tryz.prog 47 #[.string (strOf s), .int .i64 i] w fun e w' => e = .returned (.int .i64 (wrongF s i)) ∧ Below w.heap.size w w' := by
  have HC : Hid (∀ W, Calls Tryz.prog 8 #[.string (strOf s)] W fun e w' => e = .returned (.int .i64 (Nm.chk s)) ∧ Below W.heap.size W w') := Lib.hid (fun W => by have := check_any (strOf s) W hm; rw [bytes_strOf] at this; exact this)
  have HR : Hid (∀ W, Calls Tryz.prog 87 #[.agg #[.int .i64 i, .string (strOf s)]] W fun e w' => e = .returned (.bool (Nm.rightB i s)) ∧ Below W.heap.size W w') := Lib.hid (fun W => by have := nright_any i (strOf s) W hm; rw [bytes_strOf] at this; exact this)
  clear hm
  unfold wrongF
  by_cases c : Nm.chk s = 0
  · rw [c] at HC ⊢
    rw [if_neg (by decide)]
    cases r : Nm.rightB i s with
    | true =>
      rw [r] at HR
      clear c r
      go_enter Tryz.func47, Tryz.ntmps47
      go_wp2_with (first
        | (go_at_call 8; refine (HC.out _).mono ?_; rintro e w1 ⟨rfl, hb⟩; have HB := Lib.hid hb; clear hb)
        | (go_at_call 87; refine (HR.out _).mono ?_; rintro e w2 ⟨rfl, hb⟩; have HB2 := Lib.hid (HB.out.trans (hb.mono HB.out.size)); clear hb))
      go_ret
      exact ⟨rfl, HB2.out⟩
    | false =>
      rw [r] at HR
      clear c r
      go_enter Tryz.func47, Tryz.ntmps47
      go_wp2_with (first
        | (go_at_call 8; refine (HC.out _).mono ?_; rintro e w1 ⟨rfl, hb⟩; have HB := Lib.hid hb; clear hb)
        | (go_at_call 87; refine (HR.out _).mono ?_; rintro e w2 ⟨rfl, hb⟩; have HB2 := Lib.hid (HB.out.trans (hb.mono HB.out.size)); clear hb))
      go_ret
      exact ⟨rfl, HB2.out⟩
  · rw [if_pos c]
    have g0 : (Nm.chk s != 0) = true := by simpa using c
    clear c HR
    go_enter Tryz.func47, Tryz.ntmps47
    go_wp2_with (go_at_call 8; refine (HC.out _).mono ?_; rintro e w1 ⟨rfl, hb⟩; have HB := Lib.hid hb; clear hb)
    go_ret
    exact ⟨rfl, HB.out⟩
end

section
open Go.RowKit Go.Maps
open Dk (zeros zeros_length)
open Ii (Ino)
open Dm (Ent Has)
theorem qpage_type : ∃ i z, Tryz.prog.info? 97 = some i ∧ i.zero = some z ∧ i.size = 64 ∧ i.bytes = 64 ∧ z.cells.size = 64 := by
  have h1 := page_info
  have h2 : (Tryz.prog.info? 97).map (·.bytes) = some 64 := by kernel_rfl
  have h3 : ((Tryz.prog.info? 97).bind (·.zero)).map (·.cells.size) = some 64 := by kernel_rfl
  cases h : Tryz.prog.info? 97 with
  | none => rw [h] at h1; cases h1
  | some i =>
    rw [h] at h1 h2 h3
    cases hz : i.zero with
    | none => simp [hz] at h3
    | some z =>
      simp [hz] at h1 h2 h3
      exact ⟨i, z, rfl, hz, h1, h2, h3⟩
theorem qrun_buildPage (w : World) (p : List UInt8) (hp : p.length = 64) : (Instr.buildSlice 86 1 #[(0, pageV p)]).run Tryz.prog w = .ok (.slice (some ⟨w.heap.size, 0, none⟩) 1 1) (w.alloc (.cells (byteVals p).toArray 97)) := by
  obtain ⟨i, z, hi, hz, hs, _, _⟩ := qpage_type
  refine run_buildSlice w 86 97 1 #[(0, pageV p)] _ i z Tryz.underlying86 hi hz (by rw [hs]; omega) (by rw [hs]; omega) ?_
  rw [hs]
  have h := Great.fill_whole (s := 64) (by omega) [pageV p] ((Array.range (1 * 64)).map (z.cells[· % z.cells.size]!)) (fun v hv => by
    rw [List.mem_singleton] at hv
    rw [hv]
    show (byteVals p).toArray.size = 64
    rw [List.size_toArray, byteVals_length, hp]) (by simp)
  refine h.trans ?_
  congr 1
  show ([pageV p].flatMap fun v => v.cells.toList).toArray = _
  simp [pageV, Value.cells]
theorem gives_buildPage {o : Oper} {a : Act} {w : World} {p : List UInt8} {R : Value → World → Prop} {Bp : List PanicEntry → World → Prop} (hp : p.length = 64) (x : Operand) (ho : o.op = .buildSlice 86 1 #[(0, x)]) (hx : a.eval x = pageV p)
    (h : R (.slice (some ⟨w.heap.size, 0, none⟩) 1 1) (w.alloc (.cells (byteVals p).toArray 97))) : GivesP Tryz.prog (execOp a.eval o) w R Bp := by
  have hr := qrun_buildPage w p hp
  unfold GivesP execOp
  simp only [ho, List.map_toArray, List.map_cons, List.map_nil, hx, Sem.run_bind, hr, Result.andThen_ok, Sem.run_pure]
  exact h
theorem one_page (w : World) (p : List UInt8) (hp : p.length = 64) : QPageRow (w.alloc (.cells (byteVals p).toArray 97)) (some ⟨w.heap.size, 0, none⟩) 1 [p] where
  len := rfl
  small := by unfold maxLen; omega
  size := fun i hi => by
    obtain rfl : i = 0 := by omega
    exact hp
  cells := fun _ => ⟨w.heap.size, 0, rfl, by simp, fun i hi => by
    obtain rfl : i = 0 := by omega
    exact (((Lo.start (L := []) w (by simp)).alloc _ rfl (byteVals p) 97).get 0 _ rfl).range⟩
theorem QPageRow.step {w w' : World} {A : Option Addr} {n : Nat} {ps : List (List UInt8)} (h : QPageRow w A n ps) (hb : Below w.heap.size w w') : QPageRow w' A n ps :=
  ⟨h.len, h.small, h.size, fun h0 => by
    obtain ⟨b, off, e, hlt, hc⟩ := h.cells h0
    exact ⟨b, off, e, Nat.lt_of_lt_of_le hlt hb.size, fun i hi => rangeAt_block (hc i hi) (hb.block b hlt)⟩⟩
def PtS (R : Ending → World → Prop) (B : Nat) (b : Blk) (n I : Int) (w0 : World) (K : Unit → Ending → World → Prop) (l : List (Nat × List Value)) (s : Sto) (m : Fs.M Unit) (q : List UInt8) : Option (Option Nat) → World → Prop
  | none, W => ∃ s', Stp R B b n I [] w0 K l s' (Fs.ret ()) W
  | some none, W => Stp R B b n I [] w0 K l s m W
  | some (some X), W => Stp R B b n I [] w0 K l s m W ∧ QPageRow W (some ⟨X, 0, none⟩) 1 [q]
section
variable {R : Ending → World → Prop} {B : Nat} {b : Blk} {n I : Int} {w0 : World} {K : Unit → Ending → World → Prop} {l : List (Nat × List Value)} {s : Sto} {m : Fs.M Unit} {q : List UInt8} {W W' : World}
theorem PtS.lo : ∀ {k : Option (Option Nat)}, PtS R B b n I w0 K l s m q k W → Lo [b.t] w0 l W
  | none, ⟨_, h⟩ => Stp.lo h
  | some none, h => Stp.lo h
  | some (some _), ⟨h, _⟩ => Stp.lo h
theorem PtS.below (hb : Below W.heap.size W W') : ∀ {k : Option (Option Nat)}, PtS R B b n I w0 K l s m q k W → PtS R B b n I w0 K l s m q k W'
  | none, ⟨s', h⟩ => ⟨s', Stp.below h hb⟩
  | some none, h => Stp.below h hb
  | some (some _), ⟨h, h2⟩ => ⟨Stp.below h hb, h2.step hb⟩
theorem PtS.made (hq : q.length = 64) (h : PtS R B b n I w0 K l s m q (some none) W) : PtS R B b n I w0 K l s m q (some (some W.heap.size)) (W.alloc (.cells (byteVals q).toArray 97)) :=
  ⟨Stp.below h (below_alloc _ _), one_page W q hq⟩
theorem PtS.start (h : PtS R B b n I w0 K l s m q (some none) W) : Stp R B b n I [] w0 K l s m W := h
theorem PtS.row {X : Nat} (h : PtS R B b n I w0 K l s m q (some (some X)) W) : Stp R B b n I [] w0 K l s m W ∧ QPageRow W (some ⟨X, 0, none⟩) 1 [q] := h
theorem PtS.done (h : PtS R B b n I w0 K l s m q none W) : ∃ s', Stp R B b n I [] w0 K l s' (Fs.ret ()) W := h
end
theorem loads_ent {X o : Nat} {e : Ent} (w : World) (h : w.rangeAt X o (entE e)) : (loadVar 41 ⟨X, o, none⟩).run Tryz.prog w = .ok (.agg (entE e).toArray) w :=
  run_loadVar_mid (P := Tryz.prog) w X o 41 (entE e) _ h Tryz.underlying41 rfl (by kernel_rfl)
theorem put_step {R : Ending → World → Prop} {B : Nat} {b : Blk} {n I : Int} {w0 w : World} {K : Unit → Ending → World → Prop} {s : Sto} {m : Fs.M Unit} (S : Stp R B b n I [] w0 K [] s m w) (A1 : Option Addr) (n1 c1 : Nat) (A2 : Option Addr) (n2 c2 : Nat) (e : Ent) (_o : Obj) :
    Stp R B b n I [] w0 K [(w.heap.size, dirL B 1), (w.heap.size + 1, tabL A1 n1 c1 A2 n2 c2), (w.heap.size + 2, entE e), (w.heap.size + 3, byteVals zeros)] s m ((((w.alloc (.cells #[.pointer (some ⟨B, 0, none⟩), .int .i64 1] 52)).alloc (.cells #[.slice A1 n1 c1, .slice A2 n2 c2] 88)).alloc (.cells #[.int .i64 e.1, .string (strOf e.2)] 41)).alloc (.cells zeroCells 97)) :=
  (((S.alloc w.heap.size rfl (dirL B 1) _).alloc (w.heap.size + 1) (by simp) (tabL A1 n1 c1 A2 n2 c2) _).alloc (w.heap.size + 2) (by simp) (entE e) _).alloc (w.heap.size + 3) (by simp) (byteVals zeros) _
theorem slot_put {p : List UInt8} (hp : p.length = 64) (r : Nat) (hr : r < 4) {e : Ent} (hs : Nm.standB e.1 e.2 = true) (W : World) : Calls Tryz.prog 94 #[pageV p, .int .i64 (r : Int), .agg (entE e).toArray] W fun x w' => x = .returned (pageV (Nm.lay p r (slotE e))) ∧ Below W.heap.size W w' := by
  have h := nput_any p (r : Int) e.1 (strOf e.2) W hp (by rw [strOf_size]; have := (Nm.stand_bd hs).2.2; unfold maxLen; omega)
  rw [bytes_strOf] at h
  have e1 : putF p (r : Int) e.1 e.2 = Nm.lay p r (slotE e) := by
    unfold putF
    rw [if_pos ⟨decide_eq_true ⟨by omega, by omega⟩, hs⟩, Int.toNat_natCast]
    rfl
  rw [e1] at h
  exact h
theorem join_one {W : World} {A : Option Addr} {q : List UInt8} (h : QPageRow W A 1 [q]) (c : Nat) : Calls Tryz.prog 93 #[.slice A 1 c] W fun x w' => x = .returned (.string (strOf q)) ∧ Below W.heap.size W w' := by
  have := qjoin_any A 1 c [q] W h (by decide)
  rw [show [q].flatten = q by simp] at this
  exact this
theorem dput_old {w : World} {B : Nat} {b : Blk} {s : Sto} {n I : Int} (h : Ctx w B b s n I) (A1 : Option Addr) (n1 c1 : Nat) (A2 : Option Addr) (n2 c2 : Nat) (ps : List (List UInt8)) (hin : PagesIn w A1 n1 ps) (i j r : Nat) (hi : i = 4 * j + r) (hr : r < 4) (hj : j < n1) (hn : n1 ≤ 36) (p : List UInt8) (hp : ps[j]? = some p) (e : Ent) (hs : Nm.standB e.1 e.2 = true) :
    Calls Tryz.prog 50 #[dirV B 1, tabV A1 n1 c1 A2 n2 c2, .int .i64 (i : Int), .agg (entE e).toArray] w (Ends B b n I [] w s (Fs.writeM n I 1 ((j : Int) * 64) (Nm.lay p r (slotE e))) fun _ e _ => e = .returned (.tuple #[])) := by
  refine calls_of fun R H => ?_
  have S0 := Lib.hid (Stp.start h (by simp) H)
  have S1 := Lib.hid (put_step S0.out A1 n1 c1 A2 n2 c2 e (.cells zeroCells 97))
  have hq1 : Int.tdiv (i : Int) 4 = (j : Int) := by rw [Int.tdiv_eq_ediv_of_nonneg (by omega)]; omega
  have hq2 : Int.tmod (i : Int) 4 = (r : Int) := by rw [Int.tmod_eq_emod_of_nonneg (by omega)]; omega
  change Calls Tryz.prog _ #[dirV B 1, tabV A1 n1 c1 A2 n2 c2, .int .i64 (i : Int), .agg #[.int .i64 e.1, .string (strOf e.2)]] w _
  have hpl : p.length = 64 := hin.size p (List.mem_of_getElem? hp)
  have HSP := Lib.hid (fun W => slot_put hpl r hr hs W)
  have HQL : Hid ((Nm.lay p r (slotE e)).length = 64) := Lib.hid (Nm.lay_length hpl hr (Nm.slot_length _ (Nm.stand_bd hs).2.2))
  have HPL := Lib.hid hpl
  have HBL : Hid ((byteVals p).length = 64) := Lib.hid (by rw [byteVals_length]; exact HPL.out)
  obtain ⟨pb, poff, rfl, hpb, hpr⟩ := hin.rows.cells (by rw [List.length_map, hin.len]; omega)
  have HPG : Hid (∀ o, ((((w.alloc (.cells #[.pointer (some ⟨B, 0, none⟩), .int .i64 1] 52)).alloc (.cells #[.slice (some ⟨pb, poff, none⟩) n1 c1, .slice A2 n2 c2] 88)).alloc (.cells #[.int .i64 e.1, .string (strOf e.2)] 41)).alloc o).rangeAt pb (poff + j * 64) (byteVals p)) := Lib.hid (fun o => rangeAt_block (hpr j (byteVals p) (by rw [List.getElem?_map, hp]; rfl)) (by
    have h1 : Below w.heap.size w (w.alloc (.cells #[.pointer (some ⟨B, 0, none⟩), .int .i64 1] 52)) := below_alloc _ _
    exact (((h1.alloc h1.size _).alloc (Nat.le_trans h1.size (below_alloc _ _).size) _).alloc (Nat.le_trans h1.size (Nat.le_trans (below_alloc _ _).size (below_alloc _ _).size)) _).block pb hpb))
  have hj0 : (0 : Int) ≤ (j : Int) := by omega
  have hj1 : (j : Int) < (n1 : Int) := by omega
  have hj9 : j < 36 := by omega
  have hi9 : i < 144 := by omega
  generalize hq : Nm.lay p r (slotE e) = q at S0 S1 HSP HQL
  clear H h hj hi hr hin hp hn hpb hpr hpl hs hq
  generalize hA : (some ⟨pb, poff, none⟩ : Option Addr) = A1 at *
  go_enter Tryz.func50, Tryz.ntmps50
  subst hA
  go_wp2_with (first
    | ((with_reducible refine nwpList_load_at pageT (HPG.out _) HBL.out rfl (.tmp 20) rfl ?_ ?_); (exact rfl); rw [← zeroCells_def]; generalize hw : World.alloc _ _ = w1; have S2 : Hid (Stp R B b n I [] w (fun _ e _ => e = .returned (.tuple #[])) [(w.heap.size, dirL B 1), (w.heap.size + 1, tabL (some ⟨pb, poff, none⟩) n1 c1 A2 n2 c2), (w.heap.size + 2, entE e), (w.heap.size + 3, byteVals zeros)] s (Fs.writeM n I 1 ((j : Int) * 64) q) w1) := Lib.hid (by rw [← hw]; exact S1.out); clear hw S0 S1 HPG)
    | ((with_reducible refine wpList_store_page (S2.out.lo.page 3 rfl zeros_length) HPL.out rfl (.tmp 9) (.tmp 21) rfl rfl ?_ ?_); (exact rfl)))
  have S3 := Lib.hid (S2.out.put 3 _ rfl (byteVals p) (by rw [HBL.out]; exact (byteVals_length zeros).symm ▸ zeros_length.symm))
  generalize World.setCells _ _ _ _ = w2 at S3 ⊢
  generalize hA : (some ⟨pb, poff, none⟩ : Option Addr) = A1 at *
  have S : Hid (Stp R B b n I [] w (fun _ e _ => e = .returned (.tuple #[])) [(w.heap.size, dirL B 1), (w.heap.size + 1, tabL A1 n1 c1 A2 n2 c2), (w.heap.size + 2, entE e), (w.heap.size + 3, byteVals p)] s (Fs.writeM n I 1 ((j : Int) * 64) q) w2) := Lib.hid S3.out
  clear S2 S3
  refine wp_region_linp (PtS R B b n I w (fun _ e _ => e = .returned (.tuple #[])) [(w.heap.size, dirL B 1), (w.heap.size + 1, tabL A1 n1 c1 A2 n2 c2), (w.heap.size + 2, entE e), (w.heap.size + 3, byteVals p)] s (Fs.writeM n I 1 ((j : Int) * 64) q) q) (fun ch W => ch = [failE B] ∧ R (.panicked [failE B]) W) (fun ix => ix == 11 || ix == 12 || ix == 13) (fun ix => [.pointer (some ⟨w.heap.size, 0, none⟩), .pointer (some ⟨B, 0, none⟩), .pointer (some ⟨w.heap.size, 1, none⟩), .int .i64 1, .int .i64 (j : Int), .int .i64 ((j : Int) * 64), pageV p, .int .i64 (i : Int), .int .i64 (r : Int), .agg (entE e).toArray, pageV q].getD ix undef) (some none) (by kernel_rfl) (by kernel_rfl) (fun ch a' W hd hh => ?_) (S.out.drew) ?_
  · exact ⟨hd, by obtain ⟨rfl, hR⟩ := hh; exact hR⟩
  refine linp_step (i := 0) (d := some 22) (v := (.pointer (some ⟨w.heap.size, 0, none⟩))) rfl rfl (by kernel_rfl) (by kernel_rfl) rfl rfl (ord_value (by kernel_rfl) ?_) ?_
  · ((intro _ _ _; go_simp) <;> kernel_rfl)
  try simp only [Act.put, puA, puB, puC]
  refine linp_step (i := 1) (d := some 23) (v := (.pointer (some ⟨B, 0, none⟩))) rfl rfl (by kernel_rfl) (by kernel_rfl) rfl rfl (ord_value (by kernel_rfl) ?_) ?_
  · (intro sZ wZ hZ; have cZ := (fun k W hS => ((PtS.lo hS).get 0 _ rfl).cell 0 _ rfl) sZ wZ hZ; go_simp)
  try simp only [Act.put, puA, puB, puC]
  refine linp_step (i := 2) (d := some 24) (v := (.pointer (some ⟨w.heap.size, 1, none⟩))) rfl rfl (by kernel_rfl) (by kernel_rfl) rfl rfl (ord_value (by kernel_rfl) ?_) ?_
  · ((intro _ _ _; go_simp) <;> kernel_rfl)
  try simp only [Act.put, puA, puB, puC]
  refine linp_step (i := 3) (d := some 25) (v := (.int .i64 1)) rfl rfl (by kernel_rfl) (by kernel_rfl) rfl rfl (ord_value (by kernel_rfl) ?_) ?_
  · (intro sZ wZ hZ; have cZ := (fun k W hS => ((PtS.lo hS).get 0 _ rfl).cell 1 _ rfl) sZ wZ hZ; go_simp)
  try simp only [Act.put, puA, puB, puC]
  refine linp_step (i := 4) (d := some 26) (v := (.int .i64 (j : Int))) rfl rfl (by kernel_rfl) (by kernel_rfl) rfl rfl (ord_value (by kernel_rfl) ?_) ?_
  · ((intro _ _ _; go_simp) <;> kernel_rfl)
  try simp only [Act.put, puA, puB, puC]
  refine linp_step (i := 5) (d := some 27) (v := .int .i64 ((j : Int) * 64)) rfl rfl (by kernel_rfl) (by kernel_rfl) rfl rfl (ord_value (by kernel_rfl) ?_) ?_
  · intro _ _ _
    go_simp
    try exact IntWalk.i64_in _ (by omega)
  try simp only [Act.put, puA, puB, puC]
  refine linp_step (i := 6) (d := some 28) (v := (pageV p)) rfl rfl (by kernel_rfl) (by kernel_rfl) rfl rfl (ord_page (by kernel_rfl) (.tmp 9) rfl rfl (fun k W hS => (PtS.lo hS).page 3 rfl HPL.out)) ?_
  try simp only [Act.put, puA, puB, puC]
  refine linp_step (i := 7) (d := some 29) (v := (.int .i64 (i : Int))) rfl rfl (by kernel_rfl) (by kernel_rfl) rfl rfl (ord_value (by kernel_rfl) ?_) ?_
  · ((intro _ _ _; go_simp) <;> kernel_rfl)
  try simp only [Act.put, puA, puB, puC]
  refine linp_step (i := 8) (d := some 30) (v := .int .i64 (r : Int)) rfl rfl (by kernel_rfl) (by kernel_rfl) rfl rfl (ord_value (by kernel_rfl) ?_) ?_
  · intro _ _ _
    go_simp
    try exact IntWalk.i64_in _ (by omega)
  try simp only [Act.put, puA, puB, puC]
  refine linp_step (i := 9) (d := some 31) (v := (.agg (entE e).toArray)) rfl rfl (by kernel_rfl) (by kernel_rfl) rfl rfl (ord_mid loads_ent (by kernel_rfl) (.tmp 7) rfl rfl (fun k W hS => ((PtS.lo hS).get 2 _ rfl).range)) ?_
  try simp only [Act.put, puA, puB, puC]
  refine linp_step (i := 10) (d := some 32) (v := (pageV q)) rfl rfl (by kernel_rfl) (by kernel_rfl) rfl rfl (ord_call (f := 94) (args := #[pageV p, .int .i64 (r : Int), .agg (entE e).toArray]) (by kernel_rfl) ?_ (fun k W hS => (HSP.out W).mono fun e w' hh => ⟨hh.1, PtS.below hh.2 hS⟩)) ?_
  · (intro _; go_simp)
  try simp only [Act.put, puA, puB, puC]
  refine linp_turnD (i := 11) (d := some 33) [12, 13] (fun u k => ∃ X, u = .slice (some ⟨X, 0, none⟩) 1 1 ∧ k = some (some X)) rfl rfl (by kernel_rfl) (by kernel_rfl) rfl (by kernel_rfl) ⟨_, _, 0, rfl, rfl⟩ (by kernel_rfl) (fun W hS => gives_buildPage HQL.out (.tmp 32) rfl rfl ⟨_, ⟨_, rfl, rfl⟩, PtS.made HQL.out hS⟩) ?_
  rintro _ _ ⟨X, rfl, rfl⟩
  try simp only [Act.put, puA, puB, puC]
  refine linp_turn (i := 12) (d := some 34) (fun u k => u = .string (strOf q) ∧ k = some none) rfl rfl (by kernel_rfl) (by kernel_rfl) rfl (by kernel_rfl) ⟨_, _, rfl, rfl⟩ (by kernel_rfl) (gives_all (f := 93) (args := #[.slice (some ⟨X, 0, none⟩) 1 1]) ?_ (fun W hS => (join_one (PtS.row hS).2 1).mono fun e w' hh => Or.inl ⟨_, hh.1, some none, ⟨rfl, rfl⟩, Stp.below (PtS.row hS).1 hh.2⟩)) ?_
  · (intro _; go_simp)
  rintro _ _ ⟨rfl, rfl⟩
  try simp only [Act.put, puA, puB, puC]
  refine linp_turn (i := 13) (d := some 35) (fun u k => u = .tuple #[] ∧ k = none) rfl rfl (by kernel_rfl) (by kernel_rfl) rfl (by kernel_rfl) ⟨_, _, rfl, rfl⟩ (by kernel_rfl) (gives_all (f := 27) (args := #[.pointer (some ⟨B, 0, none⟩), .int .i64 1, .int .i64 ((j : Int) * 64), .string (strOf q)]) ?_ (fun W hS => by
    refine (swrite_step (PtS.start hS).ctx 1 ((j : Int) * 64) q (by rw [HQL.out]; decide)).mono fun e w' hE => ?_
    rcases (PtS.start hS).last hE with ⟨rfl, hR⟩ | ⟨_, s8, L8, _, rfl, S2⟩
    · exact Or.inr ⟨_, rfl, rfl, hR⟩
    · exact Or.inl ⟨_, rfl, none, ⟨rfl, rfl⟩, ⟨s8, S2⟩⟩)) ?_
  · (intro _; go_simp)
  rintro _ _ ⟨rfl, rfl⟩
  try simp only [Act.put, puA, puB, puC]
  refine linp_done (by kernel_rfl) fun W hS => ?_
  obtain ⟨s9, S9⟩ := PtS.done hS
  go_wp2_with fail
  go_end0
  exact S9.done rfl
theorem dput_new {w : World} {B : Nat} {b : Blk} {s : Sto} {n I : Int} (h : Ctx w B b s n I) (A1 : Option Addr) (n1 c1 : Nat) (A2 : Option Addr) (n2 c2 : Nat) (i j r : Nat) (hi : i = 4 * j + r) (hr : r < 4) (hj : n1 ≤ j) (hn : j ≤ 36) (e : Ent) (hs : Nm.standB e.1 e.2 = true) :
    Calls Tryz.prog 50 #[dirV B 1, tabV A1 n1 c1 A2 n2 c2, .int .i64 (i : Int), .agg (entE e).toArray] w (Ends B b n I [] w s (Fs.writeM n I 1 ((j : Int) * 64) (Nm.lay zeros r (slotE e))) fun _ e _ => e = .returned (.tuple #[])) := by
  refine calls_of fun R H => ?_
  have S0 := Lib.hid (Stp.start h (by simp) H)
  have S1 := Lib.hid (put_step S0.out A1 n1 c1 A2 n2 c2 e (.cells zeroCells 97))
  have hq1 : Int.tdiv (i : Int) 4 = (j : Int) := by rw [Int.tdiv_eq_ediv_of_nonneg (by omega)]; omega
  have hq2 : Int.tmod (i : Int) 4 = (r : Int) := by rw [Int.tmod_eq_emod_of_nonneg (by omega)]; omega
  change Calls Tryz.prog _ #[dirV B 1, tabV A1 n1 c1 A2 n2 c2, .int .i64 (i : Int), .agg #[.int .i64 e.1, .string (strOf e.2)]] w _
  have hpl : zeros.length = 64 := zeros_length
  have HSP := Lib.hid (fun W => slot_put hpl r hr hs W)
  have HQL : Hid ((Nm.lay zeros r (slotE e)).length = 64) := Lib.hid (Nm.lay_length hpl hr (Nm.slot_length _ (Nm.stand_bd hs).2.2))
  have HPL := Lib.hid hpl
  have hj1 : ¬ (j : Int) < (n1 : Int) := by omega
  have hj9 : j ≤ 36 := by omega
  have hi9 : i < 150 := by omega
  generalize hq : Nm.lay zeros r (slotE e) = q at S0 S1 HSP HQL
  clear H h hj hi hr hn hpl hs hq
  go_enter Tryz.func50, Tryz.ntmps50
  go_wp2_with fail
  rw [← zeroCells_def]
  generalize hw : World.alloc _ _ = w2
  have S3 : Hid (Stp R B b n I [] w (fun _ e _ => e = .returned (.tuple #[])) [(w.heap.size, dirL B 1), (w.heap.size + 1, tabL A1 n1 c1 A2 n2 c2), (w.heap.size + 2, entE e), (w.heap.size + 3, byteVals zeros)] s (Fs.writeM n I 1 ((j : Int) * 64) q) w2) := Lib.hid (by rw [← hw]; exact S1.out)
  clear hw S0 S1
  generalize zeros = p at S3 HPL HSP
  have S := Lib.hid S3.out
  clear S3
  refine wp_region_linp (PtS R B b n I w (fun _ e _ => e = .returned (.tuple #[])) [(w.heap.size, dirL B 1), (w.heap.size + 1, tabL A1 n1 c1 A2 n2 c2), (w.heap.size + 2, entE e), (w.heap.size + 3, byteVals p)] s (Fs.writeM n I 1 ((j : Int) * 64) q) q) (fun ch W => ch = [failE B] ∧ R (.panicked [failE B]) W) (fun ix => ix == 11 || ix == 12 || ix == 13) (fun ix => [.pointer (some ⟨w.heap.size, 0, none⟩), .pointer (some ⟨B, 0, none⟩), .pointer (some ⟨w.heap.size, 1, none⟩), .int .i64 1, .int .i64 (j : Int), .int .i64 ((j : Int) * 64), pageV p, .int .i64 (i : Int), .int .i64 (r : Int), .agg (entE e).toArray, pageV q].getD ix undef) (some none) (by kernel_rfl) (by kernel_rfl) (fun ch a' W hd hh => ?_) (S.out.drew) ?_
  · exact ⟨hd, by obtain ⟨rfl, hR⟩ := hh; exact hR⟩
  refine linp_step (i := 0) (d := some 22) (v := (.pointer (some ⟨w.heap.size, 0, none⟩))) rfl rfl (by kernel_rfl) (by kernel_rfl) rfl rfl (ord_value (by kernel_rfl) ?_) ?_
  · ((intro _ _ _; go_simp) <;> kernel_rfl)
  try simp only [Act.put, puA, puB, puC]
  refine linp_step (i := 1) (d := some 23) (v := (.pointer (some ⟨B, 0, none⟩))) rfl rfl (by kernel_rfl) (by kernel_rfl) rfl rfl (ord_value (by kernel_rfl) ?_) ?_
  · (intro sZ wZ hZ; have cZ := (fun k W hS => ((PtS.lo hS).get 0 _ rfl).cell 0 _ rfl) sZ wZ hZ; go_simp)
  try simp only [Act.put, puA, puB, puC]
  refine linp_step (i := 2) (d := some 24) (v := (.pointer (some ⟨w.heap.size, 1, none⟩))) rfl rfl (by kernel_rfl) (by kernel_rfl) rfl rfl (ord_value (by kernel_rfl) ?_) ?_
  · ((intro _ _ _; go_simp) <;> kernel_rfl)
  try simp only [Act.put, puA, puB, puC]
  refine linp_step (i := 3) (d := some 25) (v := (.int .i64 1)) rfl rfl (by kernel_rfl) (by kernel_rfl) rfl rfl (ord_value (by kernel_rfl) ?_) ?_
  · (intro sZ wZ hZ; have cZ := (fun k W hS => ((PtS.lo hS).get 0 _ rfl).cell 1 _ rfl) sZ wZ hZ; go_simp)
  try simp only [Act.put, puA, puB, puC]
  refine linp_step (i := 4) (d := some 26) (v := (.int .i64 (j : Int))) rfl rfl (by kernel_rfl) (by kernel_rfl) rfl rfl (ord_value (by kernel_rfl) ?_) ?_
  · ((intro _ _ _; go_simp) <;> kernel_rfl)
  try simp only [Act.put, puA, puB, puC]
  refine linp_step (i := 5) (d := some 27) (v := .int .i64 ((j : Int) * 64)) rfl rfl (by kernel_rfl) (by kernel_rfl) rfl rfl (ord_value (by kernel_rfl) ?_) ?_
  · intro _ _ _
    go_simp
    try exact IntWalk.i64_in _ (by omega)
  try simp only [Act.put, puA, puB, puC]
  refine linp_step (i := 6) (d := some 28) (v := (pageV p)) rfl rfl (by kernel_rfl) (by kernel_rfl) rfl rfl (ord_page (by kernel_rfl) (.tmp 9) rfl rfl (fun k W hS => (PtS.lo hS).page 3 rfl HPL.out)) ?_
  try simp only [Act.put, puA, puB, puC]
  refine linp_step (i := 7) (d := some 29) (v := (.int .i64 (i : Int))) rfl rfl (by kernel_rfl) (by kernel_rfl) rfl rfl (ord_value (by kernel_rfl) ?_) ?_
  · ((intro _ _ _; go_simp) <;> kernel_rfl)
  try simp only [Act.put, puA, puB, puC]
  refine linp_step (i := 8) (d := some 30) (v := .int .i64 (r : Int)) rfl rfl (by kernel_rfl) (by kernel_rfl) rfl rfl (ord_value (by kernel_rfl) ?_) ?_
  · intro _ _ _
    go_simp
    try exact IntWalk.i64_in _ (by omega)
  try simp only [Act.put, puA, puB, puC]
  refine linp_step (i := 9) (d := some 31) (v := (.agg (entE e).toArray)) rfl rfl (by kernel_rfl) (by kernel_rfl) rfl rfl (ord_mid loads_ent (by kernel_rfl) (.tmp 7) rfl rfl (fun k W hS => ((PtS.lo hS).get 2 _ rfl).range)) ?_
  try simp only [Act.put, puA, puB, puC]
  refine linp_step (i := 10) (d := some 32) (v := (pageV q)) rfl rfl (by kernel_rfl) (by kernel_rfl) rfl rfl (ord_call (f := 94) (args := #[pageV p, .int .i64 (r : Int), .agg (entE e).toArray]) (by kernel_rfl) ?_ (fun k W hS => (HSP.out W).mono fun e w' hh => ⟨hh.1, PtS.below hh.2 hS⟩)) ?_
  · (intro _; go_simp)
  try simp only [Act.put, puA, puB, puC]
  refine linp_turnD (i := 11) (d := some 33) [12, 13] (fun u k => ∃ X, u = .slice (some ⟨X, 0, none⟩) 1 1 ∧ k = some (some X)) rfl rfl (by kernel_rfl) (by kernel_rfl) rfl (by kernel_rfl) ⟨_, _, 0, rfl, rfl⟩ (by kernel_rfl) (fun W hS => gives_buildPage HQL.out (.tmp 32) rfl rfl ⟨_, ⟨_, rfl, rfl⟩, PtS.made HQL.out hS⟩) ?_
  rintro _ _ ⟨X, rfl, rfl⟩
  try simp only [Act.put, puA, puB, puC]
  refine linp_turn (i := 12) (d := some 34) (fun u k => u = .string (strOf q) ∧ k = some none) rfl rfl (by kernel_rfl) (by kernel_rfl) rfl (by kernel_rfl) ⟨_, _, rfl, rfl⟩ (by kernel_rfl) (gives_all (f := 93) (args := #[.slice (some ⟨X, 0, none⟩) 1 1]) ?_ (fun W hS => (join_one (PtS.row hS).2 1).mono fun e w' hh => Or.inl ⟨_, hh.1, some none, ⟨rfl, rfl⟩, Stp.below (PtS.row hS).1 hh.2⟩)) ?_
  · (intro _; go_simp)
  rintro _ _ ⟨rfl, rfl⟩
  try simp only [Act.put, puA, puB, puC]
  refine linp_turn (i := 13) (d := some 35) (fun u k => u = .tuple #[] ∧ k = none) rfl rfl (by kernel_rfl) (by kernel_rfl) rfl (by kernel_rfl) ⟨_, _, rfl, rfl⟩ (by kernel_rfl) (gives_all (f := 27) (args := #[.pointer (some ⟨B, 0, none⟩), .int .i64 1, .int .i64 ((j : Int) * 64), .string (strOf q)]) ?_ (fun W hS => by
    refine (swrite_step (PtS.start hS).ctx 1 ((j : Int) * 64) q (by rw [HQL.out]; decide)).mono fun e w' hE => ?_
    rcases (PtS.start hS).last hE with ⟨rfl, hR⟩ | ⟨_, s8, L8, _, rfl, S2⟩
    · exact Or.inr ⟨_, rfl, rfl, hR⟩
    · exact Or.inl ⟨_, rfl, none, ⟨rfl, rfl⟩, ⟨s8, S2⟩⟩)) ?_
  · (intro _; go_simp)
  rintro _ _ ⟨rfl, rfl⟩
  try simp only [Act.put, puA, puB, puC]
  refine linp_done (by kernel_rfl) fun W hS => ?_
  obtain ⟨s9, S9⟩ := PtS.done hS
  go_wp2_with fail
  go_end0
  exact S9.done rfl
end

section
open Go.RowKit Go.Maps
open Dk (zeros zeros_length)
open Ii (Ino)
open Dm (Ent Has)
open Fs (flat)
def pageF (E : List Ent) (F : List UInt8) (j : Nat) : List UInt8 := if j < E.length / 4 then (F.drop (64 * j)).take 64 else zeros
def putM (n I : Int) (E : List Ent) (F : List UInt8) (i : Nat) (e : Ent) : Fs.M Unit := Fs.writeM n I 1 (((i / 4 : Nat) : Int) * 64) (Nm.lay (pageF E F (i / 4)) (i % 4) (slotE e))
theorem dput_tab {wt W : World} {B : Nat} {b : Blk} {s : Sto} {n I : Int} {A1 A2 : Option Addr} {c1 c2 : Nat} {E : List Ent} {F : List UInt8} (h : Ctx W B b s n I) (T : TabAt wt W A1 A2 c2 (pagesE E F) E) (h4 : E.length % 4 = 0) (hE : E.length ≤ 144) (i : Nat) (hi : i ≤ E.length) (e : Ent) (hs : Nm.standB e.1 e.2 = true) :
    Calls Tryz.prog 50 #[dirV B 1, tabV A1 (E.length / 4) c1 A2 E.length c2, .int .i64 (i : Int), .agg (entE e).toArray] W (Ends B b n I [] W s (putM n I E F i e) fun _ e _ => e = .returned (.tuple #[])) := by
  unfold putM pageF
  have hin := T.pages
  rw [pagesE_length] at hin
  by_cases c : i / 4 < E.length / 4
  · rw [if_pos c]
    exact dput_old h A1 (E.length / 4) c1 A2 E.length c2 _ hin i (i / 4) (i % 4) (by omega) (by omega) c (by omega) _ (pagesE_at (i / 4) (by omega) h4) e hs
  · rw [if_neg c]
    exact dput_new h A1 (E.length / 4) c1 A2 E.length c2 i (i / 4) (i % 4) (by omega) (by omega) (by omega) (by omega) e hs
theorem spot_lt {E : List Ent} {s : List UInt8} {i : Nat} (h : Dm.spot E s = some i) : i < E.length := (List.findIdx?_eq_some_iff_getElem.1 h).1
theorem room_le {E : List Ent} : ∃ i : Nat, roomI E.length (Dm.room E) = (i : Int) ∧ i ≤ E.length ∧ i = (Dm.room E).getD E.length := by
  cases h : Dm.room E with
  | none => exact ⟨E.length, rfl, Nat.le_refl _, rfl⟩
  | some i => exact ⟨i, rfl, Nat.le_of_lt (List.findIdx?_eq_some_iff_getElem.1 h).1, rfl⟩
def AdS (R : Ending → World → Prop) (B : Nat) (b : Blk) (n I : Int) (w0 : World) (K : Unit → Ending → World → Prop) (l : List (Nat × List Value)) (s : Sto) (m : Fs.M Unit) (wt : World) (A1 A2 : Option Addr) (c2 : Nat) (ps : List (List UInt8)) (E : List Ent) : Bool → World → Prop
  | true, W => ∃ s', Stp R B b n I [] w0 K l s' (Fs.ret ()) W
  | false, W => Stp R B b n I [] w0 K l s m W ∧ TabAt wt W A1 A2 c2 ps E
section
variable {R : Ending → World → Prop} {B : Nat} {b : Blk} {n I : Int} {w0 wt : World} {K : Unit → Ending → World → Prop} {l : List (Nat × List Value)} {s : Sto} {m : Fs.M Unit} {A1 A2 : Option Addr} {c2 : Nat} {ps : List (List UInt8)} {E : List Ent} {W W' : World}
theorem AdS.lo : ∀ {k : Bool}, AdS R B b n I w0 K l s m wt A1 A2 c2 ps E k W → Lo [b.t] w0 l W
  | true, ⟨_, h⟩ => Stp.lo h
  | false, ⟨h, _⟩ => Stp.lo h
theorem AdS.start (h : AdS R B b n I w0 K l s m wt A1 A2 c2 ps E false W) : Stp R B b n I [] w0 K l s m W ∧ TabAt wt W A1 A2 c2 ps E := h
theorem AdS.done (h : AdS R B b n I w0 K l s m wt A1 A2 c2 ps E true W) : ∃ s', Stp R B b n I [] w0 K l s' (Fs.ret ()) W := h
end
theorem loads_dir {X o : Nat} {B : Nat} {i : Int} (w : World) (h : w.rangeAt X o (dirL B i)) : (loadVar 52 ⟨X, o, none⟩).run Tryz.prog w = .ok (.agg (dirL B i).toArray) w :=
  run_loadVar_mid (P := Tryz.prog) w X o 52 (dirL B i) _ h Tryz.underlying52 rfl (by kernel_rfl)
theorem loads_tab {X o : Nat} {A1 : Option Addr} {n1 c1 : Nat} {A2 : Option Addr} {n2 c2 : Nat} (w : World) (h : w.rangeAt X o (tabL A1 n1 c1 A2 n2 c2)) : (loadVar 88 ⟨X, o, none⟩).run Tryz.prog w = .ok (.agg (tabL A1 n1 c1 A2 n2 c2).toArray) w :=
  run_loadVar_mid (P := Tryz.prog) w X o 88 (tabL A1 n1 c1 A2 n2 c2) _ h Tryz.underlying88 rfl (by kernel_rfl)
theorem dir_one (w : World) (B : Nat) : Lo [] w [(w.heap.size, dirL B 1)] (w.alloc (.cells #[.pointer (some ⟨B, 0, none⟩), .int .i64 1] 52)) :=
  (Lo.start (L := []) w (by simp)).alloc _ rfl (dirL B 1) _
theorem fail_lo {w W : World} {B : Nat} {b : Blk} {s : Sto} {n I : Int} (h : Ctx w B b s n I) {l : List (Nat × List Value)} (hl : Lo [] w l W) (er : Int) (h0 : er ≠ 0) : Calls Tryz.prog 46 #[.pointer (some ⟨B, 0, none⟩), .int .i64 er] W fun e w' => e = .panicked [failE B] ∧ Broke w' B b s n I er ∧ Only [B] w w' :=
  (fail_any (Lo.ctx (L := []) hl h) er h0).mono fun _e _w' hh => ⟨hh.1, hh.2.1, (show Only [B] w W from Only.below hl.bel).via hh.2.2 (fun _i hi => Or.inl hi)⟩
section
variable {w : World} {B : Nat} {b : Blk} {s : Sto} {n I : Int} {x : Ino} {u : Nat} {P : Nat → List UInt8} {E : List Ent} {H : Has}
theorem dadd_wrong (h : Ctx w B b s n I) (t : List UInt8) (i : Int) (hm : (strOf t).size ≤ maxLen) (hw : wrongF t i ≠ 0) :
    Calls Tryz.prog 19 #[dirV B 1, .string (strOf t), .int .i64 i] w fun e w' => e = .panicked [failE B] ∧ Broke w' B b s n I (wrongF t i) ∧ Only [B] w w' := by
  have S := Lib.hid (dir_one w B)
  have HW := Lib.hid (fun W => wrong_any t i W hm)
  have HF := Lib.hid (fun W l (hl : Lo [] w l W) => fail_lo h hl (wrongF t i) hw)
  have g0 : (wrongF t i != 0) = true := by simpa using hw
  generalize wrongF t i = er at HW HF g0 ⊢
  clear h hm hw
  go_enter Tryz.func19, Tryz.ntmps19
  go_wp2_with (first
    | (go_at_call 47; refine (HW.out _).mono ?_; rintro e w1 ⟨rfl, hb⟩; replace S := Lib.hid (S.out.below hb); have c0 := (S.out.get 0 _ rfl).cell 0 _ rfl; clear hb)
    | (go_at_call 46; refine (HF.out _ _ S.out).mono ?_; rintro e w2 ⟨rfl, hR⟩))
  exact ⟨rfl, rfl, hR⟩
theorem dadd_there (h : Ctx w B b s n I) (hd : Dm.Dr n I (nv s) x u P E H) (t : List UInt8) (i : Int) (hm : (strOf t).size ≤ maxLen) (hw : wrongF t i = 0) {k : Nat} (hk : Dm.spot E t = some k) :
    Calls Tryz.prog 19 #[dirV B 1, .string (strOf t), .int .i64 i] w fun e w' => e = .panicked [failE B] ∧ Broke w' B b s n I 17 ∧ Only [B] w w' := by
  have S := Lib.hid (dir_one w B)
  have HW := Lib.hid (fun W => wrong_any t i W hm)
  rw [hw] at HW
  have HF := Lib.hid (fun W l (hl : Lo [] w l W) => fail_lo h hl 17 (by decide))
  have HT := Lib.hid (fun W l (hl : Lo [] w l W) => tab_any (Lo.ctx (L := []) hl h) hd)
  have hfew := hd.few
  have HFD : Hid (∀ A1 c1 A2 c2 W, EntRow W A2 E.length E → Calls Tryz.prog 49 #[tabV A1 (E.length / 4) c1 A2 E.length c2, .string (strOf t)] W fun e w' => e = .returned (.int .i64 (k : Int)) ∧ Below W.heap.size W w') := Lib.hid (fun A1 c1 A2 c2 W hr => by
    have := find_any A1 (E.length / 4) c1 A2 E.length c2 t E W hr (by omega) hd.ok.st
    rw [hk] at this
    exact this)
  have g0 : (0 : Int) ≤ (k : Int) := by omega
  clear h hm hw hd hk hfew
  generalize pagesE E (flat P 36) = ps at HT
  obtain ⟨m, hmm⟩ : ∃ m, E.length / 4 = m := ⟨_, rfl⟩
  rw [hmm] at HT HFD
  clear hmm
  go_enter Tryz.func19, Tryz.ntmps19
  go_wp2_with (first
    | (go_at_call 47; refine (HW.out _).mono ?_; rintro e w1 ⟨rfl, hb⟩; replace S := Lib.hid (S.out.below hb); clear hb)
    | (with_reducible refine wpList_load_rw dirT (S.out.get 0 _ rfl) rfl rfl (.tmp 3) rfl rfl ?_)
    | (go_at_call 48; refine (HT.out _ _ S.out).mono ?_; rintro e w2 ⟨A1, c1, A2, c2, rfl, hT, hb⟩; replace S := Lib.hid (S.out.below hb); have T := Lib.hid hT; clear hT hb)
    | ((with_reducible refine wpList_store_newrow (vs := tabL A1 m c1 A2 E.length c2) tabT ?_ (tabL_one _ _ _ _ _ _) rfl (.tmp 7) (.tmp 18) rfl rfl ?_ ?_ ?_); (exact rfl); (exact rfl); (exact rfl); intro W4 hP hB2 hz2; replace S := Lib.hid (S.out.made hP hB2 hz2); replace T := Lib.hid (T.out.below hB2); have c0 := (S.out.get 0 _ rfl).cell 0 _ rfl; clear hP hB2 hz2)
    | (with_reducible refine wpList_load_rw tabT (S.out.get 1 _ rfl) rfl rfl (.tmp 7) rfl rfl ?_)
    | (go_at_call 49; refine (HFD.out _ _ _ _ _ T.out.row).mono ?_; rintro e w3 ⟨rfl, hb⟩; clear c0; replace S := Lib.hid (S.out.below hb); have c0 := (S.out.get 0 _ rfl).cell 0 _ rfl; clear hb)
    | (go_at_call 46; refine (HF.out _ _ S.out).mono ?_; rintro e w4 ⟨rfl, hR⟩))
  exact ⟨rfl, rfl, hR⟩
theorem dadd_ok (h : Ctx w B b s n I) (hd : Dm.Dr n I (nv s) x u P E H) (t : List UInt8) (i : Int) (hm : (strOf t).size ≤ maxLen) (hw : wrongF t i = 0) (hr : Nm.rightB i t = true) (hk : Dm.spot E t = none) (a : Nat) (ha : roomI E.length (Dm.room E) = (a : Int)) (hal : a ≤ E.length) :
    Calls Tryz.prog 19 #[dirV B 1, .string (strOf t), .int .i64 i] w (Ends B b n I [] w s (putM n I E (flat P 36) a (i, t)) fun _ e _ => e = .returned (.tuple #[])) := by
  refine calls_of fun R H => ?_
  have S0 := Lib.hid (Stp.start h (by simp) H)
  have S := Lib.hid (S0.out.alloc w.heap.size rfl (dirL B 1) 52)
  have HW := Lib.hid (fun W => wrong_any t i W hm)
  rw [hw] at HW
  have HT := Lib.hid (fun W (hc : Ctx W B b s n I) => tab_any hc hd)
  have hfew := hd.few
  have hst := hd.ok.st
  have h4 := hd.ok.four
  have hse : Nm.standB (i, t).1 (i, t).2 = true := (Dm.used_right hr).2
  have HFD : Hid (∀ A1 c1 A2 c2 W, EntRow W A2 E.length E → Calls Tryz.prog 49 #[tabV A1 (E.length / 4) c1 A2 E.length c2, .string (strOf t)] W fun e w' => e = .returned (.int .i64 (-1)) ∧ Below W.heap.size W w') := Lib.hid (fun A1 c1 A2 c2 W hr => by
    have := find_any A1 (E.length / 4) c1 A2 E.length c2 t E W hr (by omega) hst
    rw [hk] at this
    exact this)
  have HRM : Hid (∀ A1 c1 A2 c2 W, EntRow W A2 E.length E → Calls Tryz.prog 51 #[.agg (tabL A1 (E.length / 4) c1 A2 E.length c2).toArray] W fun e w' => e = .returned (.int .i64 (a : Int)) ∧ Below W.heap.size W w') := Lib.hid (fun A1 c1 A2 c2 W hr => by
    have := room_any A1 (E.length / 4) c1 A2 E.length c2 E W hr (by omega) hst
    rw [ha] at this
    exact this)
  have HPT : Hid (∀ wt A1 c1 A2 c2 W, Ctx W B b s n I → TabAt wt W A1 A2 c2 (pagesE E (flat P 36)) E → Calls Tryz.prog 50 #[.agg (dirL B 1).toArray, .agg (tabL A1 (E.length / 4) c1 A2 E.length c2).toArray, .int .i64 (a : Int), .agg #[.int .i64 i, .string (strOf t)]] W (Ends B b n I [] W s (putM n I E (flat P 36) a (i, t)) fun _ e _ => e = .returned (.tuple #[]))) := Lib.hid (fun wt A1 c1 A2 c2 W hc hT => dput_tab hc hT h4 hfew a hal (i, t) hse)
  clear h hm hw hd hk hfew hst h4 hse ha hal hr H S0
  generalize putM n I E (flat P 36) a (i, t) = m0 at S HPT
  generalize pagesE E (flat P 36) = ps at HT HPT
  obtain ⟨m, hmm⟩ : ∃ m, E.length / 4 = m := ⟨_, rfl⟩
  rw [hmm] at HT HFD HRM HPT
  clear hmm
  go_enter Tryz.func19, Tryz.ntmps19
  go_wp2_with (first
    | (go_at_call 47; refine (HW.out _).mono ?_; rintro e w1 ⟨rfl, hb⟩; replace S := Lib.hid (S.out.below hb); clear hb)
    | (with_reducible refine wpList_load_rw dirT (S.out.get 0 _ rfl) rfl rfl (.tmp 3) rfl rfl ?_)
    | (go_at_call 48; refine (HT.out _ S.out.ctx).mono ?_; rintro e w2 ⟨A1, c1, A2, c2, rfl, hT, hb⟩; replace S := Lib.hid (S.out.below hb); have T := Lib.hid hT; clear hT hb)
    | ((with_reducible refine wpList_store_newrow (vs := tabL A1 m c1 A2 E.length c2) tabT ?_ (tabL_one _ _ _ _ _ _) rfl (.tmp 7) (.tmp 18) rfl rfl ?_ ?_ ?_); (exact rfl); (exact rfl); (exact rfl); intro W4 hP hB2 hz2; replace S := Lib.hid (S.out.made hP hB2 hz2); replace T := Lib.hid (T.out.below hB2); clear hP hB2 hz2)
    | (with_reducible refine wpList_load_rw tabT (S.out.get 1 _ rfl) rfl rfl (.tmp 7) rfl rfl ?_)
    | (go_at_call 49; refine (HFD.out _ _ _ _ _ T.out.row).mono ?_; rintro e w3 ⟨rfl, hb⟩; have HX := Lib.hid (S.out.get 1 _ rfl); replace S := Lib.hid (S.out.below hb); replace T := Lib.hid (T.out.below hb); clear hb HX))
  refine wp_region_linp (AdS R B b n I w (fun _ e _ => e = .returned (.tuple #[])) [(w.heap.size, dirL B 1), (w2.heap.size, tabL A1 m c1 A2 E.length c2)] s m0 w1 A1 A2 c2 ps E) (fun ch W => ch = [failE B] ∧ R (.panicked [failE B]) W) (fun ix => ix == 7 || ix == 3) (fun ix => [.agg (dirL B 1).toArray, .agg (tabL A1 m c1 A2 E.length c2).toArray, .agg (tabL A1 m c1 A2 E.length c2).toArray, .int .i64 (a : Int), .int .i64 i, .string (strOf t), .agg #[.int .i64 i, .string (strOf t)]].getD ix undef) false (by kernel_rfl) (by kernel_rfl) (fun ch a' W hd hh => ?_) ⟨S.out.drew, T.out.below ((Below.refl _ _).drew)⟩ ?_
  · exact ⟨hd, by obtain ⟨rfl, hR⟩ := hh; exact hR⟩
  refine linp_step (i := 0) (d := some 26) (v := (.agg (dirL B 1).toArray)) rfl rfl (by kernel_rfl) (by kernel_rfl) rfl rfl (ord_mid loads_dir (by kernel_rfl) (.tmp 3) rfl rfl (fun k W hS => ((AdS.lo hS).get 0 _ rfl).range)) ?_
  try simp only [Act.put, puA, puB, puC]
  refine linp_step (i := 1) (d := some 27) (v := (.agg (tabL A1 m c1 A2 E.length c2).toArray)) rfl rfl (by kernel_rfl) (by kernel_rfl) rfl rfl (ord_mid loads_tab (by kernel_rfl) (.tmp 7) rfl rfl (fun k W hS => ((AdS.lo hS).get 1 _ rfl).range)) ?_
  try simp only [Act.put, puA, puB, puC]
  refine linp_step (i := 2) (d := some 28) (v := (.agg (tabL A1 m c1 A2 E.length c2).toArray)) rfl rfl (by kernel_rfl) (by kernel_rfl) rfl rfl (ord_mid loads_tab (by kernel_rfl) (.tmp 7) rfl rfl (fun k W hS => ((AdS.lo hS).get 1 _ rfl).range)) ?_
  try simp only [Act.put, puA, puB, puC]
  refine linp_step (i := 4) (d := some 30) (v := (.int .i64 i)) rfl rfl (by kernel_rfl) (by kernel_rfl) rfl rfl (ord_value (by kernel_rfl) ?_) ?_
  · ((intro _ _ _; go_simp) <;> kernel_rfl)
  try simp only [Act.put, puA, puB, puC]
  refine linp_step (i := 5) (d := some 31) (v := (.string (strOf t))) rfl rfl (by kernel_rfl) (by kernel_rfl) rfl rfl (ord_value (by kernel_rfl) ?_) ?_
  · ((intro _ _ _; go_simp) <;> kernel_rfl)
  try simp only [Act.put, puA, puB, puC]
  refine linp_step (i := 6) (d := some 32) (v := (.agg #[.int .i64 i, .string (strOf t)])) rfl rfl (by kernel_rfl) (by kernel_rfl) rfl rfl (ord_value (by kernel_rfl) ?_) ?_
  · ((intro _ _ _; go_simp) <;> kernel_rfl)
  try simp only [Act.put, puA, puB, puC]
  refine linp_turn (i := 3) (d := some 29) (fun u k => u = .int .i64 (a : Int) ∧ k = false) rfl rfl (by kernel_rfl) (by kernel_rfl) rfl (by kernel_rfl) ⟨_, _, rfl, rfl⟩ (by kernel_rfl) (gives_all (f := 51) (args := #[.agg (tabL A1 m c1 A2 E.length c2).toArray]) ?_ (fun W hS => (HRM.out _ _ _ _ _ (AdS.start hS).2.row).mono fun e w' hh => Or.inl ⟨_, hh.1, false, ⟨rfl, rfl⟩, Stp.below (AdS.start hS).1 hh.2, (AdS.start hS).2.below hh.2⟩)) ?_
  · (intro _; go_simp)
  rintro _ _ ⟨rfl, rfl⟩
  try simp only [Act.put, puA, puB, puC]
  refine linp_turn (i := 7) (d := some 33) (fun u k => u = .tuple #[] ∧ k = true) rfl rfl (by kernel_rfl) (by kernel_rfl) rfl (by kernel_rfl) ⟨_, _, rfl, rfl⟩ (by kernel_rfl) (gives_all (f := 50) (args := #[.agg (dirL B 1).toArray, .agg (tabL A1 m c1 A2 E.length c2).toArray, .int .i64 (a : Int), .agg #[.int .i64 i, .string (strOf t)]]) ?_ (fun W hS => by
    refine (HPT.out _ _ _ _ _ _ (AdS.start hS).1.ctx (AdS.start hS).2).mono fun e w' hE => ?_
    rcases (AdS.start hS).1.last hE with ⟨rfl, hR⟩ | ⟨_, s8, L8, _, rfl, S2⟩
    · exact Or.inr ⟨_, rfl, rfl, hR⟩
    · exact Or.inl ⟨_, rfl, true, ⟨rfl, rfl⟩, ⟨s8, S2⟩⟩)) ?_
  · (intro _; go_simp)
  rintro _ _ ⟨rfl, rfl⟩
  try simp only [Act.put, puA, puB, puC]
  refine linp_done (by kernel_rfl) fun W hS => ?_
  obtain ⟨s9, S9⟩ := AdS.done hS
  go_wp2_with fail
  go_end0
  exact S9.done rfl
end
end

section
open Go.RowKit Go.Maps
open Dk (zeros zeros_length)
open Ii (Ino)
open Dm (Ent Has)
open Fs (flat)
section
variable {w : World} {B : Nat} {b : Blk} {s : Sto} {n I : Int} {x : Ino} {u : Nat} {P : Nat → List UInt8} {E : List Ent} {H : Has}
theorem drem_none (h : Ctx w B b s n I) (hd : Dm.Dr n I (nv s) x u P E H) (t : List UInt8) (hk : Dm.spot E t = none) :
    Calls Tryz.prog 20 #[dirV B 1, .string (strOf t)] w fun e w' => e = .panicked [failE B] ∧ Broke w' B b s n I 2 ∧ Only [B] w w' := by
  have S := Lib.hid (dir_one w B)
  have HF := Lib.hid (fun W l (hl : Lo [] w l W) => fail_lo h hl 2 (by decide))
  have HT := Lib.hid (fun W l (hl : Lo [] w l W) => tab_any (Lo.ctx (L := []) hl h) hd)
  have hfew := hd.few
  have HFD : Hid (∀ A1 c1 A2 c2 W, EntRow W A2 E.length E → Calls Tryz.prog 49 #[tabV A1 (E.length / 4) c1 A2 E.length c2, .string (strOf t)] W fun e w' => e = .returned (.int .i64 (-1)) ∧ Below W.heap.size W w') := Lib.hid (fun A1 c1 A2 c2 W hr => by
    have := find_any A1 (E.length / 4) c1 A2 E.length c2 t E W hr (by omega) hd.ok.st
    rw [hk] at this
    exact this)
  clear h hd hk hfew
  generalize pagesE E (flat P 36) = ps at HT
  obtain ⟨m, hmm⟩ : ∃ m, E.length / 4 = m := ⟨_, rfl⟩
  rw [hmm] at HT HFD
  clear hmm
  go_enter Tryz.func20, Tryz.ntmps20
  go_wp2_with (first
    | (with_reducible refine wpList_load_rw dirT (S.out.get 0 _ rfl) rfl rfl (.tmp 2) rfl rfl ?_)
    | (go_at_call 48; refine (HT.out _ _ S.out).mono ?_; rintro e w2 ⟨A1, c1, A2, c2, rfl, hT, hb⟩; replace S := Lib.hid (S.out.below hb); have T := Lib.hid hT; clear hT hb)
    | ((with_reducible refine wpList_store_newrow (vs := tabL A1 m c1 A2 E.length c2) tabT ?_ (tabL_one _ _ _ _ _ _) rfl (.tmp 4) (.tmp 7) rfl rfl ?_ ?_ ?_); (exact rfl); (exact rfl); (exact rfl); intro W4 hP hB2 hz2; replace S := Lib.hid (S.out.made hP hB2 hz2); replace T := Lib.hid (T.out.below hB2); have c0 := (S.out.get 0 _ rfl).cell 0 _ rfl; clear hP hB2 hz2)
    | (with_reducible refine wpList_load_rw tabT (S.out.get 1 _ rfl) rfl rfl (.tmp 4) rfl rfl ?_)
    | (go_at_call 49; refine (HFD.out _ _ _ _ _ T.out.row).mono ?_; rintro e w3 ⟨rfl, hb⟩; clear c0; replace S := Lib.hid (S.out.below hb); have c0 := (S.out.get 0 _ rfl).cell 0 _ rfl; clear hb)
    | (go_at_call 46; refine (HF.out _ _ S.out).mono ?_; rintro e w4 ⟨rfl, hR⟩))
  exact ⟨rfl, rfl, hR⟩
theorem drem_ok (h : Ctx w B b s n I) (hd : Dm.Dr n I (nv s) x u P E H) (t : List UInt8) (a : Nat) (hk : Dm.spot E t = some a) :
    Calls Tryz.prog 20 #[dirV B 1, .string (strOf t)] w (Ends B b n I [] w s (putM n I E (flat P 36) a (0, [])) fun _ e _ => e = .returned (.tuple #[])) := by
  refine calls_of fun R H => ?_
  have S0 := Lib.hid (Stp.start h (by simp) H)
  have S := Lib.hid (S0.out.alloc w.heap.size rfl (dirL B 1) 52)
  have HT := Lib.hid (fun W (hc : Ctx W B b s n I) => tab_any hc hd)
  have hfew := hd.few
  have hst := hd.ok.st
  have h4 := hd.ok.four
  have hal := spot_lt hk
  have hse : Nm.standB ((0, []) : Ent).1 ((0, []) : Ent).2 = true := rfl
  have HFD : Hid (∀ A1 c1 A2 c2 W, EntRow W A2 E.length E → Calls Tryz.prog 49 #[tabV A1 (E.length / 4) c1 A2 E.length c2, .string (strOf t)] W fun e w' => e = .returned (.int .i64 (a : Int)) ∧ Below W.heap.size W w') := Lib.hid (fun A1 c1 A2 c2 W hr => by
    have := find_any A1 (E.length / 4) c1 A2 E.length c2 t E W hr (by omega) hst
    rw [hk] at this
    exact this)
  have HPT : Hid (∀ wt A1 c1 A2 c2 W, Ctx W B b s n I → TabAt wt W A1 A2 c2 (pagesE E (flat P 36)) E → Calls Tryz.prog 50 #[.agg (dirL B 1).toArray, .agg (tabL A1 (E.length / 4) c1 A2 E.length c2).toArray, .int .i64 (a : Int), .agg #[.int .i64 0, .string ⟨#[]⟩]] W (Ends B b n I [] W s (putM n I E (flat P 36) a (0, [])) fun _ e _ => e = .returned (.tuple #[]))) := Lib.hid (fun wt A1 c1 A2 c2 W hc hT => dput_tab hc hT h4 hfew a (Nat.le_of_lt hal) (0, []) hse)
  have ga : ¬ (a : Int) < 0 := by omega
  clear h hd hk hfew hst h4 hse hal H S0
  generalize putM n I E (flat P 36) a (0, []) = m0 at S HPT
  generalize pagesE E (flat P 36) = ps at HT HPT
  obtain ⟨m, hmm⟩ : ∃ m, E.length / 4 = m := ⟨_, rfl⟩
  rw [hmm] at HT HFD HPT
  clear hmm
  go_enter Tryz.func20, Tryz.ntmps20
  go_wp2_with (first
    | (with_reducible refine wpList_load_rw dirT (S.out.get 0 _ rfl) rfl rfl (.tmp 2) rfl rfl ?_)
    | (go_at_call 48; refine (HT.out _ S.out.ctx).mono ?_; rintro e w2 ⟨A1, c1, A2, c2, rfl, hT, hb⟩; replace S := Lib.hid (S.out.below hb); have T := Lib.hid hT; clear hT hb)
    | ((with_reducible refine wpList_store_newrow (vs := tabL A1 m c1 A2 E.length c2) tabT ?_ (tabL_one _ _ _ _ _ _) rfl (.tmp 4) (.tmp 7) rfl rfl ?_ ?_ ?_); (exact rfl); (exact rfl); (exact rfl); intro W4 hP hB2 hz2; replace S := Lib.hid (S.out.made hP hB2 hz2); replace T := Lib.hid (T.out.below hB2); clear hP hB2 hz2)
    | (with_reducible refine wpList_load_rw tabT (S.out.get 1 _ rfl) rfl rfl (.tmp 4) rfl rfl ?_)
    | (go_at_call 49; refine (HFD.out _ _ _ _ _ T.out.row).mono ?_; rintro e w3 ⟨rfl, hb⟩; replace S := Lib.hid (S.out.below hb); replace T := Lib.hid (T.out.below hb); clear hb)
    | (go_at_call 50; refine (HPT.out _ _ _ _ _ _ S.out.ctx T.out).mono ?_; intro e w8 hE; rcases S.out.last hE with ⟨rfl, hR⟩ | ⟨_, s8, L8, _, rfl, S2⟩; (exact ⟨rfl, hR⟩); clear hE; have S9 := Lib.hid S2; clear S2 S T))
  go_end0
  exact S9.out.done rfl
end
end

section
open Go.RowKit Go.Maps
open Dk (zeros zeros_length)
open Ii (Ino)
open Dm (Ent Has)
open Fs (flat View)
def slotI (k : Int) (t : List UInt8) (E : List Ent) : Nat := if k = 0 then (Dm.room E).getD E.length else (Dm.spot E t).getD 0
def entI (k : Int) (t : List UInt8) (i : Int) : Ent := if k = 2 then (0, []) else (i, t)
def dopM (n I : Int) (E : List Ent) (H : Has) (F : List UInt8) (k : Int) (t : List UInt8) (i : Int) : Fs.M Unit :=
  if Dm.want k t H = 0 then putM n I E F (slotI k t E) (entI k t i) else Fs.fail (Dm.want k t H)
theorem lay_fresh (e : Ent) (hs : Nm.standB e.1 e.2 = true) : Nm.lay zeros 0 (slotE e) = Dm.fresh e.1 e.2 := by
  have hl : (slotE e).length = 16 := Nm.slot_length _ (Nm.stand_bd hs).2.2
  unfold Nm.lay Pg.over Dm.fresh
  rw [Nat.mul_zero, List.take_zero, List.nil_append, hl]
  rfl
section
variable {n I : Int} {V : View} {x : Ino} {u : Nat} {P : Nat → List UInt8} {E : List Ent} {H H' : Has}
theorem Dm.Dr.putOld (h : Dm.Dr n I V x u P E H) (hroom : Pl.dataN I + (u : Int) + 2 ≤ n) (i : Nat) (hi : i < E.length) (e : Ent) (hs : Nm.standB e.1 e.2 = true) (hok : Dm.Ok (E.set i e) H') :
    ∃ W L y u' P', putM n I E (flat P 36) i e V = (.ok (), W, L) ∧ Dm.Dr n I W y u' P' (E.set i e) H' ∧ Fs.Lw I u u' 2 L ∧ L.length ≤ 7 := by
  have h4 := h.ok.four
  have e1 : 4 * (i / 4) + i % 4 = i := by omega
  obtain ⟨W, L, y, u', P', k1, k2, k3⟩ := h.setPage hroom (i / 4) (i % 4) (by omega) (by omega) e.1 e.2 hs (H' := H') (by rw [e1]; exact hok)
  rw [e1] at k2
  refine ⟨W, L, y, u', P', ?_, k2, k3⟩
  unfold putM pageF
  rw [if_pos (show i / 4 < E.length / 4 by omega), show ((i / 4 : Nat) : Int) * 64 = ((64 * (i / 4) : Nat) : Int) by omega]
  exact k1
theorem Dm.Dr.putNew (h : Dm.Dr n I V x u P E H) (hroom : Pl.dataN I + (u : Int) + 2 ≤ n) (hf : E.length + 4 ≤ 144) (e : Ent) (hs : Nm.standB e.1 e.2 = true) (hok : Dm.Ok (E ++ [e, (0, []), (0, []), (0, [])]) H') :
    ∃ W L y u' P', putM n I E (flat P 36) E.length e V = (.ok (), W, L) ∧ Dm.Dr n I W y u' P' (E ++ [e, (0, []), (0, []), (0, [])]) H' ∧ Fs.Lw I u u' 2 L ∧ L.length ≤ 7 := by
  have h4 := h.ok.four
  obtain ⟨W, L, y, u', P', k1, k2, k3⟩ := h.grow hroom hf e.1 e.2 hs (H' := H') hok
  refine ⟨W, L, y, u', P', ?_, k2, k3⟩
  unfold putM pageF
  rw [if_neg (Nat.lt_irrefl _), show E.length % 4 = 0 from h4, lay_fresh e hs, show ((E.length / 4 : Nat) : Int) * 64 = ((16 * E.length : Nat) : Int) by omega]
  exact k1
theorem Dm.Dr.op (h : Dm.Dr n I V x u P E H) (hroom : Pl.dataN I + (u : Int) + 2 ≤ n) (hf : E.length + 4 ≤ 144) (k : Int) (t : List UInt8) (i : Int) (h0 : 1 ≤ i) (h1 : i ≤ 65535) (hw : Dm.want k t H = 0) :
    ∃ W L y u' P', dopM n I E H (flat P 36) k t i V = (.ok (), W, L) ∧ Dm.Dr n I W y u' P' (Dm.nextE k t i E) (Dm.nextH k t i H) ∧ Fs.Lw I u u' 2 L ∧ L.length ≤ 7 := by
  have hnx := Dm.next_ok h.ok h0 h1 hw
  unfold dopM
  rw [if_pos hw]
  unfold Dm.nextE at hnx ⊢
  unfold slotI entI
  by_cases k0 : k = 0
  · subst k0
    rw [if_pos rfl] at hnx
    rw [if_pos rfl, if_pos rfl, if_neg (by decide)]
    obtain ⟨c, q⟩ := Dm.want_add hw
    obtain ⟨_, hst⟩ := Dm.used_right (show Nm.rightB i t = true from decide_eq_true ⟨h0, h1, c⟩)
    unfold Dm.addE at hnx ⊢
    cases hm : Dm.room E with
    | some a =>
      rw [hm] at hnx
      exact h.putOld hroom a (List.findIdx?_eq_some_iff_getElem.1 hm).1 (i, t) hst hnx
    | none =>
      rw [hm] at hnx
      exact h.putNew hroom hf (i, t) hst hnx
  · rw [if_neg k0] at hnx
    rw [if_neg k0, if_neg k0]
    obtain ⟨a, ha, hal⟩ := h.ok.there (Dm.want_there k0 hw)
    rw [ha] at hnx
    rw [ha]
    have hst : Nm.standB (if k = 2 then ((0, []) : Ent) else (i, t)).1 (if k = 2 then ((0, []) : Ent) else (i, t)).2 = true := by
      by_cases k2 : k = 2
      · rw [if_pos k2]; rfl
      · rw [if_neg k2]
        obtain ⟨a', m, b', e1, e2, e3, e4, e5⟩ := h.ok.spot_some ha
        rcases Nm.stand_yes (h.ok.st (m, t) (by rw [e1]; simp)) with ⟨q, _⟩ | ⟨_, _, q⟩
        · exact absurd q (of_decide_eq_true e3)
        · exact (Dm.used_right (show Nm.rightB i t = true from decide_eq_true ⟨h0, h1, q⟩)).2
    exact h.putOld hroom a hal _ hst hnx
theorem op_stand (h : Dm.Ok E H) (k : Int) (t : List UInt8) (i : Int) (h0 : 1 ≤ i) (h1 : i ≤ 65535) (hw : Dm.want k t H = 0) : Nm.standB (entI k t i).1 (entI k t i).2 = true ∧ slotI k t E ≤ E.length ∧ (k ≠ 2 → Nm.rightB i t = true) ∧ (k ≠ 0 → Dm.spot E t = some (slotI k t E)) ∧ (k = 0 → Dm.spot E t = none) := by
  unfold entI slotI
  by_cases k0 : k = 0
  · subst k0
    obtain ⟨c, q⟩ := Dm.want_add hw
    have hr : Nm.rightB i t = true := decide_eq_true ⟨h0, h1, c⟩
    rw [if_neg (by decide), if_pos rfl]
    refine ⟨(Dm.used_right hr).2, ?_, fun _ => hr, fun q => absurd rfl q, fun _ => h.spot_none.2 q⟩
    obtain ⟨a, _, h2, h3⟩ := room_le (E := E)
    rw [← h3]; exact h2
  · rw [if_neg k0]
    obtain ⟨a, ha, hal⟩ := h.there (Dm.want_there k0 hw)
    have hr : Nm.rightB i t = true := by
      obtain ⟨a', m, b', e1, e2, e3, e4, e5⟩ := h.spot_some ha
      rcases Nm.stand_yes (h.st (m, t) (by rw [e1]; simp)) with ⟨q, _⟩ | ⟨_, _, q⟩
      · exact absurd q (of_decide_eq_true e3)
      · exact decide_eq_true ⟨h0, h1, q⟩
    rw [ha]
    refine ⟨?_, Nat.le_of_lt hal, fun _ => hr, fun _ => rfl, fun q => absurd q k0⟩
    split
    · rfl
    · exact (Dm.used_right hr).2
end
section
variable {w w' : World} {B : Nat} {b : Blk} {s : Sto} {n I : Int} {x : Ino} {u : Nat} {P : Nat → List UInt8} {E : List Ent} {H : Has}
theorem ends_fail {e : Ending} {er : Int} (h0 : er ≠ 0) (h : e = .panicked [failE B] ∧ Broke w' B b s n I er ∧ Only [B] w w') {K : Unit → Ending → World → Prop} : Ends B b n I [] w s (Fs.fail er) K e w' :=
  Or.inr ⟨er, Or.inl ⟨_, _, rfl⟩, h0, h.2.1, h.1, h.2.2.mono (fun k hk => by simp only [List.mem_singleton] at hk; rw [hk]; exact List.mem_cons_self ..)⟩
theorem str_small {t : List UInt8} (h : t.length ≤ 300) : (strOf t).size ≤ maxLen := by
  rw [strOf_size]; unfold maxLen; omega
abbrev KU : Unit → Ending → World → Prop := fun _ e _ => e = .returned (.tuple #[])
theorem add_op (h : Ctx w B b s n I) (hd : Dm.Dr n I (nv s) x u P E H) (t : List UInt8) (i : Int) (ht : t.length ≤ 300) (h0 : 1 ≤ i) (h1 : i ≤ 65535) :
    Calls Tryz.prog 19 #[dirV B 1, .string (strOf t), .int .i64 i] w (Ends B b n I [] w s (dopM n I E H (flat P 36) 0 t i) KU) := by
  have hm := str_small ht
  by_cases hw : Dm.want 0 t H = 0
  · have hm2 : dopM n I E H (flat P 36) 0 t i = putM n I E (flat P 36) (slotI 0 t E) (i, t) := by unfold dopM; rw [if_pos hw]; rfl
    obtain ⟨_, q2, q3, _, q5⟩ := op_stand hd.ok 0 t i h0 h1 hw
    obtain ⟨c, _⟩ := Dm.want_add hw
    obtain ⟨a, a1, a2, a3⟩ := room_le (E := E)
    have e1 : slotI 0 t E = a := by unfold slotI; rw [if_pos rfl, a3]
    rw [hm2, e1]
    exact dadd_ok h hd t i hm (by unfold wrongF; rw [if_neg (by simp [c]), if_pos (q3 (by decide))]) (q3 (by decide)) (q5 rfl) a a1 a2
  · have hm2 : dopM n I E H (flat P 36) 0 t i = Fs.fail (Dm.want 0 t H) := by unfold dopM; rw [if_neg hw]
    rw [hm2]
    by_cases c : Nm.chk t = 0
    · have hl : (Dm.look H t).isSome = true := by
        unfold Dm.want at hw
        rw [if_pos rfl, if_neg (by simp [c])] at hw
        split at hw
        · assumption
        · exact absurd rfl hw
      have e1 : Dm.want 0 t H = 17 := by unfold Dm.want; rw [if_pos rfl, if_neg (by simp [c]), if_pos hl]
      obtain ⟨a, ha, _⟩ := hd.ok.there hl
      rw [e1]
      exact (dadd_there h hd t i hm (by unfold wrongF; rw [if_neg (by simp [c]), if_pos (show Nm.rightB i t = true from decide_eq_true ⟨h0, h1, c⟩)]) ha).mono fun e w' hh => ends_fail (by decide) hh
    · have e1 : Dm.want 0 t H = Nm.chk t := by unfold Dm.want; rw [if_pos rfl, if_pos c]
      have e2 : wrongF t i = Nm.chk t := by unfold wrongF; rw [if_pos c]
      have := dadd_wrong h t i hm (by rw [e2]; exact c)
      rw [e2] at this
      rw [e1]
      exact this.mono fun e w' hh => ends_fail c hh
theorem want_no {k : Int} {t : List UInt8} (k0 : k ≠ 0) (hd : Dm.Ok E H) (hw : Dm.want k t H ≠ 0) : Dm.want k t H = 2 ∧ Dm.spot E t = none := by
  unfold Dm.want at hw ⊢
  rw [if_neg k0] at hw ⊢
  by_cases hl : (Dm.look H t).isSome = true
  · rw [if_pos hl] at hw
    exact absurd rfl hw
  · rw [if_neg hl]
    refine ⟨rfl, hd.spot_none.2 ?_⟩
    cases q : Dm.look H t with
    | none => rfl
    | some m => rw [q] at hl; exact absurd rfl hl
theorem rem_op (h : Ctx w B b s n I) (hd : Dm.Dr n I (nv s) x u P E H) (t : List UInt8) (i : Int) (h0 : 1 ≤ i) (h1 : i ≤ 65535) :
    Calls Tryz.prog 20 #[dirV B 1, .string (strOf t)] w (Ends B b n I [] w s (dopM n I E H (flat P 36) 2 t i) KU) := by
  by_cases hw : Dm.want 2 t H = 0
  · have hm2 : dopM n I E H (flat P 36) 2 t i = putM n I E (flat P 36) (slotI 2 t E) (0, []) := by unfold dopM; rw [if_pos hw]; rfl
    obtain ⟨_, q2, _, q4, _⟩ := op_stand hd.ok 2 t i h0 h1 hw
    rw [hm2]
    exact drem_ok h hd t _ (q4 (by decide))
  · have hm2 : dopM n I E H (flat P 36) 2 t i = Fs.fail (Dm.want 2 t H) := by unfold dopM; rw [if_neg hw]
    obtain ⟨e1, e2⟩ := want_no (by decide) hd.ok hw
    rw [hm2, e1]
    exact (drem_none h hd t e2).mono fun e w' hh => ends_fail (by decide) hh
end
end

section
open Go.RowKit Go.Maps
open Dk (zeros zeros_length)
open Ii (Ino)
open Dm (Ent Has)
open Fs (flat View)
section
variable {R : Ending → World → Prop} {B : Nat} {b : Blk} {n I : Int} {w0 : World} {s : Sto} {m : Fs.M Unit} {W : World}
end
section
variable {w : World} {B : Nat} {b : Blk} {s : Sto} {n I : Int} {x : Ino} {u : Nat} {P : Nat → List UInt8} {E : List Ent} {H : Has}
end
end
end Go.Proofs.YtmpfcgjjejlhdaaGreat
