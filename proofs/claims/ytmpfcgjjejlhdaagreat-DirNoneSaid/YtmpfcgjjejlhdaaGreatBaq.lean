/- Texts of the proof. -/
import Derived.Test.YtmpfcgjjejlhdaaGreatBap
import Derived.Test.YtmpfcgjjejlhdaaGreatBab
import Derived.Maps.AppendAt
import Derived.OwnWalk
import Derived.BigQuiet
import Derived.Test.YtmpfcgjjejlhdaaGreatBam
import Derived.Test.YtmpfcgjjejlhdaaGreatBan
import Derived.Test.YtmpfcgjjejlhdaaGreatBao
import Derived.Test.YtmpfcgjjejlhdaaGreatBah
import Derived.Lib.Builder
import Derived.Lib.UnsafeStr
import Derived.Lib.MakeNoZero
import Derived.Lib.Walk
import Derived.Laws.Externs
import Derived.Laws.AppendOwn
import Derived.RegionTactic
import Derived.Laws.MakeOwn
import Derived.Test.YtmpfcgjjejlhdaaGreatBak
import Derived.Test.YtmpfcgjjejlhdaaGreatBaj
set_option maxRecDepth 100000
set_option maxHeartbeats 16000000
namespace Go.Proofs.YtmpfcgjjejlhdaaGreat
section
open Dk (zeros zeros_length)
open Go.RowKit
theorem rows_page {W : World} {b : Nat} {p : List UInt8} (k : RowAt W b (byteVals p)) (hp : p.length = 64) : PageAt W b p where
  len := hp
  range := k.range
  free := by
    have := k.free
    rwa [byteVals_length, hp] at this
theorem page_rows {W : World} {b : Nat} {p : List UInt8} (k : PageAt W b p) : RowAt W b (byteVals p) where
  range := k.range
  free := by
    rw [byteVals_length, k.len]
    exact k.free
section
variable {ops : Array Oper} {rest : List Oper} {op : Oper} {a : Act} {Q : Act → Prop} {C : World → Prop}
end
end

section
open Dk (zeros zeros_length)
open Go.ChangeShapes Go.WideShapes Go.ChangeAt Go.RowKit
theorem entV_def (n : Int) (s : ByteArray) : Value.agg (entL n s).toArray = entV n s := rfl
end

section
open Dk (zeros zeros_length)
open Go.ChangeShapes Go.WideShapes Go.ChangeAt Go.RowKit Go.Maps
structure ManyAt (w : World) (A : Option Addr) (z : Nat) (rs : List (List Value)) : Prop where
  cells : 0 < rs.length → ∃ b off, A = some ⟨b, off, none⟩ ∧ b < w.heap.size ∧ ∀ i r, rs[i]? = some r → w.rangeAt b (off + i * z) r
theorem ManyAt.step {w w' : World} {A : Option Addr} {z : Nat} {rs : List (List Value)} (h : ManyAt w A z rs) (hb : Below w.heap.size w w') : ManyAt w' A z rs :=
  ⟨fun h0 => by
    obtain ⟨b, off, e, hlt, hc⟩ := h.cells h0
    exact ⟨b, off, e, Nat.lt_of_lt_of_le hlt hb.size, fun i r hi j v hv => (hb.cell (p := ⟨b, off + i * z + j, none⟩) hlt).trans (hc i r hi j v hv)⟩⟩
structure PagesIn (w : World) (A : Option Addr) (n : Nat) (ps : List (List UInt8)) : Prop where
  len : ps.length = n
  small : n ≤ maxLen
  size : ∀ p ∈ ps, p.length = 64
  rows : ManyAt w A 64 (ps.map byteVals)
def slots (p : List UInt8) : List (List UInt8) := [Nm.at_ p 0, Nm.at_ p 1, Nm.at_ p 2, Nm.at_ p 3]
def blocks (ps : List (List UInt8)) : List (List UInt8) := ps.flatMap slots
def okE (b : List UInt8) : Bool := (Nm.ent b).isSome
def allOk (bs : List (List UInt8)) : Bool := bs.all okE
def eL (b : List UInt8) : List Value := entL (Nm.entN (Nm.ent b)) (strOf (Nm.entS (Nm.ent b)))
theorem eL_length (b : List UInt8) : (eL b).length = 2 := rfl
theorem blocks_length (ps : List (List UInt8)) : (blocks ps).length = 4 * ps.length := by
  induction ps with
  | nil => rfl
  | cons p t ih => unfold blocks at ih ⊢; rw [List.flatMap_cons, List.length_append, ih, List.length_cons]; unfold slots; simp; omega
theorem eL_one (b : List UInt8) : ∀ v ∈ eL b, v.oneCell' = true := entL_one _ _
theorem slots_length (p : List UInt8) : (slots p).length = 4 := rfl
theorem slots_at (p : List UInt8) (j : Nat) (h : j < 4) : (slots p).take (j + 1) = (slots p).take j ++ [Nm.at_ p j] := by
  have : j = 0 ∨ j = 1 ∨ j = 2 ∨ j = 3 := by omega
  rcases this with rfl | rfl | rfl | rfl <;> rfl
theorem blocks_more (ps : List (List UInt8)) (k : Nat) (p : List UInt8) (h : ps[k]? = some p) : blocks (ps.take (k + 1)) = blocks (ps.take k) ++ slots p := by
  obtain ⟨hk, he⟩ := List.getElem?_eq_some_iff.1 h
  rw [List.take_succ_eq_append_getElem hk, he]
  unfold blocks
  rw [List.flatMap_append]
  simp
theorem allOk_app (a b : List (List UInt8)) : allOk (a ++ b) = (allOk a && allOk b) := by unfold allOk; rw [List.all_append]
theorem allOk_no (ps : List (List UInt8)) (k : Nat) (p : List UInt8) (h : ps[k]? = some p) (j : Nat) (hj : j < 4) (hb : okE (Nm.at_ p j) = false) : allOk (blocks ps) = false := by
  cases hc : allOk (blocks ps) with
  | false => rfl
  | true =>
    exfalso
    have hm : Nm.at_ p j ∈ blocks ps := by
      unfold blocks
      rw [List.mem_flatMap]
      refine ⟨p, List.mem_of_getElem? h, ?_⟩
      have : j = 0 ∨ j = 1 ∨ j = 2 ∨ j = 3 := by omega
      rcases this with rfl | rfl | rfl | rfl <;> simp [slots]
    have := List.all_eq_true.1 hc _ hm
    rw [hb] at this
    cases this
theorem info_ent : (Tryz.prog.info? 41).map (fun i => (i.zero, i.size, i.bytes)) = some (some (.agg #[.int .i64 0, .string ⟨#[]⟩]), 2, 24) := by kernel_rfl
theorem owns_below {w w' : World} {base : Nat} {e : TypeId} {size : Nat} {v : Value} {n : Nat} {xs : List Value} (h : w.ownsRow base e size v n xs) (hb : Below w.heap.size w w') : w'.ownsRow base e size v n xs := by
  refine ⟨h.1, ?_⟩
  rcases h.2 with h2 | ⟨g, cap, cur, h1, h2, h3, h4⟩
  · exact Or.inl h2
  · exact Or.inr ⟨g, cap, cur, h1, h2, (hb.block g (Array.getElem?_eq_some_iff.1 h3).1).trans h3, h4⟩
theorem nowns_slice {w : World} {base : Nat} {e : TypeId} {size : Nat} {v : Value} {k : Nat} {xs : List Value} (h : w.ownsRow base e size v k xs) : ∃ A c, v = .slice A k c := by
  rcases h.2 with ⟨e1, e2⟩ | ⟨g, cap, cur, e1, _⟩
  · exact ⟨none, 0, by rw [e1, e2]⟩
  · exact ⟨_, _, e1⟩
theorem ncell_new (w : World) (vs : List Value) (t : TypeId) : ∀ j u, vs[j]? = some u → (w.alloc (.cells vs.toArray t)).cell? ((⟨w.heap.size, 0, none⟩ : Addr).add j) = some u := fun j u hj => by
  have := (rowAt_new w vs t).range j u hj
  rw [Nat.zero_add] at this
  unfold Addr.add
  by_cases e : j = 0
  · subst e; rw [if_pos rfl]; exact this
  · rw [if_neg e, Nat.zero_add]; exact this
theorem nwpList_load_at {t : TypeId} {n : Nat} (ht : RowT t n) {ops : Array Oper} {rest : List Oper} {op : Oper} {a : Act} {Q : Exit → Act → World → Prop} {w : World} {b o : Nat} {vs : List Value} (hr : w.rangeAt b o vs) (hl : vs.length = n) (hgd : op.guard = none) (x : Operand) (ho : op.op = .load t x)
    (hx : a.eval x = .pointer (some ⟨b, o, none⟩)) (h : wpList Tryz.prog ops Q rest (a.put op.dst (.agg vs.toArray)) w) : wpList Tryz.prog ops Q (op :: rest) a w := by
  obtain ⟨d, hd, hrow⟩ := ht.row
  exact wpList_load_mid hgd t x ho b o hx vs d hr hd hrow (by rw [ht.info, hl]) h
theorem run_one (n : Int) (s : ByteArray) (w : World) : (Instr.buildSlice 36 1 #[(0, entV n s)]).run Tryz.prog w = .ok (.slice (some ⟨w.heap.size, 0, none⟩) 1 1) (w.alloc (.cells (entL n s).toArray 41)) := by
  unfold entV entL
  go_simp
theorem exec_one {ρ : Operand → Value} {op : Oper} {y : Operand} {n : Int} {s : ByteArray} {w : World} (ho : op.op = .buildSlice 36 1 #[(0, y)]) (hy : ρ y = entV n s) :
    (execOp ρ op).run Tryz.prog w = .ok (.value (.slice (some ⟨w.heap.size, 0, none⟩) 1 1)) (w.alloc (.cells (entL n s).toArray 41)) := by
  have hr := run_one n s w
  unfold execOp
  simp only [ho, List.map_toArray, List.map_cons, List.map_nil, hy, Sem.run_bind, hr, Result.andThen_ok, Sem.run_pure]
theorem wpList_one {ops : Array Oper} {rest : List Oper} {op : Oper} {a : Act} {Q : Exit → Act → World → Prop} {w : World} {b : List UInt8} (hgd : op.guard = none) (y : Operand) (ho : op.op = .buildSlice 36 1 #[(0, y)]) (hy : a.eval y = .agg (eL b).toArray)
    (h : wpList Tryz.prog ops Q rest (a.put op.dst (.slice (some ⟨w.heap.size, 0, none⟩) 1 1)) (w.alloc (.cells (eL b).toArray 41))) : wpList Tryz.prog ops Q (op :: rest) a w :=
  wpList_plain hgd fun _ hK => by
    unfold Oper.wp
    rw [exec_one ho (hy.trans (entV_def _ _))]
    exact hK _ _ h
theorem pageT : RowT 97 64 := ⟨⟨_, Tryz.underlying97, rfl⟩, by kernel_rfl⟩
structure AlS (w0 : World) (A : Option Addr) (n : Nat) (ps : List (List UInt8)) (l : Value) (bs : List (List UInt8)) (W : World) : Prop where
  pages : PagesIn W A n ps
  far : 0 < n → ∀ b off, A = some ⟨b, off, none⟩ → b < w0.heap.size
  own : W.ownsRow w0.heap.size 41 2 l bs.length (bs.flatMap eL)
  bel : Below w0.heap.size w0 W
theorem PagesIn.step {w w' : World} {A : Option Addr} {n : Nat} {ps : List (List UInt8)} (h : PagesIn w A n ps) (hb : Below w.heap.size w w') : PagesIn w' A n ps := ⟨h.len, h.small, h.size, h.rows.step hb⟩
theorem AlS.call {w0 : World} {A : Option Addr} {n : Nat} {ps : List (List UInt8)} {l : Value} {bs : List (List UInt8)} {W W' : World} (k : AlS w0 A n ps l bs W) (hb : Below W.heap.size W W') : AlS w0 A n ps l bs W' :=
  ⟨k.pages.step hb, k.far, owns_below k.own hb, k.bel.trans (hb.mono k.bel.size)⟩
theorem AlS.grow {w0 : World} {A : Option Addr} {n : Nat} {ps : List (List UInt8)} {l l' : Value} {bs : List (List UInt8)} {b : List UInt8} {W W' : World} (k : AlS w0 A n ps l bs W) (hg : W.grownBy W' l.ownBlock) (hown : W'.ownsRow w0.heap.size 41 2 l' (bs.length + 1) (bs.flatMap eL ++ eL b)) : AlS w0 A n ps l' (bs ++ [b]) W' where
  pages := ⟨k.pages.len, k.pages.small, k.pages.size, ⟨fun h0 => by
    obtain ⟨g, off, e, hlt, hc⟩ := k.pages.rows.cells h0
    have hgl := k.far (by rw [List.length_map, k.pages.len] at h0; exact h0) g off e
    refine ⟨g, off, e, Nat.lt_of_lt_of_le hlt hg.size, fun i r hi j v hv => ?_⟩
    have hne : some g ≠ l.ownBlock := fun q => by have := (k.own.lt g q.symm).1; omega
    have hblk := hg.block g hlt hne
    have := hc i r hi j v hv
    rw [← this]
    exact World.cell?_of_block (a := ⟨g, off + i * 64 + j, none⟩) hblk⟩⟩
  far := k.far
  own := by
    rw [List.flatMap_append, List.length_append]
    simpa using hown
  bel := k.bel.grown hg k.bel.size (fun j hj => (k.own.lt j hj).1)
structure AlP (w0 : World) (A : Option Addr) (n : Nat) (ps : List (List UInt8)) (l : Value) (bs : List (List UInt8)) (B : Nat) (p : List UInt8) (W : World) : Prop where
  al : AlS w0 A n ps l bs W
  page : PageAt W B p
  ne : l.ownBlock ≠ some B
theorem AlP.call {w0 : World} {A : Option Addr} {n : Nat} {ps : List (List UInt8)} {l : Value} {bs : List (List UInt8)} {B : Nat} {p : List UInt8} {W W' : World} (k : AlP w0 A n ps l bs B p W) (hb : Below W.heap.size W W') : AlP w0 A n ps l bs B p W' := ⟨k.al.call hb, k.page.step hb, k.ne⟩
theorem AlP.grow {w0 : World} {A : Option Addr} {n : Nat} {ps : List (List UInt8)} {l l' : Value} {bs : List (List UInt8)} {b : List UInt8} {B : Nat} {p : List UInt8} {W W' : World} (k : AlP w0 A n ps l bs B p W) (hg : W.grownBy W' l.ownBlock) (hown : W'.ownsRow w0.heap.size 41 2 l' (bs.length + 1) (bs.flatMap eL ++ eL b)) (hloc : l'.ownBlock = l.ownBlock ∨ l'.ownBlock = some W.heap.size) : AlP w0 A n ps l' (bs ++ [b]) B p W' where
  al := k.al.grow hg hown
  page := rows_page (by
    have hB := k.page.lt
    have hblk := hg.block B hB (Ne.symm k.ne)
    refine ⟨fun j v hv => ?_, fun j hj => ?_⟩
    · have := (page_rows k.page).range j v hv
      rw [← this]
      exact World.cell?_of_block (a := ⟨B, 0 + j, none⟩) hblk
    · have := (page_rows k.page).free j hj
      rw [World.cell?_of_block (a := ⟨B, 0 + j, none⟩) hblk, World.frozen?_of_block (a := ⟨B, 0 + j, none⟩) hblk]
      exact this) k.page.len
  ne := by
    rcases hloc with e | e
    · rw [e]; exact k.ne
    · rw [e]
      intro q
      injection q with q
      have := k.page.lt
      omega
theorem AlP.start {w0 : World} {A : Option Addr} {n : Nat} {ps : List (List UInt8)} {l : Value} {bs : List (List UInt8)} {p : List UInt8} {W W2 : World} (k : AlS w0 A n ps l bs W) (hb : Below W.heap.size W W2) (hp : PageAt W2 W.heap.size p) : AlP w0 A n ps l bs W.heap.size p W2 :=
  ⟨k.call hb, hp, fun q => by have := (k.own.lt _ q).2; omega⟩
end

section
open Dk (zeros zeros_length)
open Go.RowKit Go.Maps
def AllGive (ps : List (List UInt8)) (w : World) (e : Ending) (w' : World) : Prop :=
  if allOk (blocks ps) = true then ∃ A c, e = .returned (.tuple #[.slice A (blocks ps).length c, .int .i64 0]) ∧ w'.ownsRow w.heap.size 41 2 (.slice A (blocks ps).length c) (blocks ps).length ((blocks ps).flatMap eL) ∧ Below w.heap.size w w'
  else e = .returned (.tuple #[.slice none 0 0, .int .i64 5]) ∧ Below w.heap.size w w'
theorem alS_start (w : World) (A : Option Addr) (n : Nat) (ps : List (List UInt8)) (h : PagesIn w A n ps) (hf : 0 < n → ∀ b off, A = some ⟨b, off, none⟩ → b < w.heap.size) : AlS w A n ps (.slice none 0 0) [] w :=
  ⟨h, hf, ⟨rfl, Or.inl ⟨rfl, rfl⟩⟩, Below.refl _ _⟩
theorem give_none {ps : List (List UInt8)} {w : World} (h : allOk (blocks ps) = false) (w' : World) (hb : Below w.heap.size w w') : AllGive ps w (.returned (.tuple #[.slice none 0 0, .int .i64 5])) w' := by
  unfold AllGive
  rw [if_neg (by rw [h]; decide)]
  exact ⟨rfl, hb⟩
theorem give_all {A0 : Option Addr} {n : Nat} {ps : List (List UInt8)} {w w' : World} {A : Option Addr} {m c : Nat} (h : allOk (blocks ps) = true) (hm : m = (blocks ps).length) (hS : AlS w A0 n ps (.slice A m c) (blocks ps) w') : AllGive ps w (.returned (.tuple #[.slice A m c, .int .i64 0])) w' := by
  unfold AllGive
  rw [if_pos h]
  subst hm
  exact ⟨A, c, rfl, hS.own, hS.bel⟩
theorem all_any (A : Option Addr) (n c : Nat) (ps : List (List UInt8)) (w : World) (hin : PagesIn w A n ps) (hf : 0 < n → ∀ b off, A = some ⟨b, off, none⟩ → b < w.heap.size) (hn : n ≤ 40) :
    Calls Tryz.prog 90 #[.slice A n c] w (AllGive ps w) := by
  have S0 := Lib.hid (alS_start w A n ps hin hf)
  have HL := Lib.hid hin.len
  have HZ := Lib.hid hin.size
  obtain ⟨i0, hi0, hz0, hs0, hb0⟩ := info_parts info_ent
  have HI0 := Lib.hid hi0
  have HZ0 := Lib.hid hz0
  have HS0 := Lib.hid hs0
  have HB0 := Lib.hid hb0
  clear hin hf hi0 hz0 hs0 hb0
  go_enter Tryz.func90, Tryz.ntmps90
  go_wp2_with fail
  go_loopw [4, 12] (fun l x wr => ∃ (k : Nat) (A' : Option Addr) (m c' : Nat), k ≤ n ∧ x = .int .i64 (k : Int) ∧ l = .slice A' m c' ∧ Hid (m = (blocks (ps.take k)).length) ∧ Hid (AlS w A n ps (.slice A' m c') (blocks (ps.take k)) wr) ∧ Hid (allOk (blocks (ps.take k)) = true)) (fun _ x _ => n - (intOf x).toNat)
  case atStart => exact ⟨0, none, 0, 0, Nat.zero_le _, rfl, rfl, Lib.hid rfl, S0, Lib.hid rfl⟩
  case round =>
    clear S0
    obtain ⟨k, A', m, c', hk, rfl, rfl, HM, S, HO⟩ := hrel
    rename World => wo
    by_cases hlt : k < n
    · obtain ⟨b, off, hA, hb, hc⟩ := S.out.pages.rows.cells (by rw [List.length_map, HL.out]; omega)
      obtain ⟨p, hp⟩ : ∃ p, ps[k]? = some p := ⟨_, List.getElem?_eq_getElem (by rw [HL.out]; exact hlt)⟩
      have HP := Lib.hid (hc k (byteVals p) (by rw [List.getElem?_map, hp]; rfl))
      have HPL := Lib.hid (HZ.out p (List.mem_of_getElem? hp))
      have HBL := Lib.hid (show (byteVals p).length = 64 by rw [byteVals_length, HPL.out])
      have HMore := Lib.hid (blocks_more ps k p hp)
      have HNo := Lib.hid (fun j hj => allOk_no ps k p hp j hj)
      subst hA
      have hk0 : (0 : Int) ≤ (k : Int) := by omega
      have hk1 : (k : Int) < (n : Int) := by omega
      clear hc hp hb
      have HLen : Hid ((blocks (ps.take k)).length ≤ 160) := Lib.hid (by rw [blocks_length, List.length_take]; omega)
      generalize blocks (ps.take k) = bs at HM S HO HMore HLen
      go_wp2_with (first
        | ((with_reducible refine nwpList_load_at pageT HP.out HBL.out rfl (.tmp 14) rfl ?_ ?_); (exact rfl))
        | ((with_reducible refine wpList_store_new (p := p) rfl (.tmp 6) (.tmp 15) rfl rfl ?_ ?_ HPL.out ?_); (exact rfl); (exact rfl); intro W2 hP hB2 hz2; have P := Lib.hid (AlP.start S.out hB2 hP); clear hP hB2 hz2 S; generalize wo.heap.size = B at P ⊢))
      go_loopw [4, 16] (fun l x wr => ∃ (j : Nat) (A' : Option Addr) (m c' : Nat), j ≤ 4 ∧ x = .int .i64 (j : Int) ∧ l = .slice A' m c' ∧ Hid (m = (bs ++ (slots p).take j).length) ∧ Hid (AlP w (some ⟨b, off, none⟩) n ps (.slice A' m c') (bs ++ (slots p).take j) B p wr) ∧ Hid (allOk (bs ++ (slots p).take j) = true)) (fun _ x _ => 4 - (intOf x).toNat)
      case atStart => exact ⟨0, A', m, c', by omega, rfl, rfl, Lib.hid (by rw [HM.out]; simp), Lib.hid (by simpa using P.out), Lib.hid (by simpa using HO.out)⟩
      case round =>
        clear P HM HO
        obtain ⟨j, A1, m1, c1, hj, rfl, rfl, HM, P, HO⟩ := hrel
        by_cases hj4 : j < 4
        · have HG := Lib.hid (fun w => get_at p j w HPL.out hj4)
          have HAt := Lib.hid (slots_at p j hj4)
          have HNo2 := Lib.hid (HNo.out j hj4)
          generalize Nm.at_ p j = blk at HG HAt HNo2
          change Hid (∀ w, Calls Tryz.prog 132 #[pageV p, .int .i64 (j : Int)] w fun e w' => e = .returned (.tuple #[.agg (eL blk).toArray, .int .i64 (errI (Nm.ent blk))]) ∧ Below w.heap.size w w') at HG
          have hj0 : (0 : Int) ≤ (j : Int) := by omega
          have hj1 : (j : Int) < 4 := by omega
          have hm1 : m1 ≤ 170 := by
            have h1 := HLen.out
            have h2 : ((slots p).take j).length ≤ 4 := by rw [List.length_take, slots_length]; omega
            rw [HM.out, List.length_append]
            omega
          cases hok : okE blk with
          | true =>
            have he : errI (Nm.ent blk) = 0 := by unfold errI; rw [show (Nm.ent blk).isSome = true from hok]; rfl
            rw [he] at HG
            have HOK := Lib.hid hok
            clear he hok
            go_wp2_with (first
              | (with_reducible refine wpList_load_page P.out.page rfl (.tmp 6) rfl rfl ?_)
              | (go_at_call 132; (with_reducible refine (HG.out _).mono ?_); rintro e w3 ⟨rfl, hb⟩; replace P := Lib.hid (P.out.call hb); clear hb)
              | ((with_reducible refine wpList_store_newrow entT (vs := eL blk) (eL_length _) (eL_one _) rfl (.tmp 8) (.tmp 23) rfl rfl ?_ ?_ ?_); (exact rfl); (exact rfl); intro W4 hP hb hz; have R := Lib.hid hP; replace P := Lib.hid (P.out.call hb); clear hP hb hz; generalize w3.heap.size = G at R ⊢)
              | (with_reducible refine wpList_load_rw entT R.out (eL_length _) rfl (.tmp 8) rfl rfl ?_)
              | ((with_reducible refine wpList_one (b := blk) rfl (.tmp 29) rfl ?_ ?_); (exact rfl); have HNW := Lib.hid (ncell_new W4 (eL blk) 41); have HBel : Hid (Below W4.heap.size W4 (W4.alloc (.cells (eL blk).toArray 41))) := Lib.hid ((Below.refl _ _).alloc (Nat.le_refl _) _); replace P := Lib.hid (P.out.call HBel.out); have HSZ : Hid (w.heap.size ≤ (W4.alloc (.cells (eL blk).toArray 41)).heap.size) := Lib.hid P.out.al.bel.size; have HOwn := Lib.hid P.out.al.own; rw [← HM.out] at HOwn; clear HBel; generalize W4.heap.size = E at HNW ⊢; generalize W4.alloc (.cells (eL blk).toArray 41) = W5 at HNW P HSZ HOwn ⊢)
              | (at_builtin; go_must (refine wpList_append_own_at _ rfl (.tmp 28) (.tmp 30) 36 rfl w.heap.size 41 i0 _ 2 24 Tryz.underlying36 HI0.out HZ0.out HS0.out HB0.out rfl (by omega) _ m1 _ rfl HOwn.out ⟨E, 0, none⟩ 1 1 (eL blk) rfl rfl HNW.out (eL_one _) (by unfold maxLen; omega) (by omega) HSZ.out ?_); intro v' w5 hown' hgrow hnil hloc; obtain ⟨A', c', rfl⟩ := nowns_slice hown'))
            have P3 := Lib.hid (P.out.grow hgrow (b := blk) (by rw [← HM.out]; exact hown') hloc)
            have HM3 : Hid (m1 + 1 = (bs ++ (slots p).take (j + 1)).length) := Lib.hid (by rw [HAt.out, ← List.append_assoc, List.length_append, ← HM.out]; rfl)
            have HO3 : Hid (allOk (bs ++ (slots p).take (j + 1)) = true) := Lib.hid (by rw [HAt.out, ← List.append_assoc, allOk_app, HO.out]; simp [allOk, HOK.out])
            rw [List.append_assoc, ← HAt.out] at P3
            clear hown' hgrow hnil hloc P HM HO
            go_roundw
            case rel => exact ⟨j + 1, A', m1 + 1, c', by omega, by go_num, rfl, HM3, P3, HO3⟩
            case measure => simp [intOf]; omega
          | false =>
            have he : errI (Nm.ent blk) = 5 := by unfold errI; rw [show (Nm.ent blk).isSome = false from hok]; rfl
            rw [he] at HG
            have HF := Lib.hid (give_none (w := w) (HNo2.out hok))
            clear he hok
            go_wp2_with (first
              | (with_reducible refine wpList_load_page P.out.page rfl (.tmp 6) rfl rfl ?_)
              | (go_at_call 132; (with_reducible refine (HG.out _).mono ?_); rintro e w3 ⟨rfl, hb⟩; replace P := Lib.hid (P.out.call hb); clear hb)
              | ((with_reducible refine wpList_store_newrow entT (vs := eL blk) (eL_length _) (eL_one _) rfl (.tmp 8) (.tmp 23) rfl rfl ?_ ?_ ?_); (exact rfl); (exact rfl); intro W4 hP hb hz; replace P := Lib.hid (P.out.call hb); clear hP hb hz; generalize w3.heap.size = G))
            go_ret2
            exact HF.out _ P.out.al.bel
        · obtain rfl : j = 4 := by omega
          have HB4 : Hid (bs ++ (slots p).take 4 = blocks (ps.take (k + 1))) := Lib.hid (by rw [HMore.out]; rfl)
          rw [HB4.out] at HM P HO
          have S3 := Lib.hid P.out.al
          clear P
          go_wp2
          go_roundw
          case rel => exact ⟨k + 1, A1, m1, c1, by omega, by go_num, rfl, HM, S3, HO⟩
          case measure => simp [intOf]; omega
    · obtain rfl : k = n := by omega
      have e : ps.take k = ps := List.take_of_length_le (by rw [HL.out]; exact Nat.le_refl _)
      rw [e] at HM S HO
      have HF := Lib.hid (give_all HO.out HM.out S.out)
      clear e HM S HO hlt
      go_wp2
      go_ret2
      exact HF.out
end

section
open Go.RowKit Go.Maps
open Dk (zeros zeros_length)
open Ii (Ino)
open Dm (Has Ent)
structure EntRow (w : World) (A : Option Addr) (n : Nat) (L : List Ent) : Prop where
  len : L.length = n
  cells : 0 < n → ∃ b off, A = some ⟨b, off, none⟩ ∧ b < w.heap.size ∧ ∀ i e, L[i]? = some e → w.rangeAt b (off + i * 2) (entL e.1 (strOf e.2))
theorem EntRow.only {w w' : World} {A : Option Addr} {n : Nat} {L : List Ent} {l : List Nat} (h : EntRow w A n L) (ho : Only l w w') (hl : 0 < n → ∀ k ∈ l, ∀ b off, A = some ⟨b, off, none⟩ → b ≠ k) : EntRow w' A n L :=
  ⟨h.len, fun h0 => by
    obtain ⟨b, off, e, hlt, hc⟩ := h.cells h0
    exact ⟨b, off, e, Nat.lt_of_lt_of_le hlt ho.size, fun i c hi => rangeAt_block (hc i c hi) (ho.block b hlt (fun q => hl h0 b q b off e rfl))⟩⟩
theorem EntRow.below {w w' : World} {A : Option Addr} {n : Nat} {L : List Ent} (h : EntRow w A n L) (hb : Below w.heap.size w w') : EntRow w' A n L :=
  ⟨h.len, fun h0 => by
    obtain ⟨b, off, e, hlt, hc⟩ := h.cells h0
    exact ⟨b, off, e, Nat.lt_of_lt_of_le hlt hb.size, fun i c hi => rangeAt_block (hc i c hi) (hb.block _ hlt)⟩⟩
theorem bytes_strOf (l : List UInt8) : (strOf l).data.toList = l := by simp [strOf]
end

section
open Go.RowKit Go.Maps
open Dk (zeros zeros_length)
open Ii (Ino)
theorem pl60 : Pl.rightB 60 4 = true := by decide
def fileI : Ino := { k := 1, p := 0, u := 0, l := 1, s := 0, a := 0, b := 0, c := 0, d := 0, e := 0, f := 0 }
def TW (w : World) (V : Nat) (b : Blk) (k : Nat) : Prop := ∃ s, VolAt w V b s 60 4 0 ∧ Calm s 60 4 k ∧ Two 60 4 fileI (nv s)
theorem TW.below {w w' : World} {V : Nat} {b : Blk} {k : Nat} (h : TW w V b k) (hb : Below w.heap.size w w') : TW w' V b k := by
  obtain ⟨s, h1, h2, h3⟩ := h
  exact ⟨s, h1.below hb, h2, h3⟩
def wantN (ino : Int) : Int := if ino = 1 then 0 else if ino = 2 then 20 else 22
def NewSpec : Prop := ∀ (W : World) (V : Nat) (b : Blk) (s : Sto), VolAt W V b s 60 4 0 → FmtS s 60 4 →
  Calls Tryz.prog 11 #[.pointer (some ⟨V, 0, none⟩), .func (.func 12) #[] #[]] W fun e w' => e = .returned (.int .i64 0) ∧ TW w' V b 1 ∧ Only (V :: b.all) W w'
def FindSpec : Prop := ∀ (W : World) (V : Nat) (b : Blk) (k : Nat) (ino : Int) (name : ByteArray), TW W V b k → k ≤ 1000 → name.size ≤ 300 →
  Calls Tryz.prog 14 #[.pointer (some ⟨V, 0, none⟩), .int .i64 ino, .string name] W fun e w' => e = .returned (.tuple #[.int .i64 0, .int .i64 (wantN ino)]) ∧ TW w' V b (k + 1) ∧ Only (V :: b.all) W w'
def NoneSpec : Prop := ∀ (W : World) (V : Nat) (b : Blk) (k : Nat) (ino : Int), TW W V b k → k ≤ 1000 →
  Calls Tryz.prog 10 #[.pointer (some ⟨V, 0, none⟩), .int .i64 ino] W fun e w' => ∃ A c, e = .returned (.tuple #[.slice A 0 c, .int .i64 (wantN ino)]) ∧ TW w' V b (k + 1) ∧ Only (V :: b.all) W w'
def EmptySpec : Prop := ∀ (W : World) (V : Nat) (b : Blk) (k : Nat) (ino : Int) (X Y : Nat), TW W V b k → k ≤ 1000 → RowAt W X [.int .i64 ino] → RowAt W Y [.bool false] → X ∉ V :: b.all → Y ∉ V :: b.all →
  Calls Tryz.prog 11 #[.pointer (some ⟨V, 0, none⟩), .func (.func 15) #[] #[.pointer (some ⟨X, 0, none⟩), .pointer (some ⟨Y, 0, none⟩)]] W fun e w' => e = .returned (.int .i64 (wantN ino)) ∧ RowAt w' Y [.bool (decide (ino = 1))] ∧ Only (Y :: V :: b.all) W w'
def NilSpec : Prop := ∀ (W : World) (ino : Int) (name : ByteArray), Calls Tryz.prog 14 #[.pointer none, .int .i64 ino, .string name] W fun e w' => e = .returned (.tuple #[.int .i64 0, .int .i64 5]) ∧ Below W.heap.size W w'
theorem none_box {w w6 : World} {V : Nat} {b : Blk} {k : Nat} {ino : Int} (ht : TW w6 V b k) (hr : RowAt w6 w.heap.size [.int .i64 ino]) (hx : w.heap.size ∉ V :: b.all) :
    TW (w6.alloc (.cells #[.bool false] 4)) V b k ∧ RowAt (w6.alloc (.cells #[.bool false] 4)) w.heap.size [.int .i64 ino] ∧ RowAt (w6.alloc (.cells #[.bool false] 4)) w6.heap.size [.bool false] ∧ w6.heap.size ∉ V :: b.all ∧ w.heap.size ∉ w6.heap.size :: V :: b.all ∧ Below w6.heap.size w6 (w6.alloc (.cells #[.bool false] 4)) := by
  have hb : Below w6.heap.size w6 (w6.alloc (.cells #[.bool false] 4)) := (Below.refl _ _).alloc (Nat.le_refl _) _
  have hlt := hr.lt
  refine ⟨ht.below hb, hr.step hb, ((Lo.start (L := []) w6 (by simp)).alloc _ rfl [.bool false] 4).get 0 _ rfl, ?_, ?_, hb⟩
  · intro q
    obtain ⟨s, h1, _⟩ := ht
    rcases List.mem_cons.1 q with q | q
    · have := h1.row.lt; omega
    · have := h1.store.lt _ q; omega
  · intro q
    rcases List.mem_cons.1 q with q | q
    · omega
    · exact hx q
theorem none_walk (HAW : ∀ W, Calls Tryz.prog 5 #[] W fun e w' => e = .returned (.bool true) ∧ Below W.heap.size W w') (HNW : NewSpec) (HFD : FindSpec) (HAL : NoneSpec) (HEP : EmptySpec) (HNL : NilSpec) (ino : Int) (name : ByteArray) (w : World) :
    Calls Tryz.prog 4 #[.int .i64 ino, .string name] w fun e w' => e = .returned (.bool true) ∧ Below w.heap.size w w' := by
  have HF := Lib.hid (fun W => lawFresh_any W 60 4 pl60)
  have HAW := Lib.hid HAW
  have HNW := Lib.hid HNW
  have HFD := Lib.hid HFD
  have HAL := Lib.hid HAL
  have HEP := Lib.hid HEP
  have HNI := Lib.hid (fun W => HNL W ino name)
  have hmf : ∀ (fn : Fn) (first cap : Array Value) (w : World), (Instr.makeFunc fn first cap).run Tryz.prog w = .ok (.func fn first cap) w := fun _ _ _ _ => rfl
  have r0 : RowAt (w.alloc (.cells #[.int .i64 ino] 3)) w.heap.size [.int .i64 ino] := ((Lo.start (L := []) w (by simp)).alloc _ rfl [.int .i64 ino] 3).get 0 _ rfl
  have b0 : Below w.heap.size w (w.alloc (.cells #[.int .i64 ino] 3)) := (Below.refl _ _).alloc (Nat.le_refl _) _
  have HR0 := Lib.hid r0
  have HB0 := Lib.hid b0
  clear r0 b0
  by_cases hg : (300 : Int) < (name.size : Int)
  · go_enter Tryz.func4, Tryz.ntmps4
    go_wp2_with (go_at_call 5; (with_reducible refine (HAW.out _).mono ?_); rintro e w1 ⟨rfl, hb1⟩; have HB1 := Lib.hid (HB0.out.trans (hb1.mono HB0.out.size)); clear hb1)
    go_ret
    exact ⟨rfl, HB1.out⟩
  · go_enter Tryz.func4, Tryz.ntmps4
    go_wp2_with fail
    refine (HAW.out _).mono ?_
    rintro e w1 ⟨rfl, hb1⟩
    have HR1 := Lib.hid (HR0.out.step hb1)
    have HB1 := Lib.hid (HB0.out.trans (hb1.mono HB0.out.size))
    clear hb1 HR0 HB0
    go_wp2_with fail
    refine (HF.out w1).mono ?_
    rintro e w2 ⟨V, b, s, rfl, hv, hs, hb2, hV, hbb⟩
    have HR2 := Lib.hid (HR1.out.step hb2)
    have HB2 := Lib.hid (HB1.out.trans (hb2.mono HB1.out.size))
    have hlt1 : w.heap.size < w1.heap.size := HR1.out.lt
    have hXN : w.heap.size ∉ V :: b.all := fun q => by
      rcases List.mem_cons.1 q with q | q
      · omega
      · have := hbb _ q; omega
    have HXN := Lib.hid hXN
    have HBG : Hid (∀ k ∈ V :: b.all, w.heap.size ≤ k) := Lib.hid (fun k hk => by
      rcases List.mem_cons.1 hk with rfl | hk
      · omega
      · have := hbb k hk; omega)
    have HN2 := Lib.hid (HNW.out w2 V b s hv hs)
    clear hv hs hb2 hV hbb hXN hlt1 HR1 HB1
    by_cases i1 : ino = 1
    · have j1 : (ino == 1) = true := by simp [i1]
      have HW : Hid (wantN ino = 0) := Lib.hid (by unfold wantN; rw [if_pos i1])
      have HI : Hid (decide (ino = 1) = true) := Lib.hid (by simp [i1])
      have HFI := Lib.hid (fun W (h : TW W V b 1) => by have := HFD.out W V b 1 ino name h (by decide) (by omega); rw [HW.out] at this; exact this)
      have HAI := Lib.hid (fun W (h : TW W V b 2) => by have := HAL.out W V b 2 ino h (by decide); rw [HW.out] at this; exact this)
      clear i1
      go_wp2_with (first
        | (go_at_call 11; (with_reducible refine HN2.out.mono ?_); rintro e w4 ⟨rfl, ht4, ho4⟩; have HT := Lib.hid ht4; have HR := Lib.hid (HR2.out.only ho4 HXN.out); have HB := Lib.hid (HB2.out.trans (Only.toBelow ho4 HB2.out.size HBG.out)); clear ht4 ho4 HR2 HB2; have cx := HR.out.cell 0 _ rfl)
        | (go_at_call 14; (with_reducible refine (HFI.out _ HT.out).mono ?_); rintro e w5 ⟨rfl, ht5, ho5⟩; have HT5 := Lib.hid ht5; have HR5 := Lib.hid (HR.out.only ho5 HXN.out); have HB5 := Lib.hid (HB.out.trans (Only.toBelow ho5 HB.out.size HBG.out)); clear HT HR HB ht5 ho5 cx; have cx := HR5.out.cell 0 _ rfl)
        | (go_at_call 10; (with_reducible refine (HAI.out _ HT5.out).mono ?_); rintro e w6 ⟨A2, c2, rfl, ht6, ho6⟩; have HT6 := Lib.hid ht6; have HR6 := Lib.hid (HR5.out.only ho6 HXN.out); have HB6 := Lib.hid (HB5.out.trans (Only.toBelow ho6 HB5.out.size HBG.out)); clear HT5 HR5 HB5 ht6 ho6 cx; have cx := HR6.out.cell 0 _ rfl; have HX7 := Lib.hid (none_box HT6.out HR6.out HXN.out); have HE7 := Lib.hid (HEP.out _ V b _ ino w.heap.size w6.heap.size HX7.out.1 (by decide) HX7.out.2.1 HX7.out.2.2.1 HXN.out HX7.out.2.2.2.1); (rw [HW.out, HI.out] at HE7))
        | (go_at_call 11; (with_reducible refine HE7.out.mono ?_); rintro e w8 ⟨rfl, hy8, ho8⟩; have HY8 := Lib.hid hy8; have HR8 := Lib.hid (HX7.out.2.1.only ho8 HX7.out.2.2.2.2.1); have HB8 := Lib.hid ((HB6.out.trans (HX7.out.2.2.2.2.2.mono HB6.out.size)).trans (Only.toBelow ho8 (HB6.out.trans (HX7.out.2.2.2.2.2.mono HB6.out.size)).size (fun k hk => (List.mem_cons.1 hk).elim (fun q => q ▸ HB6.out.size) (HBG.out k)))); clear hy8 ho8 cx; have cx := HR8.out.cell 0 _ rfl)
        | (go_at_call 14; (with_reducible refine (HNI.out _).mono ?_); rintro e w9 ⟨rfl, hb9⟩; have HY9 := Lib.hid (HY8.out.step hb9); have HB9 := Lib.hid (HB8.out.trans (hb9.mono HB8.out.size)); clear hb9; have cy := HY9.out.cell 0 _ rfl))
      go_ret
      exact ⟨rfl, HB9.out⟩
    · have j1 : (ino == 1) = false := by simp [i1]
      by_cases i2 : ino = 2
      · have j2 : (ino == 2) = true := by simp [i2]
        have HW : Hid (wantN ino = 20) := Lib.hid (by unfold wantN; rw [if_neg i1, if_pos i2])
        have HI : Hid (decide (ino = 1) = false) := Lib.hid (by simp [i1])
        have HFI := Lib.hid (fun W (h : TW W V b 1) => by have := HFD.out W V b 1 ino name h (by decide) (by omega); rw [HW.out] at this; exact this)
        have HAI := Lib.hid (fun W (h : TW W V b 2) => by have := HAL.out W V b 2 ino h (by decide); rw [HW.out] at this; exact this)
        clear i1 i2
        go_wp2_with (first
          | (go_at_call 11; (with_reducible refine HN2.out.mono ?_); rintro e w4 ⟨rfl, ht4, ho4⟩; have HT := Lib.hid ht4; have HR := Lib.hid (HR2.out.only ho4 HXN.out); have HB := Lib.hid (HB2.out.trans (Only.toBelow ho4 HB2.out.size HBG.out)); clear ht4 ho4 HR2 HB2; have cx := HR.out.cell 0 _ rfl)
          | (go_at_call 14; (with_reducible refine (HFI.out _ HT.out).mono ?_); rintro e w5 ⟨rfl, ht5, ho5⟩; have HT5 := Lib.hid ht5; have HR5 := Lib.hid (HR.out.only ho5 HXN.out); have HB5 := Lib.hid (HB.out.trans (Only.toBelow ho5 HB.out.size HBG.out)); clear HT HR HB ht5 ho5 cx; have cx := HR5.out.cell 0 _ rfl)
          | (go_at_call 10; (with_reducible refine (HAI.out _ HT5.out).mono ?_); rintro e w6 ⟨A2, c2, rfl, ht6, ho6⟩; have HT6 := Lib.hid ht6; have HR6 := Lib.hid (HR5.out.only ho6 HXN.out); have HB6 := Lib.hid (HB5.out.trans (Only.toBelow ho6 HB5.out.size HBG.out)); clear HT5 HR5 HB5 ht6 ho6 cx; have cx := HR6.out.cell 0 _ rfl; have HX7 := Lib.hid (none_box HT6.out HR6.out HXN.out); have HE7 := Lib.hid (HEP.out _ V b _ ino w.heap.size w6.heap.size HX7.out.1 (by decide) HX7.out.2.1 HX7.out.2.2.1 HXN.out HX7.out.2.2.2.1); (rw [HW.out, HI.out] at HE7))
          | (go_at_call 11; (with_reducible refine HE7.out.mono ?_); rintro e w8 ⟨rfl, hy8, ho8⟩; have HY8 := Lib.hid hy8; have HR8 := Lib.hid (HX7.out.2.1.only ho8 HX7.out.2.2.2.2.1); have HB8 := Lib.hid ((HB6.out.trans (HX7.out.2.2.2.2.2.mono HB6.out.size)).trans (Only.toBelow ho8 (HB6.out.trans (HX7.out.2.2.2.2.2.mono HB6.out.size)).size (fun k hk => (List.mem_cons.1 hk).elim (fun q => q ▸ HB6.out.size) (HBG.out k)))); clear hy8 ho8 cx; have cx := HR8.out.cell 0 _ rfl)
          | (go_at_call 14; (with_reducible refine (HNI.out _).mono ?_); rintro e w9 ⟨rfl, hb9⟩; have HY9 := Lib.hid (HY8.out.step hb9); have HB9 := Lib.hid (HB8.out.trans (hb9.mono HB8.out.size)); clear hb9; have cy := HY9.out.cell 0 _ rfl))
        go_ret
        exact ⟨rfl, HB9.out⟩
      · have j2 : (ino == 2) = false := by simp [i2]
        have HW : Hid (wantN ino = 22) := Lib.hid (by unfold wantN; rw [if_neg i1, if_neg i2])
        have HI : Hid (decide (ino = 1) = false) := Lib.hid (by simp [i1])
        have HFI := Lib.hid (fun W (h : TW W V b 1) => by have := HFD.out W V b 1 ino name h (by decide) (by omega); rw [HW.out] at this; exact this)
        have HAI := Lib.hid (fun W (h : TW W V b 2) => by have := HAL.out W V b 2 ino h (by decide); rw [HW.out] at this; exact this)
        clear i1 i2
        go_wp2_with (first
          | (go_at_call 11; (with_reducible refine HN2.out.mono ?_); rintro e w4 ⟨rfl, ht4, ho4⟩; have HT := Lib.hid ht4; have HR := Lib.hid (HR2.out.only ho4 HXN.out); have HB := Lib.hid (HB2.out.trans (Only.toBelow ho4 HB2.out.size HBG.out)); clear ht4 ho4 HR2 HB2; have cx := HR.out.cell 0 _ rfl)
          | (go_at_call 14; (with_reducible refine (HFI.out _ HT.out).mono ?_); rintro e w5 ⟨rfl, ht5, ho5⟩; have HT5 := Lib.hid ht5; have HR5 := Lib.hid (HR.out.only ho5 HXN.out); have HB5 := Lib.hid (HB.out.trans (Only.toBelow ho5 HB.out.size HBG.out)); clear HT HR HB ht5 ho5 cx; have cx := HR5.out.cell 0 _ rfl)
          | (go_at_call 10; (with_reducible refine (HAI.out _ HT5.out).mono ?_); rintro e w6 ⟨A2, c2, rfl, ht6, ho6⟩; have HT6 := Lib.hid ht6; have HR6 := Lib.hid (HR5.out.only ho6 HXN.out); have HB6 := Lib.hid (HB5.out.trans (Only.toBelow ho6 HB5.out.size HBG.out)); clear HT5 HR5 HB5 ht6 ho6 cx; have cx := HR6.out.cell 0 _ rfl; have HX7 := Lib.hid (none_box HT6.out HR6.out HXN.out); have HE7 := Lib.hid (HEP.out _ V b _ ino w.heap.size w6.heap.size HX7.out.1 (by decide) HX7.out.2.1 HX7.out.2.2.1 HXN.out HX7.out.2.2.2.1); (rw [HW.out, HI.out] at HE7))
          | (go_at_call 11; (with_reducible refine HE7.out.mono ?_); rintro e w8 ⟨rfl, hy8, ho8⟩; have HY8 := Lib.hid hy8; have HR8 := Lib.hid (HX7.out.2.1.only ho8 HX7.out.2.2.2.2.1); have HB8 := Lib.hid ((HB6.out.trans (HX7.out.2.2.2.2.2.mono HB6.out.size)).trans (Only.toBelow ho8 (HB6.out.trans (HX7.out.2.2.2.2.2.mono HB6.out.size)).size (fun k hk => (List.mem_cons.1 hk).elim (fun q => q ▸ HB6.out.size) (HBG.out k)))); clear hy8 ho8 cx; have cx := HR8.out.cell 0 _ rfl)
          | (go_at_call 14; (with_reducible refine (HNI.out _).mono ?_); rintro e w9 ⟨rfl, hb9⟩; have HY9 := Lib.hid (HY8.out.step hb9); have HB9 := Lib.hid (HB8.out.trans (hb9.mono HB8.out.size)); clear hb9; have cy := HY9.out.cell 0 _ rfl))
        go_ret
        exact ⟨rfl, HB9.out⟩
end

section
open Go.RowKit Go.Maps
open Dk (zeros zeros_length)
open Ii (Ino)
theorem newD_any {w : World} {B : Nat} {b : Blk} {s : Sto} {n I : Int} (h : Ctx w B b s n I) :
    Calls Tryz.prog 12 #[.pointer (some ⟨B, 0, none⟩)] w (Cb B b n I [] w s (Fs.newM n I fileI) (fun _ _ => True) (fun _ => True)) := by
  have HC := Lib.hid (snew_step h fileI)
  clear h
  go_enter Tryz.func12, Tryz.ntmps12
  go_wp2_with fail
  refine HC.out.mono ?_
  rintro e w3 (⟨a, s', L, E, G, C, rfl, O⟩ | ⟨er, F, h0, Br, rfl, O⟩)
  · go_wp2_with fail
    go_end0
    exact Or.inl ⟨a, s', L, E, G, C, rfl, trivial, O⟩
  · exact ⟨rfl, Or.inr ⟨er, F, h0, Br, rfl, trivial, O⟩⟩
theorem new_spec : NewSpec := by
  intro W V b s hv hs
  have HD := do_any hv (hs.vs pl60) (by rw [hs.q.1]; decide) [] (fun k hk => absurd hk List.not_mem_nil) (Fs.newM 60 4 fileI) (fun _ _ => True) (fun _ => True) (fun _ _ _ _ _ _ _ _ => trivial) (fun _ _ _ _ _ _ _ => trivial) 12 #[] (fun args W => by simp [go_sem]) (fun B w1 _ hc _ => newD_any hc)
  refine HD.mono ?_
  rintro e w3 ⟨hst, hO⟩
  obtain ⟨er, s2, a, hto, rfl, HV3, _⟩ := hst.to
  obtain ⟨V', L, hnew, htwo⟩ := new_two hs pl60 (by decide) fileI (by decide) (by decide)
  have htwo : Two 60 4 fileI V' := htwo
  obtain ⟨hc2, hr⟩ := (hs.calm pl60).pureLong (by decide) ((Fs.cv_new 60 4 fileI (nv s)).mono (by decide)) hto
  rcases hr with ⟨x, V2, L2, e1, rfl, _, hout⟩ | ⟨V2, L2, e1, _⟩
  · rw [hnew] at e1
    injection e1 with a1 a2
    injection a2 with a2 _
    subst a2
    exact ⟨rfl, ⟨s2, HV3, hc2, htwo.out pl60 (by decide) hout⟩, hO.mono (fun i hi => by simpa using hi)⟩
  · rw [hnew] at e1
    injection e1 with a1
    cases a1
end

section
open Dk (zeros zeros_length)
open Go.RowKit
theorem qinfoB : (Tryz.prog.info? 174).map (·.size) = some 2 := by kernel_rfl
theorem qne_types : (174 : TypeId) ≠ 5 := by decide
theorem qinfo_byte : (Tryz.prog.info? 5).map (fun i => (i.size, i.bytes)) = some (1, 1) := by kernel_rfl
theorem qzero_byte : (Tryz.prog.info? 5).map (fun i => i.zero) = some (some (.int .u8 0)) := by kernel_rfl
abbrev QBuilt (B b : Nat) (l : List UInt8) (w : World) : Prop := Lib.BuilderAt 174 5 B b (.pointer (some ⟨b, 0, none⟩)) (byteVals l) w
theorem qcopyCheck_used (b : Nat) (w : World) (h0 : w.cell? ⟨b, 0, none⟩ = some (.pointer (some ⟨b, 0, none⟩))) :
    Calls Tryz.prog 163 #[.pointer (some ⟨b, 0, none⟩)] w fun e w' => e = .returned (.tuple #[]) ∧ w = w' := by
  obtain ⟨j, hj, _⟩ := Option.map_eq_some_iff.1 qinfoB
  go_enter Tryz.func163, Tryz.ntmps163
  go_wp2
  rw [Lib.run_neq_ptr_same w _ Tryz.underlying172 hj]
  go_wp2
  go_end0
  exact ⟨rfl, rfl⟩
theorem qcopyCheck_fresh (b : Nat) (w : World) (h0 : w.cell? ⟨b, 0, none⟩ = some (.pointer none)) (hsh : w.shape? b = some (174, 2)) (hfz : w.frozen? ⟨b, 0, none⟩ = false) :
    Calls Tryz.prog 163 #[.pointer (some ⟨b, 0, none⟩)] w fun e w' => e = .returned (.tuple #[]) ∧ w.setCell ⟨b, 0, none⟩ (.pointer (some ⟨b, 0, none⟩)) = w' := by
  obtain ⟨j, hj, hjs⟩ := Option.map_eq_some_iff.1 qinfoB
  go_enter Tryz.func163, Tryz.ntmps163
  go_wp2
  rw [Lib.run_to_unsafe w ⟨b, 0, none⟩ Tryz.underlying172 Tryz.underlying225 hj (by rw [hjs]; decide) hsh (Nat.zero_lt_succ 1)]
  simp only [Result.andThen]
  rw [Oper.upon_value]
  go_wp2
  rw [run_callFunc_extern Tryz.func179 (by kernel_rfl) (by kernel_rfl) (by kernel_rfl) (e := Extern.AbiNoEscape.same) (by kernel_rfl)]
  rw [Lib.run_noEscape]
  simp only [Result.andThen]
  rw [Oper.upon_value]
  go_wp2
  rw [Lib.run_from_unsafe w ⟨b, 0, none⟩ Tryz.underlying225 Tryz.underlying172 hj hsh (by kernel_rfl)]
  simp only [Result.andThen]
  rw [Oper.upon_value]
  go_wp2
  go_end0
  exact ⟨rfl, rfl⟩
theorem qheap_lt {w : World} {b : Nat} {o : Obj} (h : w.heap[b]? = some o) : b < w.heap.size := (Array.getElem?_eq_some_iff.1 h).1
theorem qgrow_fresh (B b n : Nat) (w : World) (hB : B ≤ b) (hbk : w.heap[b]? = some (.cells #[.pointer (some ⟨b, 0, none⟩), .slice none 0 0] 174 (0, 0))) (hBw : B ≤ w.heap.size) (hn : n ≤ 1000000) :
    Calls Tryz.prog 164 #[.pointer (some ⟨b, 0, none⟩), .int .i64 (n : Int)] w fun e w' => e = .returned (.tuple #[]) ∧ (QBuilt B b [] w' ∧ Below B w w') := by
  obtain ⟨cs, hrun, hle, hmax⟩ := Lib.run_makeNoZero (P := Tryz.prog) w.drew #[3] 158 5 Tryz.underlying158 n (by omega)
  have hcall : (callFunc 180 #[.int .i64 (n : Int)]).run Tryz.prog w.drew = .ok (.value (.slice (some ⟨w.drew.heap.size, 0, none⟩) n cs.size)) (w.drew.drew.drew.alloc (.cells cs 5)) := by
    rw [run_callFunc_extern Tryz.func180 (by kernel_rfl) (by kernel_rfl) (by kernel_rfl) (e := Extern.BytealgMakeNoZero.makeNoZero #[3] #[158]) (by kernel_rfl), hrun]
    rfl
  have hlt := qheap_lt hbk
  have c1 : w.drew.cell? ⟨b, 1, none⟩ = some (.slice none 0 0) := by
    have : w.drew.heap[b]? = _ := hbk
    rw [Lib.cell_of_heap this]; rfl
  have hb2 : (w.alloc (.cells cs 5)).heap[b]? = _ := (Lib.alloc_old w _ b hlt).trans hbk
  have c2 : (w.alloc (.cells cs 5)).cell? ⟨b, 1, none⟩ = some (.slice none 0 0) := by rw [Lib.cell_of_heap hb2]; rfl
  have f2 : (w.alloc (.cells cs 5)).frozen? ⟨b, 1, none⟩ = false := Lib.frozen_of_heap hb2 1
  have hcopy : ∀ W : World, (Builtin.copy_ #[158, 158] 3 #[.slice (some ⟨w.heap.size, 0, none⟩) 0 cs.size, .slice none 0 0]).run Tryz.prog W = .ok (goInt 0) W :=
    fun W => run_copy_none W 158 158 3 5 _ _ 0 cs.size 0 0 Tryz.underlying158 (by kernel_rfl) rfl
  have hfin := Lib.hid (Lib.grown_fresh (T := 174) (e := 5) (cs := cs) hB hbk hBw (hmax (by unfold maxLen; omega)) qne_types)
  clear hrun hle hmax hb2 hbk hlt
  go_enter Tryz.func164, Tryz.ntmps164
  go_wp2
  go_region
  all_goals (go_wp2; go_end0; exact ⟨rfl, hfin.out⟩)
theorem qgrow_new (B b n : Nat) (w : World) (hB : B ≤ b) (hbk : w.heap[b]? = some (.cells #[.pointer none, .slice none 0 0] 174 (0, 0))) (hBw : B ≤ w.heap.size) (hn : n ≤ 1000000) :
    Calls Tryz.prog 133 #[.pointer (some ⟨b, 0, none⟩), .int .i64 (n : Int)] w fun e w' => e = .returned (.tuple #[]) ∧ (QBuilt B b [] w' ∧ Below B w w') := by
  have hbk1 : (w.setCell ⟨b, 0, none⟩ (.pointer (some ⟨b, 0, none⟩))).heap[b]? = some (.cells #[.pointer (some ⟨b, 0, none⟩), .slice none 0 0] 174 (0, 0)) := by
    simp [World.setCell, Array.getElem?_modify, hbk]
  have hsz : B ≤ (w.setCell ⟨b, 0, none⟩ (.pointer (some ⟨b, 0, none⟩))).heap.size := by simpa [World.setCell] using hBw
  have HC := Lib.hid (qcopyCheck_fresh b w (by rw [Lib.cell_of_heap hbk]; rfl) (by simp [World.shape?, hbk]) (Lib.frozen_of_heap hbk 0))
  have HB1 := Lib.hid ((Below.refl B w).setCell (p := ⟨b, 0, none⟩) hB (.pointer (some ⟨b, 0, none⟩)))
  generalize w.setCell ⟨b, 0, none⟩ (.pointer (some ⟨b, 0, none⟩)) = w1 at hbk1 hsz HC HB1
  have c1 : w1.cell? ⟨b, 1, none⟩ = some (.slice none 0 0) := by rw [Lib.cell_of_heap hbk1]; rfl
  have HU : Hid (QBuilt B b [] w1) := Lib.hid ⟨hB, .slice none 0 0, hbk1, World.ownsRow_nil _ _ _ _, by simp [Value.ownBlock]⟩
  have HG := Lib.hid (qgrow_fresh B b n w1.drew hB hbk1 hsz hn)
  clear hbk1 hbk hsz
  have h0 : ¬ (n : Int) < 0 := by omega
  go_enter Tryz.func133, Tryz.ntmps133
  go_wp2_with (go_at_call 163; refine HC.out.mono ?_; rintro e w' ⟨rfl, rfl⟩)
  go_region
  by_cases hn0 : 0 < n
  all_goals
    go_wp2_with (go_at_call 164; refine HG.out.mono ?_; rintro e w' ⟨rfl, h1, h2⟩)
    first
      | (go_end0; exact ⟨rfl, h1, HB1.out.drew.trans h2⟩)
      | (go_end0; exact ⟨rfl, HU.out.drew, HB1.out.drew⟩)
theorem qwrite_any (B b : Nat) (l : List UInt8) (ad : Addr) (m c : Nat) (news : List UInt8) (w : World) (h : QBuilt B b l w)
    (hl : news.length = m) (hnews : ∀ j u, (byteVals news)[j]? = some u → w.cell? (ad.add j) = some u) (hlen : l.length + m ≤ 1000000) (hBw : B ≤ w.heap.size) :
    Calls Tryz.prog 134 #[.pointer (some ⟨b, 0, none⟩), .slice (some ad) m c] w fun e w' => e = .returned (.tuple #[.int .i64 m, .nilIface]) ∧ (QBuilt B b (l ++ news) w' ∧ Below B w w') := by
  obtain ⟨i, hi, hz⟩ := Option.map_eq_some_iff.1 qinfo_byte
  have hzero : i.zero = some (.int .u8 0) := by
    have := qzero_byte
    rw [hi] at this
    simpa using this
  obtain ⟨hB, v, hbk, hown, hne⟩ := h
  have c0 : w.cell? ⟨b, 0, none⟩ = some (.pointer (some ⟨b, 0, none⟩)) := by rw [Lib.cell_of_heap hbk]; rfl
  have c1 : w.cell? ⟨b, 1, none⟩ = some v := by rw [Lib.cell_of_heap hbk]; rfl
  have HC := Lib.hid (qcopyCheck_used b w c0)
  have hlt := qheap_lt hbk
  rw [byteVals_length] at hown
  go_enter Tryz.func134, Tryz.ntmps134
  go_wp2_with (first
    | (go_at_call 163; refine HC.out.mono ?_; rintro e w' ⟨rfl, rfl⟩)
    | (at_builtin; refine wpList_append_own _ rfl _ _ 158 rfl B 5 i (.int .u8 0) 1 1 Tryz.underlying158 hi hzero (congrArg Prod.fst hz) (congrArg Prod.snd hz) rfl (by decide) _ _ _ rfl hown ad m c (byteVals news) rfl (by rw [byteVals_length]; omega) hnews (byteVals_one _) ?c3 ?c4 hBw ?_))
  case c3 => unfold maxLen; omega
  case c4 => omega
  intro v' w2 hown' hgrow _
  have hb2 : w2.heap[b]? = some (.cells #[.pointer (some ⟨b, 0, none⟩), v] 174 (0, 0)) := (hgrow.block b hlt (fun e => hne e.symm)).trans hbk
  have d0 : w2.cell? ⟨b, 0, none⟩ = some (.pointer (some ⟨b, 0, none⟩)) := by rw [Lib.cell_of_heap hb2]; rfl
  have d1 : w2.cell? ⟨b, 1, none⟩ = some v := by rw [Lib.cell_of_heap hb2]; rfl
  have f1 : w2.frozen? ⟨b, 1, none⟩ = false := Lib.frozen_of_heap hb2 1
  have hbel : Below B w w2 := ⟨hgrow.os, hgrow.tape, hgrow.output, hgrow.size, fun k hk => hgrow.block k (by omega) (fun e => by
    rcases hown.2 with ⟨hv, _⟩ | ⟨g, cap, cur, hv, hg, _⟩
    · rw [hv] at e; cases e
    · rw [hv] at e
      simp only [Value.ownBlock, Option.some.injEq] at e
      omega)⟩
  have HF : Hid (QBuilt B b (l ++ news) (w2.setCell ⟨b, 1, none⟩ v')) := Lib.hid (Lib.BuilderAt.put hB hb2 (by rw [byteVals_length, List.length_append, hl]; unfold byteVals at hown' ⊢; rw [List.map_append]; exact hown') qne_types)
  have HB := Lib.hid (hbel.setCell (p := ⟨b, 1, none⟩) hB v')
  obtain ⟨ao, n', cap, rfl⟩ : ∃ ao n' cap, v' = .slice ao n' cap := by
    rcases hown'.2 with ⟨hv, _⟩ | ⟨g, cap, cur, hv, _⟩
    · exact ⟨_, _, _, hv⟩
    · exact ⟨_, _, _, hv⟩
  clear hbel hown' hgrow hb2 hown hbk hne
  go_wp2
  go_ret2
  exact ⟨rfl, HF.out, HB.out⟩
theorem qstring_some (B b : Nat) (l : List UInt8) (w : World) (h : QBuilt B b l w) (h0 : l ≠ []) (hm : l.length ≤ 1000000) :
    Calls Tryz.prog 135 #[.pointer (some ⟨b, 0, none⟩)] w fun e w' => e = .returned (.string (strOf l)) ∧ Below B w w' := by
  obtain ⟨hB, v, hbk, hown, hne⟩ := h
  have hl0 : l.length ≠ 0 := by simpa using h0
  rw [byteVals_length] at hown
  obtain ⟨g, cap, cur, rfl, hbg, hg, hnc, hcm, hcs, htake⟩ : ∃ g cap cur, v = .slice (some ⟨g, 0, none⟩) l.length cap ∧ B ≤ g ∧ w.heap[g]? = some (.cells cur 5 (0, 0)) ∧ l.length ≤ cap ∧ cap ≤ maxLen ∧ cur.size = cap * 1 ∧ cur.toList.take (l.length * 1) = byteVals l := by
    rcases hown.2 with ⟨_, hz⟩ | ⟨g, cap, cur, hv, r⟩
    · exact absurd hz hl0
    · exact ⟨g, cap, cur, hv, r⟩
  have c1 : w.drew.cell? ⟨b, 1, none⟩ = some (.slice (some ⟨g, 0, none⟩) l.length cap) := by
    have : w.drew.heap[b]? = _ := hbk
    rw [Lib.cell_of_heap this]; rfl
  have hSD : (Builtin.unsafeSliceData_ #[158] 203 #[.slice (some ⟨g, 0, none⟩) l.length cap]).run Tryz.prog w.drew = .ok (.pointer (some ⟨g, 0, none⟩)) w.drew :=
    Lib.run_unsafeSliceData_row _ _ _ _ _ _ (by omega)
  have hUS : (Builtin.unsafeString_ #[203, 3] 9 #[.pointer (some ⟨g, 0, none⟩), .int .i64 l.length]).run Tryz.prog w.drew = .ok (.string (strOf l)) (w.drew.freeze ⟨g, 0, none⟩ l.length) := by
    refine Lib.run_unsafeString_row w.drew 203 3 9 5 Tryz.underlying203 cells8 g cur.size (by have hg' : w.drew.heap[g]? = some (.cells cur 5 (0, 0)) := hg; simp [World.shape?, hg']) l h0 (by omega) (by omega) ?_
    intro j x hx
    exact hown.cells (g := g) rfl j (.int .u8 x.toNat) (by simp [byteVals, hx])
  have HB : Hid (Below B w (w.drew.freeze ⟨g, 0, none⟩ l.length)) := Lib.hid (Lib.below_freeze (Below.drew (Below.refl B w)) (p := ⟨g, 0, none⟩) hbg _)
  have hk : l.length ≤ 9223372036854775807 := by omega
  generalize strOf l = s at hUS ⊢
  clear hown htake hcs hg hbk hne h0 hl0
  go_enter Tryz.func135, Tryz.ntmps135
  go_wp2
  go_region
  all_goals (go_wp2; go_ret; exact ⟨rfl, HB.out⟩)
theorem qstring_nil (B b : Nat) (p : Value) (w : World) (hbk : w.heap[b]? = some (.cells #[p, .slice none 0 0] 174 (0, 0))) :
    Calls Tryz.prog 135 #[.pointer (some ⟨b, 0, none⟩)] w fun e w' => e = .returned (.string (strOf [])) ∧ Below B w w' := by
  have hUS : ∀ (W : World) (q : Option Addr), (Builtin.unsafeString_ #[203, 3] 9 #[.pointer q, .int .i64 0]).run Tryz.prog W = .ok (.string .empty) W := fun W q => Lib.run_unsafeString_none W _ _ _ q
  have c1 : w.drew.cell? ⟨b, 1, none⟩ = some (.slice none 0 0) := by
    have : w.drew.heap[b]? = _ := hbk
    rw [Lib.cell_of_heap this]; rfl
  have hSD : (Builtin.unsafeSliceData_ #[158] 203 #[.slice none 0 0]).run Tryz.prog w.drew = .ok (.pointer none) w.drew := rfl
  clear hbk
  go_enter Tryz.func135, Tryz.ntmps135
  go_wp2
  go_region
  all_goals (go_wp2; go_ret; exact ⟨rfl, Below.drew (Below.refl B w)⟩)
end

section
open Dk (zeros zeros_length)
open Go.RowKit
structure QPageRow (w : World) (A : Option Addr) (n : Nat) (ps : List (List UInt8)) : Prop where
  len : ps.length = n
  small : n ≤ maxLen
  size : ∀ i, i < n → (ps.getD i []).length = 64
  cells : 0 < n → ∃ b off, A = some ⟨b, off, none⟩ ∧ b < w.heap.size ∧ ∀ i, i < n → w.rangeAt b (off + i * 64) (byteVals (ps.getD i []))
theorem flat_one (ps : List (List UInt8)) (k : Nat) (h : k < ps.length) : (ps.take (k + 1)).flatten = (ps.take k).flatten ++ ps.getD k [] := by
  rw [take_one ps [] k h, List.flatten_append]; simp
theorem flat_length (ps : List (List UInt8)) (n : Nat) (hl : ps.length = n) (hs : ∀ i, i < n → (ps.getD i []).length = 64) : ∀ k, k ≤ n → (ps.take k).flatten.length = k * 64
  | 0, _ => by simp
  | k + 1, hk => by
    rw [flat_one ps k (by omega), List.length_append, flat_length ps n hl hs k (by omega), hs k (by omega)]; omega
theorem QBuilt.below {N B b : Nat} {l : List UInt8} {w w' : World} (h : QBuilt B b l w) (hb : Below N w w') (hN : w.heap.size ≤ N) : QBuilt B b l w' := by
  obtain ⟨hB, v, hbk, hown, hne⟩ := h
  have hlt := qheap_lt hbk
  refine ⟨hB, v, (hb.block b (by omega)).trans hbk, ⟨hown.1, ?_⟩, hne⟩
  rcases hown.2 with h1 | ⟨g, cap, cur, hv, hg, hgk, r⟩
  · exact Or.inl h1
  · have := qheap_lt hgk
    exact Or.inr ⟨g, cap, cur, hv, hg, (hb.block g (by omega)).trans hgk, r⟩
theorem qgrow_zero (B b : Nat) (w : World) (hB : B ≤ b) (hbk : w.heap[b]? = some (.cells #[.pointer none, .slice none 0 0] 174 (0, 0))) :
    Calls Tryz.prog 133 #[.pointer (some ⟨b, 0, none⟩), .int .i64 0] w fun e w' => e = .returned (.tuple #[]) ∧ (w'.heap[b]? = some (.cells #[.pointer (some ⟨b, 0, none⟩), .slice none 0 0] 174 (0, 0)) ∧ Below B w w') := by
  have hbk1 : (w.setCell ⟨b, 0, none⟩ (.pointer (some ⟨b, 0, none⟩))).heap[b]? = some (.cells #[.pointer (some ⟨b, 0, none⟩), .slice none 0 0] 174 (0, 0)) := by
    simp [World.setCell, Array.getElem?_modify, hbk]
  have HC := Lib.hid (qcopyCheck_fresh b w (by rw [Lib.cell_of_heap hbk]; rfl) (by simp [World.shape?, hbk]) (Lib.frozen_of_heap hbk 0))
  have HB1 := Lib.hid ((Below.refl B w).setCell (p := ⟨b, 0, none⟩) hB (.pointer (some ⟨b, 0, none⟩)))
  generalize w.setCell ⟨b, 0, none⟩ (.pointer (some ⟨b, 0, none⟩)) = w1 at hbk1 HC HB1
  have c1 : w1.cell? ⟨b, 1, none⟩ = some (.slice none 0 0) := by rw [Lib.cell_of_heap hbk1]; rfl
  have HK : Hid (w1.drew.heap[b]? = _) := Lib.hid hbk1
  clear hbk1 hbk
  go_enter Tryz.func133, Tryz.ntmps133
  go_wp2_with (go_at_call 163; refine HC.out.mono ?_; rintro e w' ⟨rfl, rfl⟩)
  go_region
  go_wp2
  go_end0
  exact ⟨rfl, HK.out, HB1.out.drew⟩
theorem qnew_builder (w : World) : (w.alloc (.cells #[.pointer none, .slice none 0 0] 174)).heap[w.heap.size]? = some (.cells #[.pointer none, .slice none 0 0] 174 (0, 0)) := by
  unfold World.alloc; exact Array.getElem?_push_size
theorem join_zero (A : Option Addr) (c : Nat) (w : World) :
    Calls Tryz.prog 93 #[.slice A 0 c] w fun e w' => e = .returned (.string (strOf [])) ∧ Below w.heap.size w w' := by
  have HB : Hid (Below w.heap.size w (w.alloc (.cells #[.pointer none, .slice none 0 0] 174))) := Lib.hid ((Below.refl _ _).alloc (Nat.le_refl _) _)
  have HG := Lib.hid (qgrow_zero w.heap.size w.heap.size _ (Nat.le_refl _) (qnew_builder w))
  go_enter Tryz.func93, Tryz.ntmps93
  go_wp2_with (go_at_call 133; refine HG.out.mono ?_; rintro e w1 ⟨rfl, hk, hb⟩)
  have HS := Lib.hid (qstring_nil w.heap.size w.heap.size _ w1 hk)
  clear hk
  go_loop [12] (fun i => i = .int .i64 0) (fun _ => 0)
  case atStart => exact rfl
  case round =>
    obtain rfl := hrel
    go_wp2_with (go_at_call 135; refine HS.out.mono ?_; rintro e w2 ⟨rfl, hb2⟩)
    go_ret
    exact ⟨rfl, (HB.out.trans hb).trans hb2⟩
theorem join_row (b off n c : Nat) (ps : List (List UInt8)) (w : World) (hl : ps.length = n) (hn : n ≤ 1000) (hpos : 0 < n) (hb : b < w.heap.size)
    (hsize : ∀ i, i < n → (ps.getD i []).length = 64) (hcell : ∀ i, i < n → w.rangeAt b (off + i * 64) (byteVals (ps.getD i []))) :
    Calls Tryz.prog 93 #[.slice (some ⟨b, off, none⟩) n c] w fun e w' => e = .returned (.string (strOf ps.flatten)) ∧ Below w.heap.size w w' := by
  have HB : Hid (Below w.heap.size w (w.alloc (.cells #[.pointer none, .slice none 0 0] 174))) := Lib.hid ((Below.refl _ _).alloc (Nat.le_refl _) _)
  have hg := qgrow_new w.heap.size w.heap.size (n * 64) _ (Nat.le_refl _) (qnew_builder w) (by simp) (by omega)
  rw [Int.natCast_mul] at hg
  have HG := Lib.hid hg
  clear hg
  have HC := Lib.hid hcell
  have HL := Lib.hid hl
  have HZ := Lib.hid hsize
  have HF := Lib.hid (flat_length ps n hl hsize)
  clear hcell hl hsize
  go_enter Tryz.func93, Tryz.ntmps93
  go_wp2_with fail
  refine HG.out.mono ?_
  rintro e w1 ⟨rfl, hk1, hb1⟩
  have HK1 := Lib.hid hk1
  have HB1 := Lib.hid (HB.out.trans hb1)
  clear hk1 hb1 HG HB
  go_wp2_with fail
  go_loopw [12] (fun i wr => ∃ k : Nat, k ≤ n ∧ i = .int .i64 k ∧ QBuilt w.heap.size w.heap.size (ps.take k).flatten wr ∧ Below w.heap.size w wr) (fun i _ => n - (intOf i).toNat)
  case atStart => exact ⟨0, Nat.zero_le _, rfl, HK1.out, HB1.out⟩
  case round =>
    obtain ⟨k, hk, rfl, hbk, hbel⟩ := hrel
    have HBK := Lib.hid hbk
    clear hbk
    have hfl := HF.out k hk
    by_cases hlt : k < n
    · have HS := Lib.hid (flat_one ps k (by rw [HL.out]; exact hlt))
      have hcr : Hid (wr.rangeAt b (off + k * 64) (byteVals (ps.getD k []))) := Lib.hid fun j v hv => (hbel.cell (p := ⟨b, off + k * 64 + j, none⟩) hb).trans (HC.out k hlt j v hv)
      have hz := Lib.hid (HZ.out k hlt)
      generalize ps.getD k [] = p at hcr HS hz
      have hlen : Hid ((byteVals p).length = 64) := Lib.hid (by rw [byteVals_length]; exact hz.out)
      have hfl' : (ps.take k).flatten.length ≤ 64000 := by omega
      clear hfl
      generalize (ps.take k).flatten = l at HBK HS hfl'
      go_wp2_with (first
        | (with_reducible refine wpList_load_mid rfl 97 (.tmp 14) rfl b (off + k * 64) rfl (byteVals p) _ hcr.out Tryz.underlying97 rfl (page_info.trans (congrArg some hlen.out.symm)) ?_)
        | ((with_reducible refine wpList_store_new rfl (.tmp 5) (.tmp 15) rfl rfl ?_ ?_ hz.out ?_); (exact rfl); (exact rfl); intro W2 hP hB2 hz2
           have hsl := run_slice_page_all W2 wr.heap.size
           have HW := Lib.hid (qwrite_any w.heap.size w.heap.size l ⟨wr.heap.size, 0, none⟩ 64 64 p W2 (HBK.out.below hB2 (Nat.le_refl _)) hz.out (fun j u hu => by rw [Addr.add_mid]; exact hP.range j u hu) (by omega) (Nat.le_trans hbel.size hB2.size)))
        | (go_at_call 134; refine HW.out.mono ?_; rintro e w3 ⟨rfl, hk3, hb3⟩))
      go_roundw
      case rel => exact ⟨k + 1, by omega, by go_num, by rw [HS.out]; exact hk3, (hbel.trans (hB2.mono hbel.size)).trans hb3⟩
      case measure => simp [intOf]; omega
    · have HKK : ps.take k = ps := List.take_of_length_le (by rw [HL.out]; omega)
      obtain rfl : k = n := by omega
      rw [HKK] at HBK hfl
      have HS := Lib.hid (qstring_some w.heap.size w.heap.size ps.flatten wr HBK.out (fun e => by rw [e] at hfl; simp at hfl; omega) (by omega))
      clear hfl HKK
      go_wp2_with (go_at_call 135; refine HS.out.mono ?_; rintro e w2 ⟨rfl, hb2⟩)
      go_ret
      exact ⟨rfl, hbel.trans hb2⟩
theorem qjoin_any (A : Option Addr) (n c : Nat) (ps : List (List UInt8)) (w : World) (h : QPageRow w A n ps) (hn : n ≤ 1000) :
    Calls Tryz.prog 93 #[.slice A n c] w fun e w' => e = .returned (.string (strOf ps.flatten)) ∧ Below w.heap.size w w' := by
  by_cases h0 : n = 0
  · subst h0
    have hs : ps = [] := List.eq_nil_of_length_eq_zero h.len
    subst hs
    exact join_zero A c w
  · obtain ⟨b, off, rfl, hlt, hc⟩ := h.cells (by omega)
    exact join_row b off n c ps w h.len hn (by omega) hlt h.size hc
end

section
open Dk (zeros zeros_length)
open Go.RowKit
structure QRowAt (w : World) (b : Nat) (L : List UInt8) : Prop where
  range : w.rangeAt b 0 (byteVals L)
  free : w.there b 0 L.length
theorem qrowAt_new (w : World) (L : List UInt8) (t : TypeId) : QRowAt (w.alloc (.cells (byteVals L).toArray t)) w.heap.size L where
  range := fun j v hv => by
    rw [Nat.zero_add, World.cell?_alloc_mark]
    simpa using hv
  free := there_new w _ t _ (by rw [List.size_toArray, byteVals_length]; omega)
theorem QRowAt.over {w : World} {b : Nat} {L : List UInt8} (h : QRowAt w b L) (a : Nat) (s : List UInt8) (hs : a + s.length ≤ L.length) : QRowAt (w.setCells b a (byteVals s)) b (Pg.over L a s) where
  range := fun j v hv => by
    rw [Nat.zero_add]
    have hv' : (Pg.over L a s)[j]?.map (fun c => Value.int .u8 (c.toNat : Int)) = Option.some v := by rw [← hv]; unfold byteVals; rw [List.getElem?_map]
    rw [Pg.over_at _ _ _ _ hs] at hv'
    by_cases h1 : a ≤ j ∧ j < a + s.length
    · rw [if_neg (by omega), if_pos h1.2] at hv'
      have hin := World.cell?_setCells_in b (byteVals s) a w (fun i hi => by
        have := (h.free (a + i) (by rw [byteVals_length] at hi; omega)).1
        rwa [Nat.zero_add] at this) (j - a) (by rw [byteVals_length]; omega)
      rw [show a + (j - a) = j by omega] at hin
      rw [hin, ← hv', ← List.getElem?_eq_getElem]
      unfold byteVals
      rw [List.getElem?_map]
    · rw [World.cell?_setCells_out b (byteVals s) a w ⟨b, j, none⟩ (fun _ _ => by rw [byteVals_length]; show j < a ∨ a + s.length ≤ j; omega)]
      have hpj : L[j]?.map (fun c => Value.int .u8 (c.toNat : Int)) = Option.some v := by
        by_cases h2 : j < a
        · rw [if_pos h2] at hv'; exact hv'
        · rw [if_neg h2, if_neg (by omega)] at hv'; exact hv'
      have := h.range j v (by unfold byteVals; rw [List.getElem?_map]; exact hpj)
      rwa [Nat.zero_add] at this
  free := by
    rw [Pg.over_length _ _ _ hs]
    exact World.there_setCells h.free _ _ _
theorem QRowAt.drew {w : World} {b : Nat} {L : List UInt8} (h : QRowAt w b L) : QRowAt w.drew b L := ⟨(World.rangeAt_drew ..).2 h.range, (World.there_drew ..).2 h.free⟩
theorem QRowAt.part {w : World} {b : Nat} {L : List UInt8} (h : QRowAt w b L) (a n : Nat) : w.rangeAt b a (byteVals ((L.drop a).take n)) := fun j v hv => by
  unfold byteVals at hv
  rw [List.getElem?_map, List.getElem?_take] at hv
  by_cases hj : j < n
  · rw [if_pos hj, List.getElem?_drop] at hv
    have := h.range (a + j) v (by unfold byteVals; rw [List.getElem?_map]; exact hv)
    rwa [Nat.zero_add] at this
  · rw [if_neg hj] at hv; cases hv
theorem qmade_zero (N : Nat) : madeCells (Value.agg zeroCells).cells N = (byteVals (List.replicate N 0)).toArray := by
  apply Array.ext'
  have hz : ∀ i, i < 64 → (zeroCells : Array Value)[i]! = .int .u8 0 := fun i hi => by
    have h1 : zeroCells[i]? = some (.int .u8 0) := by
      unfold zeroCells
      rw [List.getElem?_toArray, byteVals_at zeros i (by rw [zeros_length]; exact hi)]
      have h2 : ∀ (j : Nat) (hj : j < zeros.length), zeros[j] = 0 := fun j hj => List.getElem_replicate ..
      rw [h2]; rfl
    rw [getElem!_def, h1]
  have hs : (Value.agg zeroCells).cells = zeroCells := rfl
  have hsz : zeroCells.size = 64 := rfl
  rw [hs]
  unfold madeCells
  rw [hsz, Array.toList_map, Array.toList_range]
  unfold byteVals
  rw [List.map_replicate]
  apply List.ext_getElem
  · simp
  · intro i h1 h2
    simp only [List.getElem_map, List.getElem_range, List.getElem_replicate]
    exact hz _ (Nat.mod_lt _ (by omega))
theorem qinfo_page : (Tryz.prog.info? 97).map (fun i => (i.zero, i.size, i.bytes)) = some (some (.agg zeroCells), 64, 64) := by kernel_rfl
theorem qrun_make_pages (w : World) (n : Nat) (hn : n ≤ 1000) : (Instr.makeSlice 86 (.int .i64 (n : Int)) (.int .i64 (n : Int))).run Tryz.prog w = .ok (.slice (some ⟨w.heap.size, 0, none⟩) n n) (w.alloc (.cells (byteVals (List.replicate (n * 64) 0)).toArray 97)) := by
  obtain ⟨i, hi, hz, hs, hb⟩ := info_parts qinfo_page
  have := run_make (P := Tryz.prog) w 86 97 i (.agg zeroCells) Tryz.underlying86 hi hz .i64 .i64 (n : Int) (n : Int) (by omega) (by omega) (by rw [hb]; omega) (by omega)
  rw [hs, Int.toNat_natCast, qmade_zero] at this
  exact this
theorem run_slice_part (w : World) (b o : Nat) :
    (Instr.sliceAt 97 (.pointer (some ⟨b, o, none⟩)) none none none).run Tryz.prog w = .ok (.slice (some ⟨b, o, none⟩) 64 64) w := by
  rw [run_sliceAt_array_all w _ _ underP, elemP, run_size8, arrP, Result.andThen_ok]
  unfold slicedAt
  rw [if_neg (by omega), Nat.zero_mul, Addr.add_mid, Nat.add_zero]
theorem run_copy_part (w : World) (b o : Nat) (s : ByteArray) (a : Nat) (l : List UInt8) (hl : l = (s.data.toList.drop a).take 64) (_ha : a ≤ s.size) (ht : w.there b o l.length) :
    (Builtin.copy_ #[158, 9] 3 #[.slice (some ⟨b, o, none⟩) 64 64, .string (s.extract a s.size)]).run Tryz.prog w = .ok (goInt l.length) (w.setCells b o (byteVals l)) := by
  have hu : (s.extract a s.size).data.toList = s.data.toList.drop a := by
    rw [ByteArray.data_extract, Array.toList_extract]
    apply List.take_of_length_le
    simp
  have husz : (s.extract a s.size).size = s.size - a := by simp
  have hll : l.length = min 64 (s.size - a) := by rw [hl]; simp
  have hmin : Nat.min (s.extract a s.size).size 64 = l.length := by rw [husz, hll]; exact Nat.min_comm _ _
  have hcells : ((s.extract a s.size).extract 0 l.length).data.map (fun b => Value.int .u8 (b.toNat : Int)) = (byteVals l).toArray := by
    unfold byteVals
    apply Array.ext'
    rw [Array.toList_map]
    congr 1
    rw [ByteArray.data_extract, Array.toList_extract, hu, List.extract_eq_take_drop, List.drop_zero, Nat.sub_zero]
    conv => rhs; rw [hl]
    rw [List.take_eq_take_iff]
    rw [hll]
    simp
  have hst := run_storeCells_cells (P := Tryz.prog) b o (byteVals l) 0 w (fun j hj => (ht j (by rw [byteVals_length] at hj; exact hj)).1) (fun j hj => (ht j (by rw [byteVals_length] at hj; exact hj)).2) (byteVals_one _)
  rw [Nat.add_zero] at hst
  have hsz := run_size8 w
  unfold Builtin.copy_
  simp only [List.getElem?_toArray, List.getElem?_cons_zero, List.getElem?_cons_succ, Sem.run_bind, run_underlying Tryz.underlying158, Result.andThen_ok, Builtin.lenOf, Sem.run_pure, hmin, hsz, Builtin.firstCells, hcells, hst]
theorem qover_over (p a c : List UInt8) : Pg.over (Pg.over p 0 a) a.length c = Pg.over p 0 (a ++ c) := by
  unfold Pg.over
  simp [List.drop_append]
def qpadded (n : Nat) (l : List UInt8) : List UInt8 := Pg.over (List.replicate (n * 64) 0) 0 l
theorem split_walk (s : ByteArray) (n : Nat) (w : World) (hn : n = (s.size + 63) / 64) (hs : s.size ≤ 60000) :
    Calls Tryz.prog 88 #[.string s] w fun e w' => e = .returned (.slice (some ⟨w.heap.size, 0, none⟩) n n) ∧ QRowAt w' w.heap.size (qpadded n s.data.toList) ∧ w.heap.size < w'.heap.size ∧ Below w.heap.size w w' := by
  have hq : ((s.size : Int) + 64 - 1) / 64 = (n : Int) := by omega
  have hmk := qrun_make_pages w n (by omega)
  have HN := Lib.hid hn
  clear hn
  go_enter Tryz.func88, Tryz.ntmps88
  go_wp2_with fail
  have HR := Lib.hid (qrowAt_new w (List.replicate (n * 64) 0) 97)
  have HB : Hid (Below w.heap.size w (w.alloc (.cells (byteVals (List.replicate (n * 64) 0)).toArray 97))) := Lib.hid ((Below.refl _ _).alloc (Nat.le_refl _) _)
  have hz : w.heap.size < (w.alloc (.cells (byteVals (List.replicate (n * 64) 0)).toArray 97)).heap.size := by simp
  have HZ := Lib.hid hz
  clear hz hmk hq
  generalize w.alloc (.cells (byteVals (List.replicate (n * 64) 0)).toArray 97) = w1 at HR HB HZ ⊢
  go_loopw [13] (fun i wr => ∃ k : Nat, k ≤ n ∧ i = .int .i64 k ∧ QRowAt wr w.heap.size (qpadded n (s.data.toList.take (k * 64))) ∧ w.heap.size < wr.heap.size ∧ Below w.heap.size w wr) (fun i _ => n - (intOf i).toNat)
  case atStart => exact ⟨0, Nat.zero_le _, rfl, by rw [Nat.zero_mul, List.take_zero, qpadded, Pg.over_nil]; exact HR.out, HZ.out, HB.out⟩
  case round =>
    obtain ⟨k, hk, rfl, hr, hsz, hbel⟩ := hrel
    have HRK := Lib.hid hr
    clear hr
    by_cases hlt : k < n
    · have hsl := run_slice_part wr.drew w.heap.size (k * 64)
      have hb1 : (k : Int) * 64 ≤ (s.size : Int) := by have := HN.out; omega
      have hb0 : 0 ≤ (k : Int) * 64 := by omega
      obtain ⟨l, hl⟩ : ∃ l, l = (s.data.toList.drop (k * 64)).take 64 := ⟨_, rfl⟩
      have hll : l.length ≤ 64 := by rw [hl]; simp; omega
      have htk : (s.data.toList.take (k * 64)).length = k * 64 := by simp; omega
      have hstep : qpadded n (s.data.toList.take ((k + 1) * 64)) = Pg.over (qpadded n (s.data.toList.take (k * 64))) (k * 64) l := by
        unfold qpadded
        have := qover_over (List.replicate (n * 64) 0) (s.data.toList.take (k * 64)) l
        rw [htk] at this
        rw [this, hl, Nat.add_mul, Nat.one_mul, List.take_add]
      have hfit : k * 64 + l.length ≤ (qpadded n (s.data.toList.take (k * 64))).length := by
        unfold qpadded
        rw [Pg.over_length _ _ _ (by rw [htk, List.length_replicate]; omega), List.length_replicate]; omega
      have hcp := run_copy_part wr.drew w.heap.size (k * 64) s (k * 64) l hl (by omega) (fun j hj => by
        have := HRK.out.drew.free (k * 64 + j) (by omega)
        rwa [Nat.zero_add] at this)
      have HR2 := Lib.hid (HRK.out.drew.over (k * 64) l hfit)
      have HS := Lib.hid hstep
      clear hl htk hstep hfit hll
      go_wp2_with fail
      go_region
      go_wp2_with fail
      go_roundw
      case rel =>
        refine ⟨k + 1, by omega, by go_num, by rw [HS.out]; exact HR2.out, ?_, ?_⟩
        · rw [heap_setCells]; exact hsz
        · exact below_setCells _ (Nat.le_refl _) _ _ _ hbel.drew
      case measure => simp [intOf]; omega
    · have htk : s.data.toList.take (k * 64) = s.data.toList := List.take_of_length_le (by have := HN.out; simp; omega)
      rw [htk] at HRK
      clear htk
      go_wp2
      go_ret
      exact ⟨rfl, HRK.out, hsz, hbel⟩
end

section
open Dk (zeros zeros_length)
open Go.RowKit
def qchunks (n : Nat) (L : List UInt8) : List (List UInt8) := (List.range n).map fun i => (L.drop (i * 64)).take 64
theorem chunks_length (n : Nat) (L : List UInt8) : (qchunks n L).length = n := by simp [qchunks]
theorem chunks_at (n : Nat) (L : List UInt8) (i : Nat) (h : i < n) : (qchunks n L).getD i [] = (L.drop (i * 64)).take 64 := by
  unfold qchunks
  rw [List.getD_eq_getElem?_getD, List.getElem?_map, List.getElem?_range h]; rfl
theorem padded_eq (n : Nat) (l : List UInt8) : qpadded n l = l ++ List.replicate (n * 64 - l.length) 0 := by
  unfold qpadded Pg.over
  simp [List.drop_replicate]
theorem padded_length (n : Nat) (l : List UInt8) (h : l.length ≤ n * 64) : (qpadded n l).length = n * 64 := by
  rw [padded_eq]; simp; omega
theorem padded_full (n : Nat) (l : List UInt8) (h : l.length = n * 64) : qpadded n l = l := by
  rw [padded_eq, h]; simp
theorem QRowAt.pages {w : World} {b n : Nat} {L : List UInt8} (h : QRowAt w b L) (hL : L.length = n * 64) (hb : b < w.heap.size) (hn : n ≤ 1000) : QPageRow w (some ⟨b, 0, none⟩) n (qchunks n L) where
  len := chunks_length n L
  small := by unfold maxLen; omega
  size := fun i hi => by rw [chunks_at n L i hi]; simp; omega
  cells := fun _ => ⟨b, 0, rfl, hb, fun i hi => by rw [chunks_at n L i hi, Nat.zero_add]; exact h.part (i * 64) 64⟩
theorem qsplit_any (s : ByteArray) (n : Nat) (w : World) (hn : n = (s.size + 63) / 64) (hs : s.size ≤ 60000) :
    Calls Tryz.prog 88 #[.string s] w fun e w' => e = .returned (.slice (some ⟨w.heap.size, 0, none⟩) n n) ∧ QPageRow w' (some ⟨w.heap.size, 0, none⟩) n (qchunks n (qpadded n s.data.toList)) ∧ w.heap.size < w'.heap.size ∧ Below w.heap.size w w' := by
  refine (split_walk s n w hn hs).mono ?_
  rintro e w' ⟨rfl, hr, hz, hb⟩
  exact ⟨rfl, hr.pages (padded_length n _ (by simp; omega)) hz (by omega), hz, hb⟩
end

section
open Go.RowKit Go.Maps
open Dk (zeros zeros_length)
open Ii (Ino)
open Dm (Ent Has)
open Fs (flat View)
def entE (e : Ent) : List Value := entL e.1 (strOf e.2)
theorem entE_length (e : Ent) : (entE e).length = 2 := rfl
theorem entE_one (e : Ent) : ∀ v ∈ entE e, v.oneCell' = true := entL_one _ _
def slotE (e : Ent) : List UInt8 := Nm.slot e.1 e.2
theorem eL_slotE {e : Ent} (h : Nm.standB e.1 e.2 = true) : eL (slotE e) = entE e ∧ okE (slotE e) = true := by
  unfold eL okE slotE entE
  rw [Nm.ent_slot h]
  exact ⟨rfl, rfl⟩
theorem blocks_range (t : List UInt8) : ∀ k, blocks (qchunks k t) = (List.range (4 * k)).map fun i => Nm.at_ t i
  | 0 => rfl
  | k + 1 => by
    have e : qchunks (k + 1) t = qchunks k t ++ [(t.drop (k * 64)).take 64] := by unfold qchunks; rw [List.range_succ, List.map_append]; rfl
    have hs : slots ((t.drop (k * 64)).take 64) = [Nm.at_ t (4 * k), Nm.at_ t (4 * k + 1), Nm.at_ t (4 * k + 2), Nm.at_ t (4 * k + 3)] := by
      unfold slots
      rw [Nat.mul_comm k 64, Dm.at_page t k 0 (by omega), Dm.at_page t k 1 (by omega), Dm.at_page t k 2 (by omega), Dm.at_page t k 3 (by omega)]
      rfl
    have hb : blocks (qchunks (k + 1) t) = blocks (qchunks k t) ++ slots ((t.drop (k * 64)).take 64) := by
      rw [e]; unfold blocks; rw [List.flatMap_append]; simp
    rw [hb, hs, blocks_range t k, show 4 * (k + 1) = 4 * k + 1 + 1 + 1 + 1 by omega, List.range_succ, List.range_succ, List.range_succ, List.range_succ]
    simp
theorem at_take (F : List UInt8) (m i : Nat) (h : 16 * i + 16 ≤ m) : Nm.at_ (F.take m) i = Nm.at_ F i := by
  apply List.ext_getElem?
  intro j
  rw [Nm.at_get, Nm.at_get]
  split
  · rw [List.getElem?_take, if_pos (by omega)]
  · rfl
def pagesE (E : List Ent) (F : List UInt8) : List (List UInt8) := qchunks (E.length / 4) (F.take (16 * E.length))
theorem pagesE_length (E : List Ent) (F : List UInt8) : (pagesE E F).length = E.length / 4 := chunks_length _ _
theorem blocks_dir {E : List Ent} {F : List UInt8} {H : Has} (h : Dm.Bytes E F) (o : Dm.Ok E H) : blocks (pagesE E F) = E.map slotE := by
  have h4 := o.four
  unfold pagesE
  rw [blocks_range, show 4 * (E.length / 4) = E.length by omega]
  apply List.ext_getElem?
  intro i
  rw [List.getElem?_map, List.getElem?_map]
  by_cases c : i < E.length
  · obtain ⟨e, he⟩ : ∃ e, E[i]? = some e := ⟨_, List.getElem?_eq_getElem c⟩
    rw [List.getElem?_range c, he]
    show some (Nm.at_ (F.take (16 * E.length)) i) = some (slotE e)
    rw [at_take F (16 * E.length) i (by omega), h.at1 i e he]
    rfl
  · rw [List.getElem?_eq_none (by rw [List.length_range]; omega), List.getElem?_eq_none (by omega)]
    rfl
theorem allOk_dir {E : List Ent} (h : ∀ e ∈ E, Nm.standB e.1 e.2 = true) : allOk (E.map slotE) = true ∧ (E.map slotE).flatMap eL = E.flatMap entE := by
  induction E with
  | nil => exact ⟨rfl, rfl⟩
  | cons e t ih =>
    obtain ⟨i1, i2⟩ := ih (fun x hx => h x (List.mem_cons_of_mem _ hx))
    obtain ⟨j1, j2⟩ := eL_slotE (h e (List.mem_cons_self ..))
    refine ⟨?_, ?_⟩
    · unfold allOk at i1 ⊢
      rw [List.map_cons, List.all_cons, j2, i1]
      rfl
    · rw [List.map_cons, List.flatMap_cons, List.flatMap_cons, j1, i2]
theorem pagesE_at {E : List Ent} {F : List UInt8} (j : Nat) (hj : 4 * j < E.length) (h4 : E.length % 4 = 0) : (pagesE E F)[j]? = some ((F.drop (64 * j)).take 64) := by
  unfold pagesE qchunks
  rw [List.getElem?_map, List.getElem?_range (by omega)]
  show some (((F.take (16 * E.length)).drop (j * 64)).take 64) = some _
  congr 1
  rw [List.drop_take, List.take_take, Nat.mul_comm j 64, Nat.min_eq_left (by omega)]
theorem Dm.Dr.whole {n I : Int} {V : View} {x : Ino} {u : Nat} {P : Nat → List UInt8} {E : List Ent} {H : Has} (h : Dm.Dr n I V x u P E H) : Fs.readF n I 1 0 67840 V = .ok ((flat P 36).take (16 * E.length)) := by
  have h1 := h.rt.read 0 (16 * E.length) (by rw [h.size]; omega)
  have hf := h.few
  unfold Fs.readF at h1 ⊢
  rw [h.rt.taken] at h1 ⊢
  simp only [] at h1 ⊢
  rw [if_neg (by omega)] at h1 ⊢
  rw [h.size] at h1 ⊢
  have e1 : (min ((16 * E.length : Nat) : Int) (16 * (E.length : Int) - ((0 : Nat) : Int))).toNat = 16 * E.length := by omega
  have e2 : (min (67840 : Int) (16 * (E.length : Int) - 0)).toNat = 16 * E.length := by omega
  rw [e1] at h1
  rw [e2]
  exact h1
theorem flatE_length (E : List Ent) : (E.flatMap entE).length = E.length * 2 := by
  induction E with
  | nil => rfl
  | cons b t ih => rw [List.flatMap_cons, List.length_append, ih, entE_length, List.length_cons]; omega
theorem flatE_at : ∀ (E : List Ent) (i : Nat) (e : Ent) (j : Nat) (v : Value), E[i]? = some e → (entE e)[j]? = some v → (E.flatMap entE)[i * 2 + j]? = some v
  | [], i, x, j, v, hx, _ => by simp at hx
  | y :: r, 0, x, j, v, hx, hv => by
    simp at hx
    subst hx
    have hj : j < 2 := (List.getElem?_eq_some_iff.1 hv).1
    rw [List.flatMap_cons, Nat.zero_mul, Nat.zero_add, List.getElem?_append_left (by rw [entE_length]; exact hj)]
    exact hv
  | y :: r, i + 1, x, j, v, hx, hv => by
    rw [List.flatMap_cons, List.getElem?_append_right (by rw [entE_length]; omega), entE_length, show (i + 1) * 2 + j - 2 = i * 2 + j by omega]
    exact flatE_at r i x j v (by simpa using hx) hv
end

section
open Go.RowKit Go.Maps
open Dk (zeros zeros_length)
open Ii (Ino)
theorem sinode_yes {w : World} {B : Nat} {b : Blk} {s : Sto} {n I : Int} (h : Ctx w B b s n I) (i : Int) (c : 1 ≤ i ∧ i ≤ I) : Calls Tryz.prog 45 #[.pointer (some ⟨B, 0, none⟩), .int .i64 i] w fun e w' => e = .returned (inoV (Fs.inoAt (nv s) i)) ∧ Below w.heap.size w w' := by
  have S := Lib.hid (ino_box w)
  have HB : Hid (∀ W l, Lo [] w l W → W.rangeAt B 0 (baseL b.s n I)) := Lib.hid (fun W l hl => (Lo.ctx (L := []) hl h).step.base)
  have HG : Hid (∀ W l, Lo [] w l W → Calls Tryz.prog 35 #[.pointer (some ⟨B, 0, none⟩)] W fun e w' => e = .returned (.bool true) ∧ W = w') := Lib.hid (fun W l hl => goesOn_any (Lo.ctx (L := []) hl h))
  have HT : Hid (∀ W l, Lo [] w l W → Calls Tryz.prog 80 #[baseV b.s n I, .int .i64 i] W fun e w' => e = .returned (.tuple #[inoV (Fs.inoAt (nv s) i), .int .i64 0]) ∧ Below W.heap.size W w') := Lib.hid (fun W l hl => binode_yes (hl.store h.store) h.vs i c.1 c.2)
  clear h c
  generalize Fs.inoAt (nv s) i = x at HT ⊢
  go_enter Tryz.func45, Tryz.ntmps45
  go_wp2_with (first
    | (go_at_call 35; refine (HG.out _ _ S.out).mono ?_; rintro e w1 ⟨rfl, rfl⟩)
    | (with_reducible refine wpList_load_base (HB.out _ _ S.out) rfl (.tmp 14) rfl rfl ?_)
    | (go_at_call 80; refine (HT.out _ _ S.out).mono ?_; rintro e w1 ⟨rfl, hb⟩; replace S := Lib.hid (S.out.below hb); clear hb)
    | ((with_reducible refine wpList_store_newrow (vs := inoL x) inoT ?_ (inoL_one _) rfl (.tmp 5) (.tmp 18) rfl rfl ?_ ?_ ?_); (exact rfl); (exact rfl); (exact rfl); intro W4 hP hB2 hz2; replace S := Lib.hid (S.out.made hP hB2 hz2); clear hP hB2 hz2)
    | (go_at_call 81; (with_reducible refine (must_ok _).mono ?_); rintro e w1 ⟨rfl, rfl⟩)
    | (with_reducible refine wpList_load_rw inoT (S.out.get 1 _ rfl) rfl rfl (.tmp 5) rfl rfl ?_)
    | ((with_reducible refine wpList_store_rw (vs := inoL x) inoT (S.out.get 0 _ rfl) ?_ ?_ (inoL_one _) rfl (.tmp 4) (.tmp 23) rfl ?_ ?_ ?_); (exact rfl); (exact rfl); (exact rfl); (exact rfl)))
  have S2 := Lib.hid (S.out.put 0 _ rfl (inoL x) rfl)
  exact bodyPost_ret (results_row1 inoT _ 4 rfl _ (S2.out.get 0 _ rfl) rfl rfl) rfl ⟨rfl, S2.out.bel⟩
theorem sinode_no {w : World} {B : Nat} {b : Blk} {s : Sto} {n I : Int} (h : Ctx w B b s n I) (i : Int) (c : i < 1 ∨ I < i) : Calls Tryz.prog 45 #[.pointer (some ⟨B, 0, none⟩), .int .i64 i] w fun e w' => e = .panicked [failE B] ∧ Broke w' B b s n I 22 ∧ Only [B] w w' := by
  have S := Lib.hid (ino_box w)
  have HB : Hid (∀ W l, Lo [] w l W → W.rangeAt B 0 (baseL b.s n I)) := Lib.hid (fun W l hl => (Lo.ctx (L := []) hl h).step.base)
  have HG : Hid (∀ W l, Lo [] w l W → Calls Tryz.prog 35 #[.pointer (some ⟨B, 0, none⟩)] W fun e w' => e = .returned (.bool true) ∧ W = w') := Lib.hid (fun W l hl => goesOn_any (Lo.ctx (L := []) hl h))
  have HT : Hid (∀ W l, Lo [] w l W → Calls Tryz.prog 80 #[baseV b.s n I, .int .i64 i] W fun e w' => e = .returned (.tuple #[inoV Ii.zero, .int .i64 22]) ∧ Below W.heap.size W w') := Lib.hid (fun W l hl => binode_no h.vs i c)
  have HM : Hid (∀ W l, Lo [] w l W → Calls Tryz.prog 81 #[.pointer (some ⟨B, 0, none⟩), .int .i64 22] W fun e w' => e = .panicked [failE B] ∧ Broke w' B b s n I 22 ∧ Only [B] w w') := Lib.hid (fun W l hl => (must_no (Lo.ctx (L := []) hl h) 22 (by decide)).mono fun e w' hh => ⟨hh.1, hh.2.1, (show Only [B] w W from Only.below hl.bel).via hh.2.2 (fun i hi => Or.inl hi)⟩)
  clear h c
  go_enter Tryz.func45, Tryz.ntmps45
  go_wp2_with (first
    | (go_at_call 35; refine (HG.out _ _ S.out).mono ?_; rintro e w1 ⟨rfl, rfl⟩)
    | (with_reducible refine wpList_load_base (HB.out _ _ S.out) rfl (.tmp 14) rfl rfl ?_)
    | (go_at_call 80; refine (HT.out _ _ S.out).mono ?_; rintro e w1 ⟨rfl, hb⟩; replace S := Lib.hid (S.out.below hb); clear hb)
    | ((with_reducible refine wpList_store_newrow (vs := inoL Ii.zero) inoT ?_ (inoL_one _) rfl (.tmp 5) (.tmp 18) rfl rfl ?_ ?_ ?_); (exact rfl); (exact rfl); (exact rfl); intro W4 hP hB2 hz2; replace S := Lib.hid (S.out.made hP hB2 hz2); clear hP hB2 hz2)
    | (go_at_call 81; refine (HM.out _ _ S.out).mono ?_; rintro e w1 ⟨rfl, hR⟩))
  exact ⟨rfl, rfl, hR⟩
theorem sread_yes {w : World} {B : Nat} {b : Blk} {s : Sto} {n I : Int} (h : Ctx w B b s n I) (i off cnt : Int) (h1 : off ≤ 9223372036854775807) {t : List UInt8} (hx : Fs.readF n I i off cnt (nv s) = .ok t) : Calls Tryz.prog 89 #[.pointer (some ⟨B, 0, none⟩), .int .i64 i, .int .i64 off, .int .i64 cnt] w fun e w' => e = .returned (.string (strOf t)) ∧ Below w.heap.size w w' := by
  have HB : Hid (w.rangeAt B 0 (baseL b.s n I)) := Lib.hid h.step.base
  have HG := Lib.hid (goesOn_any h)
  have HT := Lib.hid (bread_any h.store h.vs i off cnt h1)
  rw [hx] at HT
  simp only [exV] at HT
  clear h hx h1
  go_enter Tryz.func89, Tryz.ntmps89
  go_wp2_with (first
    | (go_at_call 35; refine HG.out.mono ?_; rintro e w1 ⟨rfl, rfl⟩)
    | (with_reducible refine wpList_load_base HB.out rfl (.tmp 17) rfl rfl ?_)
    | (go_at_call 131; refine HT.out.mono ?_; rintro e w1 ⟨rfl, hb⟩)
    | (go_at_call 81; (with_reducible refine (must_ok _).mono ?_); rintro e w1 ⟨rfl, rfl⟩))
  go_ret
  exact ⟨rfl, hb⟩
def dirL (B : Nat) (i : Int) : List Value := [.pointer (some ⟨B, 0, none⟩), .int .i64 i]
abbrev dirV (B : Nat) (i : Int) : Value := .agg #[.pointer (some ⟨B, 0, none⟩), .int .i64 i]
theorem dirL_one (B : Nat) (i : Int) : ∀ v ∈ dirL B i, v.oneCell' = true := by
  intro v hv
  simp only [dirL, List.mem_cons, List.not_mem_nil, or_false] at hv
  rcases hv with rfl | rfl <;> rfl
theorem dirT : RowT 52 2 := ⟨⟨_, Tryz.underlying52, rfl⟩, by kernel_rfl⟩
theorem dir_box (w : World) : Lo [] w [(w.heap.size, [.pointer none, .int .i64 0])] (w.alloc (.cells #[.pointer none, .int .i64 0] 52)) :=
  (Lo.start w (by simp)).alloc _ rfl [.pointer none, .int .i64 0] _
def ofE (I i : Int) (V : Fs.View) : Int := if 1 ≤ i ∧ i ≤ I then (if (Fs.inoAt V i).k = 2 then 0 else if (Fs.inoAt V i).k = 0 then 22 else 20) else 22
theorem of_yes {w : World} {B : Nat} {b : Blk} {s : Sto} {n I : Int} (h : Ctx w B b s n I) (i : Int) (hx : ofE I i (nv s) = 0) : Calls Tryz.prog 16 #[.pointer (some ⟨B, 0, none⟩), .int .i64 i] w fun e w' => e = .returned (dirV B i) ∧ Below w.heap.size w w' := by
  unfold ofE at hx
  by_cases c : 1 ≤ i ∧ i ≤ I
  · rw [if_pos c] at hx
    by_cases k2 : (Fs.inoAt (nv s) i).k = 2
    · have S := Lib.hid (dir_box w)
      have HI : Hid (∀ W l, Lo [] w l W → Calls Tryz.prog 45 #[.pointer (some ⟨B, 0, none⟩), .int .i64 i] W fun e w' => e = .returned (inoV (Fs.inoAt (nv s) i)) ∧ Below W.heap.size W w') := Lib.hid (fun W l hl => sinode_yes (Lo.ctx (L := []) hl h) i c)
      clear h c hx
      generalize Fs.inoAt (nv s) i = x at HI k2
      have hfd : ∀ W : World, (Instr.field 47 (inoV x) 0).run Tryz.prog W = .ok (.int .i64 2) W := fun W => by rw [← k2]; kernel_rfl
      clear k2
      go_enter Tryz.func16, Tryz.ntmps16
      go_wp2_with (first
        | (go_at_call 45; refine (HI.out _ _ S.out).mono ?_; rintro e w1 ⟨rfl, hb⟩; replace S := Lib.hid (S.out.below hb); clear hb)
        | ((with_reducible refine wpList_store_rw (vs := dirL B i) dirT (S.out.get 0 _ rfl) ?_ ?_ (dirL_one _ _) rfl (.tmp 4) (.tmp 19) rfl ?_ ?_ ?_); (exact rfl); (exact rfl); (exact rfl); (exact rfl)))
      have S2 := Lib.hid (S.out.put 0 _ rfl (dirL B i) rfl)
      exact bodyPost_ret (results_row1 dirT _ 4 rfl _ (S2.out.get 0 _ rfl) rfl rfl) rfl ⟨rfl, S2.out.bel⟩
    · rw [if_neg k2] at hx
      split at hx <;> exact absurd hx (by decide)
  · rw [if_neg c] at hx
    exact absurd hx (by decide)
theorem of_no {w : World} {B : Nat} {b : Blk} {s : Sto} {n I : Int} (h : Ctx w B b s n I) (i er : Int) (hx : ofE I i (nv s) = er) (h0 : er ≠ 0) : Calls Tryz.prog 16 #[.pointer (some ⟨B, 0, none⟩), .int .i64 i] w fun e w' => e = .panicked [failE B] ∧ Broke w' B b s n I er ∧ Only [B] w w' := by
  have S := Lib.hid (dir_box w)
  have HF : Hid (∀ W l, Lo [] w l W → Calls Tryz.prog 46 #[.pointer (some ⟨B, 0, none⟩), .int .i64 er] W fun e w' => e = .panicked [failE B] ∧ Broke w' B b s n I er ∧ Only [B] w w') := Lib.hid (fun W l hl => (fail_any (Lo.ctx (L := []) hl h) er h0).mono fun e w' hh => ⟨hh.1, hh.2.1, (show Only [B] w W from Only.below hl.bel).via hh.2.2 (fun i hi => Or.inl hi)⟩)
  unfold ofE at hx
  by_cases c : 1 ≤ i ∧ i ≤ I
  · rw [if_pos c] at hx
    have HI : Hid (∀ W l, Lo [] w l W → Calls Tryz.prog 45 #[.pointer (some ⟨B, 0, none⟩), .int .i64 i] W fun e w' => e = .returned (inoV (Fs.inoAt (nv s) i)) ∧ Below W.heap.size W w') := Lib.hid (fun W l hl => sinode_yes (Lo.ctx (L := []) hl h) i c)
    clear h c
    generalize Fs.inoAt (nv s) i = x at HI hx
    have hfd : ∀ W : World, (Instr.field 47 (inoV x) 0).run Tryz.prog W = .ok (.int .i64 x.k) W := fun W => by kernel_rfl
    by_cases k2 : x.k = 2
    · rw [if_pos k2] at hx
      exact absurd hx.symm h0
    · rw [if_neg k2] at hx
      have g2 : (x.k == 2) = false := by simpa using k2
      by_cases k0 : x.k = 0
      · rw [if_pos k0] at hx
        have g0 : (x.k == 0) = true := by rw [k0]; rfl
        subst hx
        clear k2 k0
        go_enter Tryz.func16, Tryz.ntmps16
        go_wp2_with (first
          | (go_at_call 45; refine (HI.out _ _ S.out).mono ?_; rintro e w1 ⟨rfl, hb⟩; replace S := Lib.hid (S.out.below hb); clear hb)
          | (go_at_call 46; refine (HF.out _ _ S.out).mono ?_; rintro e w1 ⟨rfl, hR⟩))
        exact ⟨rfl, rfl, hR⟩
      · rw [if_neg k0] at hx
        have g0 : (x.k == 0) = false := by simpa using k0
        subst hx
        clear k2 k0
        go_enter Tryz.func16, Tryz.ntmps16
        go_wp2_with (first
          | (go_at_call 45; refine (HI.out _ _ S.out).mono ?_; rintro e w1 ⟨rfl, hb⟩; replace S := Lib.hid (S.out.below hb); clear hb)
          | (go_at_call 46; refine (HF.out _ _ S.out).mono ?_; rintro e w1 ⟨rfl, hR⟩))
        exact ⟨rfl, rfl, hR⟩
  · rw [if_neg c] at hx
    subst hx
    have HI : Hid (∀ W l, Lo [] w l W → Calls Tryz.prog 45 #[.pointer (some ⟨B, 0, none⟩), .int .i64 i] W fun e w' => e = .panicked [failE B] ∧ Broke w' B b s n I 22 ∧ Only [B] w w') := Lib.hid (fun W l hl => (sinode_no (Lo.ctx (L := []) hl h) i (by omega)).mono fun e w' hh => ⟨hh.1, hh.2.1, (show Only [B] w W from Only.below hl.bel).via hh.2.2 (fun i hi => Or.inl hi)⟩)
    clear h c HF
    go_enter Tryz.func16, Tryz.ntmps16
    go_wp2_with (go_at_call 45; refine (HI.out _ _ S.out).mono ?_; rintro e w1 ⟨rfl, hR⟩)
    exact ⟨rfl, rfl, hR⟩
end
end Go.Proofs.YtmpfcgjjejlhdaaGreat
