/- Texts of the proof. -/
import Derived.Test.YtmpfcgjjejlhdaaGreatBal
import Derived.Test.YtmpfcgjjejlhdaaGreatBah
import Derived.WalkSpells
import Derived.Defers
import Derived.Recover
import Derived.LaidEqlPtr
import Derived.Laws.EntriesVeiled
import Derived.Test.YtmpfcgjjejlhdaaGreatBab
import Derived.Test.YtmpfcgjjejlhdaaGreatBaf
import Derived.Test.YtmpfcgjjejlhdaaGreatBai
set_option maxRecDepth 100000
set_option maxHeartbeats 16000000
namespace Go.Proofs.YtmpfcgjjejlhdaaGreat
section
open Go.RowKit Go.Maps
open Dk (zeros zeros_length)
open Ii (Ino)
theorem inodeBit_any (i : Int) (w : World) (h : 1 ≤ i ∧ i ≤ 1000) : Calls Tryz.prog 42 #[.int .i64 i] w fun e w' => e = .returned (.int .i64 (i - 1)) ∧ w = w' := by
  go_enter Tryz.func42, Tryz.ntmps42
  go_wp2
  go_ret
  exact ⟨rfl, rfl⟩
theorem taken_in {I i : Int} {V : Fs.View} {x : Ino} (h : Fs.takenF I i V = .ok x) : 1 ≤ i ∧ i ≤ I := by
  unfold Fs.takenF at h
  split at h
  · assumption
  · cases h
theorem tell_ok {α : Type} {f : Fs.View → Except Int α} {V V' : Fs.View} {a : α} {L : List Nat} (h : Fs.tell f V = (.ok a, V', L)) : f V = .ok a := by
  unfold Fs.tell at h
  injection h
theorem inodeBits_is {n I : Int} (h : Pl.rightB n I = true) (w : World) : Calls Tryz.prog 41 #[planV n I] w fun e w' => e = .returned (.int .i64 41) ∧ Below w.heap.size w w' := by
  have := plInodeBits_any n I w
  rw [if_pos h] at this
  exact this
theorem snew_step {w : World} {B : Nat} {b : Blk} {s : Sto} {n I : Int} (h : Ctx w B b s n I) (x : Ino) : Calls Tryz.prog 13 #[.pointer (some ⟨B, 0, none⟩), inoV x] w (Ends B b n I [] w s (Fs.newM n I x) fun i e _ => e = .returned (.int .i64 i)) := by
  refine calls_of fun R H => ?_
  have S0 := Lib.hid (Stp.start h (by simp) H)
  have HI := h.vs.bd
  have HIB := Lib.hid (fun w => inodeBits_is h.vs.pl w)
  have HOK := Lib.hid (bits_ok h.vs).2
  have HW : Hid (∀ W, Calls Tryz.prog 37 #[.agg (inoL x).toArray, .agg #[.int .i64 0, .int .i64 0, .int .i64 0, .int .i64 0, .int .i64 0, .int .i64 0, .int .i64 0, .int .i64 0, .int .i64 0, .int .i64 0, .int .i64 0]] W fun e w' => e = .returned (inoV (Fs.withP x Ii.zero)) ∧ Below W.heap.size W w') := Lib.hid (fun W => withP_any x Ii.zero)
  unfold Fs.newM at S0
  have hI2 := HI.2.1
  clear h H HI
  unfold inoV
  go_enter Tryz.func13, Tryz.ntmps13
  have HGO := Lib.hid (fun W (hc : Ctx W B b s n I) => goesOn_any hc)
  go_wp2_with fail
  generalize hw : World.alloc _ _ = w1
  have S : Hid (Stp R B b n I [] w (fun (i : Int) e _ => e = .returned (.int .i64 i)) [(w.heap.size, inoL x)] s (Fs.andThen (Fs.rightM n I (Fs.withP x Ii.zero)) fun y => Fs.andThen (Fs.leastM I) fun i => Fs.andThen (Fs.setI i y) fun _ => Fs.andThen (Fs.markM 41 (i - 1) true) fun _ => Fs.ret i) w1) := Lib.hid (by
    rw [← hw]
    exact S0.out.alloc w.heap.size rfl (inoL x) _)
  clear hw S0
  go_wp2_with (first
    | (go_at_call 35; (with_reducible refine (HGO.out _ S.out.ctx).mono ?_); rintro e w2 ⟨rfl, rfl⟩)
    | (with_reducible refine wpList_load_rw inoT (S.out.get 0 _ rfl) rfl rfl (.tmp 3) rfl rfl ?_)
    | (go_at_call 37; (with_reducible refine (HW.out _).mono ?_); rintro e w3 ⟨rfl, hb⟩; replace S := Lib.hid (S.out.below hb); clear hb)
    | (go_at_call 36; (with_reducible refine (smustRight_any S.out.ctx (Fs.withP x Ii.zero)).mono ?_); intro e w4 hE; rcases S.out.bind hE with ⟨rfl, hR⟩ | ⟨y, s4, L4, _, rfl, S2⟩; (exact ⟨rfl, hR⟩); clear S hE; have S := Lib.hid S2; clear S2)
    | ((with_reducible refine wpList_store_rw (vs := inoL y) inoT (S.out.get 0 _ rfl) ?_ ?_ (inoL_one _) rfl (.tmp 3) (.tmp 13) rfl ?_ ?_ ?_); (exact rfl); (exact rfl); (exact rfl); (exact rfl); have S3 := Lib.hid (S.out.put 0 _ rfl (inoL y) rfl); clear S; have S := Lib.hid S3.out; clear S3)
    | (go_at_call 38; (with_reducible refine (sleast_any S.out.ctx).mono ?_); intro e w5 hE; rcases S.out.bind hE with ⟨rfl, hR⟩ | ⟨i, s5, L5, hi, rfl, S2⟩; (exact ⟨rfl, hR⟩); have hib := Fs.least_bd _ _ (tell_ok hi); clear S hE hi; have S := Lib.hid S2; clear S2)
    | (go_at_call 39; refine (sset_step S.out.ctx i y hib.1 (by omega)).mono ?_; intro e w6 hE; rcases S.out.bind hE with ⟨rfl, hR⟩ | ⟨_, s6, L6, _, rfl, S2⟩; (exact ⟨rfl, hR⟩); clear S hE; have S := Lib.hid S2; clear S2)
    | (with_reducible refine wpList_load_plan (S.out.row).plan rfl (.tmp 24) rfl rfl ?_)
    | (go_at_call 41; (with_reducible refine (HIB.out _).mono ?_); rintro e w7 ⟨rfl, hb⟩; replace S := Lib.hid (S.out.below hb); clear hb)
    | (go_at_call 42; (with_reducible refine (inodeBit_any i _ (by omega)).mono ?_); rintro e w8 ⟨rfl, rfl⟩)
    | (go_at_call 40; (with_reducible refine (smark_step S.out.ctx 41 (i - 1) true HOK.out).mono ?_); intro e w9 hE; rcases S.out.bind hE with ⟨rfl, hR⟩ | ⟨_, s9, L9, _, rfl, S2⟩; (exact ⟨rfl, hR⟩); clear S hE; have S := Lib.hid S2; clear S2))
  exact S.out.done rfl
end

section
open Go.RowKit Go.Maps
open Dk (zeros zeros_length)
open Ii (Ino)
section
variable {γ α : Type} {R : Ending → World → Prop} {B : Nat} {b : Blk} {n I : Int} {Ls : List Nat} {w0 : World} {K : α → Ending → World → Prop} {l : List (Nat × List Value)} {s : Sto} {m1 : Fs.M γ} {f : γ → Fs.M α} {W W' : World}
end
end

section
open Go.RowKit Go.Maps
open Dk (zeros zeros_length)
open Ii (Ino)
section
variable {γ α : Type} {R : Ending → World → Prop} {B : Nat} {b : Blk} {n I : Int} {Ls : List Nat} {w0 w w' : World} {K : α → Ending → World → Prop} {l : List (Nat × List Value)} {s : Sto}
theorem Stp.bindX {m1 : Fs.M γ} {f : γ → Fs.M α} {K1 : γ → Ending → World → Prop} {e : Ending} {X : Nat} {us : List Value} (h : Stp R B b n I Ls w0 K l s (Fs.andThen m1 f) w) (k : Nat) (hx : l[k]? = some (X, us)) (vs : γ → List Value) (hE : Ends B b n I [X] w s m1 K1 e w') (hK : ∀ a, K1 a e w' → RowAt w' X (vs a)) :
    (e = .panicked [failE B] ∧ R (.panicked [failE B]) w') ∨ ∃ a s' L, m1 (nv s) = (.ok a, nv s', L) ∧ K1 a e w' ∧ Stp R B b n I Ls w0 K (l.set k (X, vs a)) s' (f a) w' ∧ Only [b.t, X] w w' := by
  obtain ⟨hX1, hX2, hX3⟩ := h.lo.row (X, us) (List.mem_of_getElem? hx)
  have hX2 : w0.heap.size ≤ X := hX2
  rcases hE with ⟨a, s', L, E, G, C, hK1, O⟩ | ⟨er, F, h0, Br, rfl, O⟩
  · refine Or.inr ⟨a, s', L, E, hK1, ⟨⟨fun y hy => ?_, ?_, ?_, h.lo.low⟩, C, h.low, fun e' w'' hE => h.left e' w'' (hE.next E G)⟩, O⟩
    · obtain ⟨hk, hke⟩ := List.getElem?_eq_some_iff.1 hx
      obtain ⟨j, hj, rfl⟩ := List.getElem_of_mem hy
      rw [List.length_set] at hj
      rw [List.getElem_set]
      by_cases q : k = j
      · rw [if_pos q]
        exact ⟨hK a hK1, hX2, Nat.lt_of_lt_of_le hX3 O.size⟩
      · rw [if_neg q]
        obtain ⟨h1, h2, h3⟩ := h.lo.row l[j] (List.getElem_mem hj)
        refine ⟨h1.block (O.block _ h3 ?_), h2, Nat.lt_of_lt_of_le h3 O.size⟩
        have hn := List.pairwise_iff_getElem.1 h.lo.ne
        have e1 : (l.map (·.1))[k]'(by simpa using hk) = X := by
          simp only [List.getElem_map]
          rw [hke]
        have e2 : (l.map (·.1))[j]'(by simpa using hj) = l[j].1 := by simp only [List.getElem_map]
        simp only [List.mem_cons, List.not_mem_nil, or_false]
        rintro (q1 | q1)
        · have := h.low b.t (List.mem_cons_of_mem _ b.t_mem)
          omega
        · rcases Nat.lt_or_ge k j with c | c
          · exact hn k j _ _ c (by rw [e1, e2]; exact q1.symm)
          · exact hn j k _ _ (by omega) (by rw [e1, e2]; exact q1)
    · obtain ⟨hk, hke⟩ := List.getElem?_eq_some_iff.1 hx
      have : (l.set k (X, vs a)).map (·.1) = l.map (·.1) := by
        rw [List.map_set]
        apply List.ext_getElem
        · simp
        · intro j h1 h2
          rw [List.getElem_set]
          split
          · rename_i e; subst e; simp [hke]
          · rfl
      rw [this]; exact h.lo.ne
    · exact h.lo.only.via O (fun i hi => by
        simp only [List.mem_cons, List.not_mem_nil, or_false] at hi
        rcases hi with rfl | rfl
        · exact Or.inl (List.mem_cons_self ..)
        · exact Or.inr hX2)
  · refine Or.inl ⟨rfl, h.left _ _ (Ends.broke F h0 Br (h.only O (fun i hi => ?_)))⟩
    simp only [List.mem_cons, List.not_mem_nil, or_false] at hi
    rcases hi with rfl | rfl | rfl
    · exact Or.inl (List.mem_cons_self ..)
    · exact Or.inl (List.mem_cons_of_mem _ (List.mem_cons_self ..))
    · exact Or.inr hX2
end
namespace Fs
theorem andThen_split {α β : Type} {m : M α} {f : α → M β} {V V' : View} {L : List Nat} {b : β} (h : andThen m f V = (.ok b, V', L)) : ∃ a V1 L1 L2, m V = (.ok a, V1, L1) ∧ f a V1 = (.ok b, V', L2) ∧ L = L1 ++ L2 := by
  unfold andThen at h
  rcases hm : m V with ⟨r, V1, L1⟩
  rw [hm] at h
  cases r with
  | error e => simp only at h; injection h with h _; cases h
  | ok a =>
    simp only at h
    injection h with h1 h2
    injection h2 with h2 h3
    refine ⟨a, V1, L1, (f a V1).2.2, rfl, ?_, h3.symm⟩
    rw [← h1, ← h2]
theorem go_ne {n I : Int} (hD : ∀ m, isData n I m → m ≠ 0) : ∀ (ks : List Int) (m : Int) {V V' : View} {t : Int} {L : List Nat}, m ≠ 0 → goR n I ks m V = (.ok t, V', L) → t ≠ 0
  | [], m, V, V', t, L, hm, h => by
    rw [goR] at h
    unfold ret at h
    injection h with h _
    injection h with h
    rw [← h]; exact hm
  | k :: ks, m, V, V', t, L, hm, h => by
    rw [goR] at h
    obtain ⟨p, V1, L1, L2, _, h2, _⟩ := andThen_split h
    split at h2
    · obtain ⟨t1, V2, L3, L4, h3, h4, _⟩ := andThen_split h2
      obtain ⟨_, V3, L5, L6, _, h6, _⟩ := andThen_split h4
      exact go_ne hD ks t1 (hD _ (take_ok h3)) h6
    · exact go_ne hD ks _ (by assumption) h2
theorem reach_ne {n I : Int} (hD : ∀ m, isData n I m → m ≠ 0) {x : Ino} {i : Int} {V V' : View} {z : Ino × Int} {L : List Nat} (h : reachM n I x i V = (.ok z, V', L)) : z.2 ≠ 0 := by
  unfold reachM at h
  split at h
  · obtain ⟨m, V1, L1, L2, h1, h2, _⟩ := andThen_split h
    obtain ⟨t, V2, L3, L4, h3, h4, _⟩ := andThen_split h2
    unfold ret at h4
    injection h4 with h4 _
    injection h4 with h4
    rw [← h4]
    exact go_ne hD _ m (hD _ (take_ok h1)) h3
  · obtain ⟨t, V2, L3, L4, h3, h4, _⟩ := andThen_split h
    unfold ret at h4
    injection h4 with h4 _
    injection h4 with h4
    rw [← h4]
    exact go_ne hD _ _ (by assumption) h3
theorem pieces_in : ∀ (n off : Nat), ∀ c ∈ pieces off n, c.idx * 64 + c.at1 + c.size ≤ off + n := by
  intro n
  induction n using Nat.strongRecOn with
  | ind n ih =>
    intro off c hc
    by_cases h : n = 0
    · subst h; cases hc
    · rw [pieces_step off n h] at hc
      have h64 : off % 64 < 64 := Nat.mod_lt _ (by omega)
      rcases List.mem_cons.1 hc with rfl | hc
      · simp only; omega
      · have := ih (n - min n (64 - off % 64)) (by omega) _ c hc
        omega
end Fs
theorem okB_of {i : Int} (h1 : 0 ≤ i) (h2 : i < 1060) : Sp.okB i = true := by
  rcases Sp.kinds i with c | ⟨c1, c2⟩ | ⟨c1, c2⟩ | ⟨c1, c2⟩
  · omega
  · exact (Sp.page0 c1 c2).1
  · exact (Sp.page1 c1 c2).1
  · exact (Sp.page2 c1 c2).1
theorem str_take (t : List UInt8) (k : Nat) : (strOf t).extract 0 k = strOf (t.take k) := by
  unfold strOf
  apply ByteArray.ext
  apply Array.ext'
  simp
theorem str_drop (t : List UInt8) (k c : Nat) (hc : t.length ≤ c) : (strOf t).extract k c = strOf (t.drop k) := by
  unfold strOf
  apply ByteArray.ext
  apply Array.ext'
  simp
  rw [List.take_of_length_le (by simp; omega)]
theorem Fs.wloop_cons (n I : Int) (c : Fs.Pc) (cs : List Fs.Pc) (x : Ino) (t : List UInt8) {β : Type} (g : Ino → Fs.M β) : Fs.andThen (Fs.wloop n I (c :: cs) x t) g = Fs.andThen (Fs.reachM n I x c.idx) fun z =>
    Fs.andThen (Fs.tell (Fs.dataF n I z.2)) fun p => Fs.andThen (Fs.wr z.2.toNat (Pg.setTextN p c.at1 (t.take c.size))) fun _ => Fs.andThen (Fs.wloop n I cs z.1 (t.drop c.size)) g := by
  rw [Fs.wloop, Fs.andThen_assoc]
  congr 1
  funext z
  rw [Fs.andThen_assoc]
  congr 1
  funext p
  rw [Fs.andThen_assoc]
end

section
open Go.RowKit Go.Maps
open Dk (zeros zeros_length)
open Ii (Ino)
def WrS {α : Type} (R : Ending → World → Prop) (B : Nat) (b : Blk) (n I : Int) (Ls : List Nat) (w0 : World) (K : α → Ending → World → Prop) (l : List (Nat × List Value)) (s : Sto) (nn : Int) (g : List UInt8 → List UInt8) (f : Fs.M α) : Option (Option (List UInt8)) → World → Prop
  | none, W => ∃ s', Stp R B b n I Ls w0 K l s' f W
  | some none, W => Stp R B b n I Ls w0 K l s (Fs.andThen (Fs.tell (Fs.dataF n I nn)) fun p => Fs.andThen (Fs.wr nn.toNat (g p)) fun _ => f) W
  | some (some p), W => ∃ s', Stp R B b n I Ls w0 K l s' (Fs.andThen (Fs.wr nn.toNat (g p)) fun _ => f) W ∧ Fs.isData n I nn ∧ p.length = 64
section
variable {α : Type} {R : Ending → World → Prop} {B : Nat} {b : Blk} {n I : Int} {Ls : List Nat} {w0 : World} {K : α → Ending → World → Prop} {l : List (Nat × List Value)} {s : Sto} {nn : Int} {g : List UInt8 → List UInt8} {f : Fs.M α} {W W' : World}
theorem WrS.lo : ∀ {k : Option (Option (List UInt8))}, WrS R B b n I Ls w0 K l s nn g f k W → Lo (b.t :: Ls) w0 l W
  | none, ⟨_, h⟩ => Stp.lo h
  | some none, h => Stp.lo h
  | some (some _), ⟨_, h, _⟩ => Stp.lo h
theorem WrS.loaded {p : List UInt8} (h : WrS R B b n I Ls w0 K l s nn g f (Option.some (Option.some p)) W) : ∃ s', Stp R B b n I Ls w0 K l s' (Fs.andThen (Fs.wr nn.toNat (g p)) fun _ => f) W ∧ Fs.isData n I nn ∧ p.length = 64 := h
theorem WrS.start (h : WrS R B b n I Ls w0 K l s nn g f (some none) W) : Stp R B b n I Ls w0 K l s (Fs.andThen (Fs.tell (Fs.dataF n I nn)) fun p => Fs.andThen (Fs.wr nn.toNat (g p)) fun _ => f) W := h
theorem WrS.done (h : WrS R B b n I Ls w0 K l s nn g f none W) : ∃ s', Stp R B b n I Ls w0 K l s' f W := h
end
theorem str_size (u : List UInt8) : (strOf u).size = u.length := strOf_size u
theorem swrite_step {w : World} {B : Nat} {b : Blk} {s : Sto} {n I : Int} (h : Ctx w B b s n I) (i off : Int) (t : List UInt8) (ht : t.length ≤ 10000) : Calls Tryz.prog 27 #[.pointer (some ⟨B, 0, none⟩), .int .i64 i, .int .i64 off, .string (strOf t)] w (Ends B b n I [] w s (Fs.writeM n I i off t) fun _ e _ => e = .returned (.tuple #[])) := by
  refine calls_of fun R H => ?_
  have S := Lib.hid (Stp.start h (by simp) H)
  have HGO := Lib.hid (fun W (hc : Ctx W B b s n I) => goesOn_any hc)
  unfold Fs.writeM at S
  clear h H
  have HSZ := Lib.hid (str_size t)
  have hs9 : (strOf t).size ≤ 10000 := by rw [str_size]; exact ht
  go_enter Tryz.func27, Tryz.ntmps27
  go_wp2_with (go_at_call 35; (with_reducible refine (HGO.out _ S.out.ctx).mono ?_); rintro e w2 ⟨rfl, rfl⟩)
  refine (smustTaken_any S.out.ctx i).mono ?_
  intro e w4 hE
  rcases S.out.bind hE with ⟨rfl, hR⟩ | ⟨x, s4, L4, hi, rfl, S2⟩
  · exact ⟨rfl, hR⟩
  have hib := taken_in (tell_ok hi)
  have S := Lib.hid S2
  clear hE hi S2
  by_cases c1 : off < 0
  · have S5 := Lib.hid (S.out.of (congrFun (if_pos c1) _))
    clear S
    go_wp2_with (first
      | ((with_reducible refine wpList_store_newrow (vs := inoL x) inoT ?_ (inoL_one _) rfl (.tmp 8) (.tmp 17) rfl rfl ?_ ?_ ?_); (exact rfl); (exact rfl); (exact rfl); intro W4 hP hB2 hz2; have S := Lib.hid (S5.out.made hP hB2 hz2); clear hP hB2 hz2 S5)
      | (go_at_call 46; (with_reducible refine (fail_any S.out.ctx 22 (by decide)).mono ?_); rintro e w5 ⟨rfl, hB, hO⟩))
    exact ⟨rfl, S.out.fails (Fails.err rfl) (by decide) hB hO⟩
  · by_cases c2 : t = []
    · subst c2
      have S5 := Lib.hid (S.out.of (m' := Fs.ret ()) (by rw [if_neg c1, if_pos rfl]))
      clear S
      rw [← strOf_nil]
      go_wp2_with ((with_reducible refine wpList_store_newrow (vs := inoL x) inoT ?_ (inoL_one _) rfl (.tmp 8) (.tmp 17) rfl rfl ?_ ?_ ?_); (exact rfl); (exact rfl); (exact rfl); intro W4 hP hB2 hz2; have S := Lib.hid (S5.out.made hP hB2 hz2); clear hP hB2 hz2 S5)
      refine bodyPost_ret (results_none rfl _ _ _) rfl ?_
      exact S.out.done rfl
    · have hne : (strOf t).toList.isEmpty = false := by
        cases hq : (strOf t).toList.isEmpty with
        | false => rfl
        | true =>
          exfalso
          rw [List.isEmpty_iff] at hq
          have := (toList_nil_iff_emptyBytes _).1 hq
          apply c2
          have h2 := str_size t
          rw [this] at h2
          exact List.eq_nil_of_length_eq_zero h2.symm
      by_cases c3 : 67840 - (t.length : Int) < off
      · have S5 := Lib.hid (S.out.of (m' := Fs.fail 27) (by rw [if_neg c1, if_neg c2, if_pos c3]))
        clear S
        have c3' : 67840 - ((strOf t).size : Int) < off := by rw [HSZ.out]; exact c3
        go_wp2_with (first
          | ((with_reducible refine wpList_store_newrow (vs := inoL x) inoT ?_ (inoL_one _) rfl (.tmp 8) (.tmp 17) rfl rfl ?_ ?_ ?_); (exact rfl); (exact rfl); (exact rfl); intro W4 hP hB2 hz2; have S := Lib.hid (S5.out.made hP hB2 hz2); clear hP hB2 hz2 S5)
          | (go_at_call 46; (with_reducible refine (fail_any S.out.ctx 27 (by decide)).mono ?_); rintro e w5 ⟨rfl, hB, hO⟩))
        exact ⟨rfl, S.out.fails (Fails.err rfl) (by decide) hB hO⟩
      · obtain ⟨o, rfl⟩ := Int.eq_ofNat_of_zero_le (show 0 ≤ off by omega)
        obtain ⟨x2, hx2⟩ : ∃ x2 : Ino, x2 = { x with s := max x.s ((o : Int) + t.length) } := ⟨_, rfl⟩
        obtain ⟨sz, hsz⟩ : ∃ sz : Int, sz = max x.s ((o : Int) + t.length) := ⟨_, rfl⟩
        have HX2 : Hid (x2 = { x with s := sz }) := Lib.hid (by rw [hsz]; exact hx2)
        have hon : o + t.length ≤ 67840 := by omega
        have S5 := Lib.hid (S.out.of (m' := Fs.andThen (Fs.wloop n I (Fs.pieces o t.length) x2 t) fun y => Fs.setI i y) (by rw [if_neg c1, if_neg c2, if_neg c3, hx2]; rfl))
        clear S hx2
        have hln : (t.length : Int) = ((strOf t).size : Int) := by rw [HSZ.out]
        have c3' : ¬ 67840 - ((strOf t).size : Int) < (o : Int) := by rw [HSZ.out]; exact c3
        have HPC : Hid (∀ W, Calls Tryz.prog 64 #[.int .i64 (o : Int), .int .i64 ((strOf t).size : Int)] W (PcsGive (Fs.pieces o t.length) W)) := Lib.hid (fun W => by
          rw [HSZ.out]
          exact pieces_some o t.length W (by omega) (by omega))
        have HSPEC := Lib.hid (Fs.pieces_spec t.length o)
        have HIN := Lib.hid (Fs.pieces_in t.length o)
        generalize Fs.pieces o t.length = cs at HPC HSPEC HIN S5
        have hsz2 : sz = max x.s ((o : Int) + ((strOf t).size : Int)) := by rw [HSZ.out]; exact hsz
        have HSZ2 := Lib.hid hsz2
        clear hsz hsz2
        go_wp2_with (first
          | ((with_reducible refine wpList_store_newrow (vs := inoL x) inoT ?_ (inoL_one _) rfl (.tmp 8) (.tmp 17) rfl rfl ?_ ?_ ?_); (exact rfl); (exact rfl); (exact rfl); intro W4 hP hB2 hz2; have S := Lib.hid (S5.out.made hP hB2 hz2); clear hP hB2 hz2 S5; have cc := (S.out.get 0 _ rfl).cell 4 _ rfl; have ff := (S.out.get 0 _ rfl).frozen 4 (show 4 < 11 by decide)))
        have S3 := Lib.hid (S.out.one 0 _ rfl 4 (.int .i64 (max x.s ((o : Int) + ((strOf t).size : Int)))) (inoL x2) (show 4 + 1 ≤ 11 by decide) (by rw [HX2.out, HSZ2.out]; rfl))
        clear S cc ff
        generalize World.setCell _ _ _ = w6 at S3 ⊢
        have S : Hid (Stp R B b n I [] w (fun _ e _ => e = .returned (.tuple #[])) [(w4.heap.size, inoL x2)] s4 (Fs.andThen (Fs.wloop n I cs x2 t) fun y => Fs.setI i y) w6) := Lib.hid S3.out
        clear S3
        generalize w4.heap.size = X at S ⊢
        refine (HPC.out _).mono ?_
        rintro e w7 ⟨A, cap, rfl, hrow, hA, hb⟩
        have HX7 := Lib.hid ((S.out.lo.row _ (List.mem_cons_self ..)).2.2)
        have HB7 := Lib.hid S.out.ctx.lt
        have HT7 := Lib.hid (S.out.ctx.store.lt _ b.t_mem)
        have HA : Hid (∀ bb f, A = some ⟨bb, f, none⟩ → bb ∉ [b.t, X]) := Lib.hid (fun bb f hh => by
          have h1 := hA bb f hh
          have h2 : X < w6.heap.size := HX7.out
          have h3 := HT7.out
          simp only [List.mem_cons, List.not_mem_nil, or_false]
          omega)
        have S2 := Lib.hid (S.out.below hb)
        clear S
        have S := Lib.hid S2.out
        have HPR := Lib.hid hrow
        clear S2 hrow hA hb
        have HXB := Lib.hid (S.out.lower (List.mem_cons_self ..))
        have hl9 : cs.length ≤ 10000 := by
          have h1 := HSPEC.out.1
          have h2 : ∀ ds : List Fs.Pc, (∀ c ∈ ds, 1 ≤ c.size) → ds.length ≤ Fs.psum ds := by
            intro ds
            induction ds with
            | nil => intro _; exact Nat.le_refl _
            | cons d ds ih =>
              intro h
              have := ih (fun c hc => h c (by simp [hc]))
              have := h d (by simp)
              rw [List.length_cons, Fs.psum]; omega
          have := h2 cs (fun c hc => (HSPEC.out.2 c hc).1)
          omega
        obtain ⟨len, hlen⟩ : ∃ len, cs.length = len := ⟨_, rfl⟩
        have HLE := Lib.hid hlen
        rw [hlen] at hl9 ⊢
        clear hlen
        have HPC2 : Hid (∀ c ∈ cs, (1 ≤ c.size ∧ c.at1 + c.size ≤ 64) ∧ c.idx < 1060) := Lib.hid (fun c hc => ⟨HSPEC.out.2 c hc, by have := HIN.out c hc; have := HSPEC.out.2 c hc; omega⟩)
        have HSPEC0 := Lib.hid HSPEC.out.1
        clear HSPEC HIN HPC HX7 HB7 HT7 HX2 HSZ2
        have HUL : Hid (t.length = Fs.psum (cs.drop 0)) := Lib.hid (by rw [List.drop_zero]; exact HSPEC0.out.symm)
        clear HSPEC0
        have HU9 : Hid (t.length ≤ 10000) := Lib.hid ht
        go_wp2_with fail
        go_loopw [3, 47] (fun tv iv wr => ∃ (k : Nat) (u : List UInt8) (y : Ino) (s3 : Sto), k ≤ len ∧ tv = .string (strOf u) ∧ iv = .int .i64 k ∧ Hid (u.length = Fs.psum (cs.drop k)) ∧ Hid (u.length ≤ 10000) ∧ Hid (Stp R B b n I [] w (fun _ e _ => e = .returned (.tuple #[])) [(X, inoL y)] s3 (Fs.andThen (Fs.wloop n I (cs.drop k) y u) fun y => Fs.setI i y) wr) ∧ Hid (PcRow wr A cs)) (fun _ iv _ => len - (intOf iv).toNat)
        case atStart => exact ⟨0, t, x2, s4, Nat.zero_le _, rfl, rfl, HUL, HU9, by rw [List.drop_zero]; exact S, HPR⟩
        case round =>
          clear S HPR HUL HU9
          obtain ⟨k, u, y, s3, hk, rfl, rfl, HUL, HU9, S, HPR⟩ := hrel
          by_cases hlt : k < len
          · obtain ⟨pc, hpc⟩ : ∃ pc, cs[k]? = some pc := ⟨_, List.getElem?_eq_getElem (by rw [HLE.out]; exact hlt)⟩
            obtain ⟨⟨hz1, hz2⟩, hz3⟩ := HPC2.out pc (List.mem_of_getElem? hpc)
            obtain ⟨pb, poff, rfl, hpb, hpr⟩ := HPR.out.cells (by rw [HLE.out]; omega)
            have HPI := Lib.hid (hpr k pc hpc)
            have HDR : Hid (cs.drop k = pc :: cs.drop (k + 1)) := Lib.hid (by
              obtain ⟨q1, q2⟩ := List.getElem?_eq_some_iff.1 hpc
              rw [List.drop_eq_getElem_cons q1, q2])
            have HPD := Lib.hid (Fs.psum_drop cs k pc hpc)
            clear hpc hpr hpb
            rw [HDR.out, Fs.wloop_cons] at S
            have HOKI := Lib.hid (okB_of (i := (pc.idx : Int)) (by omega) (by omega))
            have HUS : Hid ((strOf u).size = u.length) := Lib.hid (str_size u)
            have hps : pc.size ≤ (strOf u).size := by rw [HUS.out, HUL.out, HPD.out]; omega
            have hps9 : (strOf u).size ≤ 10000 := by rw [HUS.out]; exact HU9.out
            go_wp2_with (first
              | (with_reducible refine wpList_load_mid rfl 110 (.tmp 49) rfl pb (poff + k * 3) rfl (pcL pc) _ HPI.out Tryz.underlying110 rfl (by kernel_rfl) ?_)
              | ((with_reducible refine wpList_store_newrow (vs := pcL pc) pcT ?_ (pcL_one _) rfl (.tmp 10) (.tmp 50) rfl rfl ?_ ?_ ?_); (exact rfl); (exact rfl); (exact rfl); intro W6 hP hB2 hz2; have S6 := Lib.hid (S.out.made hP hB2 hz2); clear S; have HPR6 := Lib.hid (HPR.out.step hB2); clear hP hB2 hz2 HPI HPR; have p0 := (S6.out.get 1 _ rfl).cell 0 _ rfl))
            refine (sreach_step S6.out.ctx X y (S6.out.get 0 _ rfl) HXB.out.1 HXB.out.2 (pc.idx : Int) HOKI.out).mono ?_
            intro e w8 hE
            rcases S6.out.bindX 0 rfl (fun z => inoL z.1) hE (fun a hh => hh.2) with ⟨rfl, hR⟩ | ⟨⟨y2, nn⟩, s8, L8, hz, ⟨rfl, _⟩, S2, hO⟩
            · exact ⟨rfl, hR⟩
            have HNZ : Hid (nn ≠ 0) := Lib.hid (Fs.reach_ne (fun m hm => (data_ok S6.out.ctx.vs hm).2) hz)
            have HPR := Lib.hid (HPR6.out.only hO HA.out)
            have S := Lib.hid S2
            clear hE hz S2 hO HPR6 S6 p0 HOKI
            generalize wr.heap.size = P at S ⊢
            obtain ⟨u1, hu1⟩ : ∃ u1, u1 = u.take pc.size := ⟨_, rfl⟩
            obtain ⟨u2, hu2⟩ : ∃ u2, u2 = u.drop pc.size := ⟨_, rfl⟩
            have HU1 : Hid ((strOf u).extract 0 pc.size = strOf u1) := Lib.hid (by rw [hu1]; exact str_take u pc.size)
            have HU2 : Hid ((strOf u).extract pc.size (strOf u).size = strOf u2) := Lib.hid (by rw [hu2]; exact str_drop u _ _ (by rw [str_size]; exact Nat.le_refl _))
            have HU2L : Hid (u2.length = Fs.psum (cs.drop (k + 1)) ∧ u2.length ≤ 10000) := Lib.hid ⟨by rw [hu2, List.length_drop, HUL.out, HPD.out]; omega, by rw [hu2, List.length_drop]; have := HU9.out; omega⟩
            have HU1L : Hid ((strOf u1).size ≤ maxLen) := Lib.hid (by rw [str_size, hu1]; have := HU9.out; unfold maxLen; simp; omega)
            have HB1 : Hid ((strOf u1).data.toList = u1) := Lib.hid (by simp [strOf])
            rw [← hu1, ← hu2] at S
            have HT : Hid (∀ p W, p.length = 64 → Calls Tryz.prog 67 #[pageV p, .int .i64 (pc.at1 : Int), .string (strOf u1)] W fun e w' => e = .returned (pageV (Pg.setTextN p pc.at1 u1)) ∧ Below W.heap.size W w') := Lib.hid (fun p W hp => by
              have := setText_any p (pc.at1 : Int) (strOf u1) W hp HU1L.out
              rw [HB1.out] at this
              exact this)
            have HTL : Hid (∀ p : List UInt8, p.length = 64 → (Pg.setTextN p pc.at1 u1).length = 64) := Lib.hid (fun p hp => by
              unfold Pg.setTextN
              split
              · rename_i q
                obtain ⟨c1, c2, c3⟩ := Pg.ins_yes q
                rw [Pg.over_length _ _ _ (by omega)]; exact hp
              · exact hp)
            clear hu1 hu2 HU1L HB1
            go_wp2_with fail
            refine wp_region_linp (fun kk W => WrS R B b n I [] w (fun _ e _ => e = .returned (.tuple #[])) [(X, inoL y2), (P, pcL pc)] s8 nn (fun p => Pg.setTextN p pc.at1 u1) (Fs.andThen (Fs.wloop n I (cs.drop (k + 1)) y2 u2) fun y => Fs.setI i y) kk W ∧ PcRow W (some ⟨pb, poff, none⟩) cs) (fun ch W => ch = [failE B] ∧ R (.panicked [failE B]) W) (fun i => i == 4 || i == 11 || i == 12) (fun i => [.pointer (some ⟨B, 0, none⟩), .int .i64 nn, .pointer (some ⟨B, 0, none⟩), .int .i64 nn, undef, .pointer (some ⟨P, 1, none⟩), .int .i64 (pc.at1 : Int), .string (strOf u), .pointer (some ⟨P, 2, none⟩), .int .i64 (pc.size : Int), .string (strOf u1)].getD i undef) (some none) (by kernel_rfl) (by kernel_rfl) (fun ch a' W hd hh => ?_) ⟨S.out.drew, HPR.out.step ((Below.refl _ _).drew)⟩ ?_
            · exact ⟨hd, by obtain ⟨rfl, hR⟩ := hh; exact hR⟩
            refine linp_step (i := 0) (d := some 55) (v := (.pointer (some ⟨B, 0, none⟩))) rfl rfl (by kernel_rfl) (by kernel_rfl) rfl rfl (ord_value (by kernel_rfl) ?_) ?_
            · ((intro _ _ _; go_simp) <;> kernel_rfl)
            try simp only [Act.put, puA, puB, puC]
            refine linp_step (i := 1) (d := some 56) (v := (.int .i64 nn)) rfl rfl (by kernel_rfl) (by kernel_rfl) rfl rfl (ord_value (by kernel_rfl) ?_) ?_
            · ((intro _ _ _; go_simp) <;> kernel_rfl)
            try simp only [Act.put, puA, puB, puC]
            refine linp_step (i := 2) (d := some 57) (v := (.pointer (some ⟨B, 0, none⟩))) rfl rfl (by kernel_rfl) (by kernel_rfl) rfl rfl (ord_value (by kernel_rfl) ?_) ?_
            · ((intro _ _ _; go_simp) <;> kernel_rfl)
            try simp only [Act.put, puA, puB, puC]
            refine linp_step (i := 3) (d := some 58) (v := (.int .i64 nn)) rfl rfl (by kernel_rfl) (by kernel_rfl) rfl rfl (ord_value (by kernel_rfl) ?_) ?_
            · ((intro _ _ _; go_simp) <;> kernel_rfl)
            try simp only [Act.put, puA, puB, puC]
            refine linp_step (i := 5) (d := some 60) (v := (.pointer (some ⟨P, 1, none⟩))) rfl rfl (by kernel_rfl) (by kernel_rfl) rfl rfl (ord_value (by kernel_rfl) ?_) ?_
            · ((intro _ _ _; go_simp) <;> kernel_rfl)
            try simp only [Act.put, puA, puB, puC]
            refine linp_step (i := 6) (d := some 61) (v := (.int .i64 (pc.at1 : Int))) rfl rfl (by kernel_rfl) (by kernel_rfl) rfl rfl (ord_value (by kernel_rfl) ?_) ?_
            · (intro sZ wZ hZ; have cZ := (fun kk W hS => ((WrS.lo hS.1).get 1 _ rfl).cell 1 _ rfl) sZ wZ hZ; go_simp)
            try simp only [Act.put, puA, puB, puC]
            refine linp_step (i := 7) (d := some 62) (v := (.string (strOf u))) rfl rfl (by kernel_rfl) (by kernel_rfl) rfl rfl (ord_value (by kernel_rfl) ?_) ?_
            · ((intro _ _ _; go_simp) <;> kernel_rfl)
            try simp only [Act.put, puA, puB, puC]
            refine linp_step (i := 8) (d := some 63) (v := (.pointer (some ⟨P, 2, none⟩))) rfl rfl (by kernel_rfl) (by kernel_rfl) rfl rfl (ord_value (by kernel_rfl) ?_) ?_
            · ((intro _ _ _; go_simp) <;> kernel_rfl)
            try simp only [Act.put, puA, puB, puC]
            refine linp_step (i := 9) (d := some 64) (v := (.int .i64 (pc.size : Int))) rfl rfl (by kernel_rfl) (by kernel_rfl) rfl rfl (ord_value (by kernel_rfl) ?_) ?_
            · (intro sZ wZ hZ; have cZ := (fun kk W hS => ((WrS.lo hS.1).get 1 _ rfl).cell 2 _ rfl) sZ wZ hZ; go_simp)
            try simp only [Act.put, puA, puB, puC]
            refine linp_step (i := 10) (d := some 65) (v := .string (strOf u1)) rfl rfl (by kernel_rfl) (by kernel_rfl) rfl rfl (ord_value (by kernel_rfl) ?_) ?_
            · intro kk W hS
              go_simp
              exact HU1.out
            try simp only [Act.put, puA, puB, puC]
            refine linp_turnD (i := 4) (d := some 59) [11, 12] (fun u k => ∃ p, u = pageV p ∧ k = some (some p)) rfl rfl (by kernel_rfl) (by kernel_rfl) rfl (by kernel_rfl) ⟨_, _, zeros, rfl, rfl⟩ (by kernel_rfl) (gives_all (f := 68) (args := #[.pointer (some ⟨B, 0, none⟩), .int .i64 nn]) ?_ (fun W hS => (smustData_any hS.1.start.ctx nn).mono fun e w' hE => by
              rcases Stp.bindO hS.1.start hE with ⟨rfl, hR⟩ | ⟨p, s', L', hp, rfl, S2, hO⟩
              · exact Or.inr ⟨_, rfl, rfl, hR⟩
              · obtain ⟨hd1, hd2⟩ := data_of hS.1.start.ctx.vs hp HNZ.out
                exact Or.inl ⟨_, rfl, some (some p), ⟨p, rfl, rfl⟩, ⟨s', S2, hd1, hd2⟩, hS.2.only hO (fun bb f hh q => HA.out bb f hh (by simp at q ⊢; exact Or.inl q))⟩)) ?_
            · (intro _; go_simp)
            rintro _ _ ⟨p, rfl, rfl⟩
            try simp only [Act.put, puA, puB, puC]
            refine linp_turn (i := 11) (d := some 66) (fun u k => u = pageV (Pg.setTextN p pc.at1 u1) ∧ k = some (some p)) rfl rfl (by kernel_rfl) (by kernel_rfl) rfl (by kernel_rfl) ⟨_, _, rfl, rfl⟩ (by kernel_rfl) (gives_all (f := 67) (args := #[pageV p, .int .i64 (pc.at1 : Int), .string (strOf u1)]) ?_ (fun W hS => (HT.out p W hS.1.loaded.choose_spec.2.2).mono fun e w' hh => by
              obtain ⟨s', S2, hd1, hd2⟩ := hS.1.loaded
              exact Or.inl ⟨_, hh.1, some (some p), ⟨rfl, rfl⟩, ⟨s', S2.below hh.2, hd1, hd2⟩, hS.2.step hh.2⟩)) ?_
            · (intro _; go_simp)
            rintro _ _ ⟨rfl, rfl⟩
            try simp only [Act.put, puA, puB, puC]
            refine linp_turn (i := 12) (d := some 67) (fun u k => u = .tuple #[] ∧ k = none) rfl rfl (by kernel_rfl) (by kernel_rfl) rfl (by kernel_rfl) ⟨_, _, rfl, rfl⟩ (by kernel_rfl) (gives_all (f := 66) (args := #[.pointer (some ⟨B, 0, none⟩), .int .i64 nn, pageV (Pg.setTextN p pc.at1 u1)]) ?_ (fun W hS => by
              obtain ⟨s', S2, hd1, hd2⟩ := hS.1.loaded
              refine (sput_step S2.ctx nn (Pg.setTextN p pc.at1 u1) (data_ok S2.ctx.vs hd1).1 (HTL.out p hd2)).mono fun e w' hE => ?_
              rcases Stp.bindO S2 hE with ⟨rfl, hR⟩ | ⟨_, s9, L', hp, rfl, S3, hO⟩
              · exact Or.inr ⟨_, rfl, rfl, hR⟩
              · exact Or.inl ⟨_, rfl, none, ⟨rfl, rfl⟩, ⟨s9, S3⟩, hS.2.only hO (fun bb f hh q => HA.out bb f hh (by simp at q ⊢; exact Or.inl q))⟩)) ?_
            · (intro _; go_simp)
            rintro _ _ ⟨rfl, rfl⟩
            try simp only [Act.put, puA, puB, puC]
            refine linp_done (by kernel_rfl) fun W hS => ?_
            obtain ⟨s9, S9⟩ := hS.1.done
            have HPR9 := Lib.hid hS.2
            clear S hS
            have S := Lib.hid S9
            clear S9 HPR
            have p2 := (S.out.get 1 _ rfl).cell 2 _ rfl
            go_wp2_with fail
            go_roundw
            case rel => exact ⟨k + 1, u2, y2, s9, by omega, by rw [HU2.out], by go_num, Lib.hid HU2L.out.1, Lib.hid HU2L.out.2, Lib.hid (S.out.cut 1), HPR9⟩
            case measure => simp [intOf]; omega
          · obtain rfl : k = len := by omega
            have HZ : Hid (cs.drop k = []) := Lib.hid (List.drop_of_length_le (by rw [HLE.out]; omega))
            have S3 : Hid (Stp R B b n I [] w (fun _ e _ => e = .returned (.tuple #[])) [(X, inoL y)] s3 (Fs.setI i y) wr) := Lib.hid (by
              have := S.out
              rw [HZ.out, Fs.wloop, Fs.ret_andThen] at this
              exact this)
            clear S
            go_wp2_with (first
              | (with_reducible refine wpList_load_rw inoT (S3.out.get 0 _ rfl) rfl rfl (.tmp 8) rfl rfl ?_)
              | (go_at_call 39; refine (sset_step S3.out.ctx i y hib.1 hib.2).mono ?_; intro e w8 hE; rcases S3.out.last hE with ⟨rfl, hR⟩ | ⟨_, s8, L8, _, rfl, S2⟩; (exact ⟨rfl, hR⟩); clear S3 hE; have S := Lib.hid S2; clear S2))
            go_end0
            exact S.out.done rfl
end

section
open Go.RowKit Go.Maps
open Dk (zeros zeros_length)
open Ii (Ino)
theorem ops_recover {P : Program} {Q : Exit → Act → List Frame → World → Prop} {a : Act} {cs : List Frame} {w : World} {d : Tmp} {ty : TypeId} {ps : String} (_hw : yielded #[{ dst := some d, op := .call { callee := .builtin .recover, args := #[], argTypes := #[] }, type := ty, pos := ps, after := #[], guard := none }] a.tmps = yielded #[{ dst := some d, op := .call { callee := .builtin .recover, args := #[], argTypes := #[] }, type := ty, pos := ps, after := #[], guard := none }] a.tmps)
    (h : match recoverD cs with
      | some (v, cs') => Q .normal (a.put (some d) v) cs' w
      | none => Q .normal (a.put (some d) .nilIface) cs w) :
    wpOpsS P #[{ dst := some d, op := .call { callee := .builtin .recover, args := #[], argTypes := #[] }, type := ty, pos := ps, after := #[], guard := none }] Q (List.range 1) a cs w := by
  have : List.range 1 = [0] := rfl
  rw [this]
  simp only [wpOpsS, List.getElem?_toArray, List.getElem?_cons_zero]
  simp [go_sem, Region.wanted]
  cases hr : recoverD cs with
  | none => rw [hr] at h; exact h
  | some x => rw [hr] at h; exact h
theorem run_neq_ptr_same {P : Program} {tp te : TypeId} {j : TypeInfo} (a : Addr) (hp : P.underlying tp = some (.pointer te)) (hte : P.info? te = some j) (w : World) :
    (binOp .neq tp (.pointer (some a)) (.pointer (some a))).run P w = .ok (.bool false) w := by
  have h : ∀ d : Nat, (Op.equalIn (d + 1) tp (.pointer (some a)) (.pointer (some a))).run P w = .ok true w := fun d => by
    simp [Op.equalIn, run_underlying hp, sizeOf, typeInfo, hte, run_sameAddr_same]
  simp only [binOp]
  simp [Op.equal, Op.maxDepth, h 9999]
theorem info_step : ∃ j, Tryz.prog.info? 74 = some j := Option.isSome_iff_exists.1 (by kernel_rfl)
theorem runD_idle {w : World} {B C1 C2 st : Nat} {n I : Int} (hB : RowAt w B (stepL st n I true 0)) (h1 : RowAt w C1 [.pointer (some ⟨B, 0, none⟩)]) (h2 : RowAt w C2 [.int .i64 0]) (hne : B ≠ C1 ∧ B ≠ C2) :
    CallsD Tryz.prog 77 #[.pointer (some ⟨C1, 0, none⟩), .pointer (some ⟨C2, 0, none⟩)] .returning w fun e u' w' => e = .returned (.tuple #[]) ∧ u' = .returning ∧ RowAt w' C2 [.int .i64 0] ∧ Only [B, C2] w w' := by
  have c1 := h1.cell 0 _ rfl
  have cB := hB.cell 3 _ rfl
  have fB := hB.frozen 3 (show 3 < 5 by decide)
  refine callsD_of_wpS Tryz.func77 rfl fun c₀ cs hu => ?_
  simp only [Tryz.ntmps77, List.size_toArray, List.length_cons, List.length_nil, Nat.reduceAdd, Nat.reduceSub, Array.replicate_succ, Array.replicate_zero, List.push_toArray, List.append_toArray, List.nil_append, List.cons_append]
  apply wpS_seq
  apply wpS_of_wp
  go_wp2
  have HB : RowAt (w.setCell ⟨B, 3, none⟩ (.bool false)) B (stepL st n I false 0) := RowAt.setOne hB 3 (.bool false) (show 3 < 5 by decide)
  have HO : Only [B, C2] w (w.setCell ⟨B, 3, none⟩ (.bool false)) := (Only.refl [B, C2] w).setCell (p := ⟨B, 3, none⟩) (by simp) _
  have H1 : RowAt (w.setCell ⟨B, 3, none⟩ (.bool false)) C1 [.pointer (some ⟨B, 0, none⟩)] := h1.block (((Only.refl [B] w).setCell (p := ⟨B, 3, none⟩) (by simp) _).block C1 h1.lt (by simpa using fun q => hne.1 q.symm))
  have H2 : RowAt (w.setCell ⟨B, 3, none⟩ (.bool false)) C2 [.int .i64 0] := h2.block (((Only.refl [B] w).setCell (p := ⟨B, 3, none⟩) (by simp) _).block C2 h2.lt (by simpa using fun q => hne.2 q.symm))
  generalize World.setCell _ _ _ = w1 at HB HO H1 H2 ⊢
  clear hB h1 h2 c1 cB fB
  have c1 := H1.cell 0 _ rfl
  have cB := HB.cell 4 _ rfl
  have c2 := H2.cell 0 _ rfl
  have f2 := H2.frozen 0 (show 0 < 1 by decide)
  have hre : recoverD (c₀ :: cs) = none := by simp [recoverD, hu]
  simp only [Exit.thenS]
  apply wpS_seq
  apply wpS_region
  refine ops_recover rfl ?_
  rw [hre]
  simp only [Exit.thenS]
  apply wpS_of_wp
  go_wp2
  have H3 : RowAt (w1.setCell ⟨C2, 0, none⟩ (.int .i64 0)) C2 [.int .i64 0] := RowAt.setOne H2 0 (.int .i64 0) (show 0 < 1 by decide)
  have HO3 : Only [B, C2] w (w1.setCell ⟨C2, 0, none⟩ (.int .i64 0)) := HO.setCell (p := ⟨C2, 0, none⟩) (by simp) _
  exact ⟨rfl, .returning, by cases c₀; simp_all, _, results_none rfl _ _ _, rfl, rfl, H3, HO3⟩
theorem runD_failed {w : World} {B C1 C2 st : Nat} {n I er : Int} (hB : RowAt w B (stepL st n I true er)) (h1 : RowAt w C1 [.pointer (some ⟨B, 0, none⟩)]) (h2 : RowAt w C2 [.int .i64 0]) (hne : B ≠ C1 ∧ B ≠ C2) :
    CallsD Tryz.prog 77 #[.pointer (some ⟨C1, 0, none⟩), .pointer (some ⟨C2, 0, none⟩)] (.panicking [failE B]) w fun e u' w' => e = .returned (.tuple #[]) ∧ u' = .panicking [{ v := failV B, recovered := true }] ∧ RowAt w' C2 [.int .i64 er] ∧ Only [B, C2] w w' := by
  have c1 := h1.cell 0 _ rfl
  have cB := hB.cell 3 _ rfl
  have fB := hB.frozen 3 (show 3 < 5 by decide)
  refine callsD_of_wpS Tryz.func77 rfl fun c₀ cs hu => ?_
  simp only [Tryz.ntmps77, List.size_toArray, List.length_cons, List.length_nil, Nat.reduceAdd, Nat.reduceSub, Array.replicate_succ, Array.replicate_zero, List.push_toArray, List.append_toArray, List.nil_append, List.cons_append]
  apply wpS_seq
  apply wpS_of_wp
  go_wp2
  have HB : RowAt (w.setCell ⟨B, 3, none⟩ (.bool false)) B (stepL st n I false er) := RowAt.setOne hB 3 (.bool false) (show 3 < 5 by decide)
  have HO : Only [B, C2] w (w.setCell ⟨B, 3, none⟩ (.bool false)) := (Only.refl [B, C2] w).setCell (p := ⟨B, 3, none⟩) (by simp) _
  have H1 : RowAt (w.setCell ⟨B, 3, none⟩ (.bool false)) C1 [.pointer (some ⟨B, 0, none⟩)] := h1.block (((Only.refl [B] w).setCell (p := ⟨B, 3, none⟩) (by simp) _).block C1 h1.lt (by simpa using fun q => hne.1 q.symm))
  have H2 : RowAt (w.setCell ⟨B, 3, none⟩ (.bool false)) C2 [.int .i64 0] := h2.block (((Only.refl [B] w).setCell (p := ⟨B, 3, none⟩) (by simp) _).block C2 h2.lt (by simpa using fun q => hne.2 q.symm))
  generalize World.setCell _ _ _ = w1 at HB HO H1 H2 ⊢
  clear hB h1 h2 c1 cB fB
  have c1 : ∀ o, (w1.alloc o).cell? ⟨C1, 0, none⟩ = some (.pointer (some ⟨B, 0, none⟩)) := fun o => (H1.alloc o).cell 0 _ rfl
  have cB : ∀ o, (w1.alloc o).cell? ⟨B, 4, none⟩ = some (.int .i64 er) := fun o => (HB.alloc o).cell 4 _ rfl
  have c2 : ∀ o, (w1.alloc o).cell? ⟨C2, 0, none⟩ = some (.int .i64 0) := fun o => (H2.alloc o).cell 0 _ rfl
  have f2 : ∀ o, (w1.alloc o).frozen? ⟨C2, 0, none⟩ = false := fun o => (H2.alloc o).frozen 0 (show 0 < 1 by decide)
  have hg : ∀ W : World, (eqGuard BinOp.eql 20 (.tmp 8) (.const .nilIface) (.iface 122 (.agg #[.pointer (some ⟨B, 0, none⟩)])) .nilIface).run Tryz.prog W = .ok () W := fun _ => by kernel_rfl
  have hq : ∀ W : World, (binOp BinOp.eql 20 (.iface 122 (.agg #[.pointer (some ⟨B, 0, none⟩)])) .nilIface).run Tryz.prog W = .ok (.bool false) W := fun _ => by kernel_rfl
  have ha : ∀ W : World, (Instr.typeAssert (.iface 122 (.agg #[.pointer (some ⟨B, 0, none⟩)])) 20 122 true).run Tryz.prog W = .ok (.tuple #[.agg #[.pointer (some ⟨B, 0, none⟩)], .bool true]) W := fun _ => by kernel_rfl
  have hpq : ∀ W : World, (binOp BinOp.neq 43 (.pointer (some ⟨B, 0, none⟩)) (.pointer (some ⟨B, 0, none⟩))).run Tryz.prog W = .ok (.bool false) W := fun W => by
    obtain ⟨j, hj⟩ := info_step
    exact run_neq_ptr_same _ Tryz.underlying43 hj W
  have hre : recoverD (c₀ :: cs) = some (failV B, { c₀ with mode := .panicking [{ v := failV B, recovered := true }] } :: cs) := by simp [recoverD, hu, failE]
  simp only [Exit.thenS]
  apply wpS_seq
  apply wpS_region
  refine ops_recover rfl ?_
  rw [hre]
  unfold failV
  simp only [Exit.thenS]
  apply wpS_of_wp
  go_wp2
  have HO4 := HO.alloc (.cells #[.pointer (some ⟨B, 0, none⟩)] 122)
  have H4 := H2.alloc (.cells #[.pointer (some ⟨B, 0, none⟩)] 122)
  generalize w1.alloc _ = w2 at HO4 H4 ⊢
  have H3 : RowAt (w2.setCell ⟨C2, 0, none⟩ (.int .i64 er)) C2 [.int .i64 er] := RowAt.setOne H4 0 (.int .i64 er) (show 0 < 1 by decide)
  have HO3 : Only [B, C2] w (w2.setCell ⟨C2, 0, none⟩ (.int .i64 er)) := HO4.setCell (p := ⟨C2, 0, none⟩) (by simp) _
  exact ⟨rfl, _, rfl, _, results_none rfl _ _ _, rfl, rfl, H3, HO3⟩
def Cb {α : Type} (B : Nat) (b : Blk) (n I : Int) (Ls : List Nat) (w0 : World) (s : Sto) (m : Fs.M α) (P : α → World → Prop) (P' : World → Prop) (e : Ending) (w' : World) : Prop :=
  (∃ a s' L, m (nv s) = (.ok a, nv s', L) ∧ Goes s s' L ∧ Ctx w' B b s' n I ∧ e = .returned (.tuple #[]) ∧ P a w' ∧ Only (b.t :: Ls) w0 w') ∨
  (∃ er, Fails s m er ∧ er ≠ 0 ∧ Broke w' B b s n I er ∧ e = .panicked [failE B] ∧ P' w' ∧ Only (B :: b.t :: Ls) w0 w')
def Ran {α : Type} (B : Nat) (b : Blk) (n I : Int) (Ls : List Nat) (w0 : World) (s : Sto) (m : Fs.M α) (P : α → World → Prop) (P' : World → Prop) (e : Ending) (w' : World) : Prop :=
  (∃ a s' L, m (nv s) = (.ok a, nv s', L) ∧ Goes s s' L ∧ e = .returned (.int .i64 0) ∧ StoreAt w' b s' ∧ Vs s' n I ∧ P a w' ∧ Only (B :: b.t :: Ls) w0 w') ∨
  (∃ er s', Fails s m er ∧ er ≠ 0 ∧ e = .returned (.int .i64 er) ∧ StoreAt w' b s' ∧ s' = { s with step := s'.step } ∧ P' w' ∧ Only (B :: b.t :: Ls) w0 w')
def Stable (Ls : List Nat) (N : Nat) (P : World → Prop) : Prop := ∀ w w' L, P w → Only L w w' → (∀ k ∈ L, k ∉ Ls) → N ≤ w.heap.size → P w'
theorem run_box (w : World) (B : Nat) : Lo [] w [(w.heap.size, [.pointer (some ⟨B, 0, none⟩)]), (w.heap.size + 1, [.int .i64 0])] ((w.alloc (.cells #[.pointer (some ⟨B, 0, none⟩)] 43)).alloc (.cells #[.int .i64 0] 33)) :=
  ((Lo.start w (by simp)).alloc _ rfl [.pointer (some ⟨B, 0, none⟩)] _).alloc (w.heap.size + 1) (by simp) [.int .i64 0] _
def StableN (Ls : List Nat) (N M : Nat) (P : World → Prop) : Prop := ∀ w w' L, P w → Only L w w' → (∀ k ∈ L, k ∉ Ls ∧ k < M) → N ≤ w.heap.size → P w'
theorem srun_far {α : Type} {w : World} {B : Nat} {b : Blk} {s : Sto} {n I : Int} (hB : RowAt w B (stepL b.s n I false 0)) (hst : StoreAt w b s) (v : Vs s n I) (nb : B ∉ b.all) (Ls : List Nat) (hLs : ∀ k ∈ Ls, k < w.heap.size ∧ k ≠ B) (m : Fs.M α) (P : Nat → α → World → Prop) (P' : World → Prop) (hP : ∀ M a, StableN Ls w.heap.size M (P M a)) (hP' : Stable Ls w.heap.size P') (f : FuncId) (caps : Array Value) (hcf : ∀ (args : Array Value) (W : World), (callFunc f args).run Tryz.prog W = .ok (.enter f args) W)
    (hf : ∀ w1, Ctx w1 B b s n I → Only [B] w w1 → Calls Tryz.prog f (#[.pointer (some ⟨B, 0, none⟩)] ++ caps) w1 (Cb B b n I Ls w1 s m (P w1.heap.size) P')) :
    Calls Tryz.prog 33 #[.pointer (some ⟨B, 0, none⟩), .func (.func f) #[] caps] w (Ran B b n I Ls w s m (fun a W => ∃ M, w.heap.size ≤ M ∧ P M a W) P') := by
  have hmf : ∀ (fn : Fn) (first cap : Array Value) (w : World), (Instr.makeFunc fn first cap).run Tryz.prog w = .ok (.func fn first cap) w := fun _ _ _ _ => rfl
  have c1 : ∀ o, ((w.alloc (.cells #[.pointer (some ⟨B, 0, none⟩)] 43)).alloc o).cell? ⟨B, 3, none⟩ = some (.bool false) := fun o => ((hB.alloc _).alloc o).cell 3 _ rfl
  have f1 : ∀ o, ((w.alloc (.cells #[.pointer (some ⟨B, 0, none⟩)] 43)).alloc o).frozen? ⟨B, 3, none⟩ = false := fun o => ((hB.alloc _).alloc o).frozen 3 (show 3 < 5 by decide)
  have hnf : ∀ W : World, (binOp BinOp.neq 48 (.func (.func f) #[] caps) .nilFunc).run Tryz.prog W = .ok (.bool true) W := fun _ => by kernel_rfl
  have hbl : B < w.heap.size := hB.lt
  have c2 : (((w.alloc (.cells #[.pointer (some ⟨B, 0, none⟩)] 43)).alloc (.cells #[.int .i64 0] 33)).setCell ⟨B, 3, none⟩ (.bool true)).cell? ⟨w.heap.size, 0, none⟩ = some (.pointer (some ⟨B, 0, none⟩)) := (((run_box w B).get 0 _ rfl).setOther B 3 (.bool true) (by show w.heap.size ≠ B; omega)).cell 0 _ rfl
  go_enter_defers Tryz.func33, Tryz.ntmps33
  go_wp2_with fail
  have hsz : (w.setCell ⟨B, 3, none⟩ (.bool true)).heap.size = w.heap.size := by simp
  have HB3 : RowAt (w.setCell ⟨B, 3, none⟩ (.bool true)) B (stepL b.s n I true 0) := RowAt.setOne hB 3 (.bool true) (show 3 < 5 by decide)
  have HO0 : Only [B] w (w.setCell ⟨B, 3, none⟩ (.bool true)) := (Only.refl [B] w).setCell (p := ⟨B, 3, none⟩) (by simp) _
  have HST0 : StoreAt (w.setCell ⟨B, 3, none⟩ (.bool true)) b s := hst.only HO0 (fun k hk q => by rw [List.mem_singleton] at q; subst q; exact nb hk)
  generalize w.setCell ⟨B, 3, none⟩ (.bool true) = w0 at hsz HB3 HO0 HST0 ⊢
  have S := run_box w0 B
  rw [hsz] at S
  have HC : Ctx ((w0.alloc (.cells #[.pointer (some ⟨B, 0, none⟩)] 43)).alloc (.cells #[.int .i64 0] 33)) B b s n I := ⟨(HB3.alloc _).alloc _, (HST0.alloc _).alloc _, v, nb⟩
  have HO := (HO0.alloc (.cells #[.pointer (some ⟨B, 0, none⟩)] 43)).alloc (.cells #[.int .i64 0] 33)
  generalize World.alloc _ _ = w1 at S HC HO ⊢
  have hN : ∀ k ∈ b.t :: Ls, k < w.heap.size := fun k hk => by
    rcases List.mem_cons.1 hk with rfl | hk
    · exact hst.lt _ b.t_mem
    · exact (hLs k hk).1
  have r1 : RowAt w1 w.heap.size [.pointer (some ⟨B, 0, none⟩)] := S.get 0 _ rfl
  have r2 : RowAt w1 (w.heap.size + 1) [.int .i64 0] := S.get 1 _ rfl
  refine (hf w1 HC HO).mono ?_
  rintro e w2 (⟨a, s', L, E, G, C', rfl, hPa, O⟩ | ⟨er, F, h0, Br, rfl, hPw, O⟩)
  · have k1 : RowAt w2 w.heap.size [.pointer (some ⟨B, 0, none⟩)] := r1.only O (fun q => by have := hN _ q; omega)
    have k2 : RowAt w2 (w.heap.size + 1) [.int .i64 0] := r2.only O (fun q => by have := hN _ q; omega)
    have cc := k2.cell 0 _ rfl
    have ff := k2.frozen 0 (show 0 < 1 by decide)
    go_wp2_with fail
    have k3 : RowAt (w2.setCell ⟨w.heap.size + 1, 0, none⟩ (.int .i64 0)) (w.heap.size + 1) [.int .i64 0] := RowAt.setOne k2 0 (.int .i64 0) (show 0 < 1 by decide)
    have k4 : RowAt (w2.setCell ⟨w.heap.size + 1, 0, none⟩ (.int .i64 0)) w.heap.size [.pointer (some ⟨B, 0, none⟩)] := k1.setOther _ 0 _ (by omega)
    have k5 : RowAt (w2.setCell ⟨w.heap.size + 1, 0, none⟩ (.int .i64 0)) B (stepL b.s n I true 0) := C'.step.setOther _ 0 _ (by omega)
    have O3 : Only [w.heap.size + 1] w2 (w2.setCell ⟨w.heap.size + 1, 0, none⟩ (.int .i64 0)) := (Only.refl _ w2).setCell (p := ⟨w.heap.size + 1, 0, none⟩) (by simp) _
    generalize World.setCell _ _ _ = w3 at k3 k4 k5 O3 ⊢
    refine leaves_cons (f := 77) (args := #[.pointer (some ⟨w.heap.size, 0, none⟩), .pointer (some ⟨w.heap.size + 1, 0, none⟩)]) (by simp) (by simp [go_sem]) ?_
    refine (runD_idle k5 k4 k3 ⟨by omega, by omega⟩).mono ?_
    rintro e u' w4 ⟨rfl, rfl, hR, hO⟩
    have h3 := hR.cell 0 _ rfl
    simp [Leaves, settle, results, Tryz.results33, go_sem]
    rw [h3]
    have O4 : Only [B, w.heap.size + 1] w2 w4 := (O3.mono (by simp)).trans hO
    refine ⟨_, rfl, Or.inl ⟨a, s', L, E, G, rfl, C'.store.only O4 (fun k hk q => ?_), C'.vs, ⟨w1.heap.size, HO.size, hP _ a w2 w4 _ hPa O4 (fun k hk => ?_) (Nat.le_trans HO.size O.size)⟩, ?_⟩⟩
    · simp only [List.mem_cons, List.not_mem_nil, or_false] at q
      rcases q with rfl | rfl
      · exact nb hk
      · have := hst.lt _ hk; omega
    · simp only [List.mem_cons, List.not_mem_nil, or_false] at hk
      refine ⟨fun q => ?_, ?_⟩
      · have := hLs k q
        rcases hk with rfl | rfl <;> omega
      · have h2 := r2.lt
        have h9 := HO.size
        rcases hk with rfl | rfl <;> omega
    · have OA : Only (B :: b.t :: Ls) w w2 := Only.via (HO.mono (by simp)) O (fun i hi => Or.inl (List.mem_cons_of_mem _ hi))
      exact OA.via O4 (fun i hi => by
        simp only [List.mem_cons, List.not_mem_nil, or_false] at hi ⊢
        rcases hi with rfl | rfl
        · exact Or.inl (Or.inl rfl)
        · exact Or.inr (by omega))
  · have k1 : RowAt w2 w.heap.size [.pointer (some ⟨B, 0, none⟩)] := r1.only O (fun q => by
      rcases List.mem_cons.1 q with q | q
      · omega
      · have := hN _ q; omega)
    have k2 : RowAt w2 (w.heap.size + 1) [.int .i64 0] := r2.only O (fun q => by
      rcases List.mem_cons.1 q with q | q
      · omega
      · have := hN _ q; omega)
    show Leaves _ _ _ _ _ _ _
    refine leaves_cons (f := 77) (args := #[.pointer (some ⟨w.heap.size, 0, none⟩), .pointer (some ⟨w.heap.size + 1, 0, none⟩)]) (by simp) (by simp [go_sem]) ?_
    refine (runD_failed Br.step k1 k2 ⟨by omega, by omega⟩).mono ?_
    rintro e u' w3 ⟨rfl, rfl, hR, hO⟩
    have h3 := hR.cell 0 _ rfl
    simp [Leaves, settle, results, Tryz.results33, go_sem]
    rw [h3]
    obtain ⟨s', hs1, hs2⟩ := Br.store
    refine ⟨_, rfl, Or.inr ⟨er, s', F, h0, rfl, hs1.only hO (fun k hk q => ?_), hs2, hP' w2 w3 _ hPw hO (fun k hk q => ?_) (Nat.le_trans HO.size O.size), ?_⟩⟩
    · simp only [List.mem_cons, List.not_mem_nil, or_false] at q
      rcases q with rfl | rfl
      · exact nb hk
      · have := hst.lt _ hk; omega
    · simp only [List.mem_cons, List.not_mem_nil, or_false] at hk
      have := hLs k q
      rcases hk with rfl | rfl <;> omega
    · have OA : Only (B :: b.t :: Ls) w w2 := Only.via (HO.mono (by simp)) O (fun i hi => Or.inl hi)
      exact OA.via hO (fun i hi => by
        simp only [List.mem_cons, List.not_mem_nil, or_false] at hi ⊢
        rcases hi with rfl | rfl
        · exact Or.inl (Or.inl rfl)
        · exact Or.inr (by omega))
end

section
open Go.RowKit Go.Maps
open Dk (zeros zeros_length)
open Ii (Ino)
structure VolAt (w : World) (V : Nat) (b : Blk) (s : Sto) (n I k : Int) : Prop where
  row : RowAt w V (volL b.s n I k)
  store : StoreAt w b s
  nb : V ∉ b.all
section
variable {w w' : World} {V : Nat} {b : Blk} {s : Sto} {n I k : Int}
theorem VolAt.below (h : VolAt w V b s n I k) (hb : Below w.heap.size w w') : VolAt w' V b s n I k := ⟨h.row.step hb, h.store.below hb, h.nb⟩
theorem VolAt.alloc (h : VolAt w V b s n I k) (o : Obj) : VolAt (w.alloc o) V b s n I k := ⟨h.row.alloc o, h.store.alloc o, h.nb⟩
theorem VolAt.only (h : VolAt w V b s n I k) {L : List Nat} (ho : Only L w w') (hV : V ∉ L) (hL : ∀ i ∈ b.all, i ∉ L) : VolAt w' V b s n I k := ⟨h.row.block (ho.block V h.row.lt hV), h.store.only ho hL, h.nb⟩
theorem VolAt.c0 (h : VolAt w V b s n I k) : w.cell? ⟨V, 0, none⟩ = some (.pointer (some ⟨b.s, 0, none⟩)) := h.row.cell 0 _ rfl
theorem VolAt.c3 (h : VolAt w V b s n I k) : w.cell? ⟨V, 3, none⟩ = some (.int .i64 k) := h.row.cell 3 _ rfl
theorem VolAt.f3 (h : VolAt w V b s n I k) : w.frozen? ⟨V, 3, none⟩ = false := h.row.frozen 3 (show 3 < 4 by decide)
theorem VolAt.set (h : VolAt w V b s n I k) (j : Int) : VolAt (w.setCell ⟨V, 3, none⟩ (.int .i64 j)) V b s n I j :=
  ⟨RowAt.setOne h.row 3 (.int .i64 j) (show 3 < 4 by decide), h.store.only ((Only.refl [V] w).setCell (p := ⟨V, 3, none⟩) (by simp) _) (fun i hi q => by rw [List.mem_singleton] at q; subst q; exact h.nb hi), h.nb⟩
end
theorem vover_nil (w : World) : Calls Tryz.prog 30 #[.pointer none] w fun e w' => e = .returned (.bool true) ∧ w = w' := by
  go_enter Tryz.func30, Tryz.ntmps30
  go_wp2
  go_ret
  exact ⟨rfl, rfl⟩
theorem vover_any {w : World} {V : Nat} {b : Blk} {s : Sto} {n I k : Int} (h : VolAt w V b s n I k) : Calls Tryz.prog 30 #[.pointer (some ⟨V, 0, none⟩)] w fun e w' => e = .returned (.bool s.over) ∧ w = w' := by
  have c0 := h.c0
  have HO := Lib.hid (sover_any h.store)
  clear h
  go_enter Tryz.func30, Tryz.ntmps30
  go_wp2_with (go_at_call 71; (with_reducible refine HO.out.mono ?_); rintro e w' ⟨rfl, rfl⟩)
  go_ret
  exact ⟨rfl, rfl⟩
def dropV (st : Nat) : Value := .func (.func 72) #[.pointer (some ⟨st, 0, none⟩)] #[]
theorem begin_any {w : World} {V : Nat} {b : Blk} {s : Sto} {n I : Int} (h : VolAt w V b s n I 0) : Calls Tryz.prog 31 #[.pointer (some ⟨V, 0, none⟩)] w fun e w' => e = .returned (dropV b.s) ∧ VolAt w' V b s n I 1 ∧ Only [V] w w' := by
  have hmf : ∀ (fn : Fn) (first cap : Array Value) (w : World), (Instr.makeFunc fn first cap).run Tryz.prog w = .ok (.func fn first cap) w := fun _ _ _ _ => rfl
  have H1 := h.alloc (.cells #[.pointer (some ⟨V, 0, none⟩)] 25)
  have HO := (Only.refl [V] w).alloc (.cells #[.pointer (some ⟨V, 0, none⟩)] 25)
  have r0 : RowAt (w.alloc (.cells #[.pointer (some ⟨V, 0, none⟩)] 25)) w.heap.size [.pointer (some ⟨V, 0, none⟩)] := ((Lo.start (L := []) w (by simp)).alloc _ rfl [.pointer (some ⟨V, 0, none⟩)] 25).get 0 _ rfl
  have c3 := H1.c3
  have f3 := H1.f3
  have H2 := H1.set 1
  have HO2 := HO.setCell (p := ⟨V, 3, none⟩) (by simp) (.int .i64 1)
  have c0 := H2.c0
  clear h r0
  go_enter Tryz.func31, Tryz.ntmps31
  go_wp2
  go_ret
  exact ⟨rfl, H2, HO2⟩
def keepL (b : Blk) : List Nat := [b.j, b.d, b.l, b.m, b.g, b.t]
theorem vkeep_any {w : World} {V : Nat} {b : Blk} {s : Sto} {n I : Int} (h : VolAt w V b s n I 1) (hq0 : 0 ≤ s.q) (hq1 : s.q < 4294967290) : Calls Tryz.prog 34 #[.pointer (some ⟨V, 0, none⟩)] w fun e w' => e = .returned (.int .i64 (skeepE s)) ∧ StoreAt w' b (skeep s) ∧ Only (keepL b) w w' := by
  have c3 := h.c3
  have c0 := h.c0
  have HK := Lib.hid (skeep_any h.store hq0 hq1)
  clear h
  go_enter Tryz.func34, Tryz.ntmps34
  go_wp2_with (go_at_call 78; (with_reducible refine HK.out.mono ?_); rintro e w' ⟨rfl, hst, hO⟩)
  go_ret
  exact ⟨rfl, hst, hO⟩
theorem doD_any {w : World} {V : Nat} {b : Blk} {s : Sto} {n I : Int} {C0 C1 C2 : Nat} {u : FrameMode} (h : VolAt w V b s n I 1) (h0 : RowAt w C0 [.pointer (some ⟨V, 0, none⟩)]) (h1 : RowAt w C1 [dropV b.s]) (done : Bool) (h2 : RowAt w C2 [.bool done]) (hne : C0 ≠ V ∧ C1 ≠ V ∧ C2 ≠ V) :
    CallsD Tryz.prog 32 #[.pointer (some ⟨C0, 0, none⟩), .pointer (some ⟨C2, 0, none⟩), .pointer (some ⟨C1, 0, none⟩)] u w fun e u' w' => u' = u ∧ (e = .returned (.tuple #[]) ∧ VolAt w' V b (if done = true then s else sdrop s) n I 0 ∧ Only [V, b.t] w w') := by
  have H1 := h.set 0
  have HO := (Only.refl [V, b.t] w).setCell (p := ⟨V, 3, none⟩) (by simp) (.int .i64 0)
  have c3 := h.c3
  have f3 := h.f3
  have c0 := h0.cell 0 _ rfl
  have c1 := (h1.setOther V 3 (.int .i64 0) hne.2.1).cell 0 _ rfl
  have c2 := (h2.setOther V 3 (.int .i64 0) hne.2.2).cell 0 _ rfl
  clear h h0 h1 h2
  go_enter_d Tryz.func32, Tryz.ntmps32
  cases done with
  | true =>
    go_wp2
    go_end0
    exact ⟨rfl, H1, HO⟩
  | false =>
    have HD := Lib.hid (sdrop_any H1.store)
    unfold dropV at c1
    go_wp2_with (go_at_call 72; (with_reducible refine HD.out.mono ?_); rintro e w' ⟨rfl, hst, hO⟩)
    go_end0
    refine ⟨rfl, ⟨H1.row.block (hO.block V H1.row.lt ?_), hst, H1.nb⟩, HO.trans (hO.mono (by simp))⟩
    rw [List.mem_singleton]
    intro q
    exact H1.nb (q ▸ b.t_mem)
def Stepped {α : Type} (V : Nat) (b : Blk) (n I : Int) (s : Sto) (m : Fs.M α) (P : α → World → Prop) (P' : World → Prop) (e : Ending) (w' : World) : Prop :=
  (∃ a s' L, m (nv s) = (.ok a, nv s', L) ∧ Goes s s' L ∧ Vs s' n I ∧ skeepE s' = 0 ∧ e = .returned (.int .i64 0) ∧ VolAt w' V b (skeep s') n I 0 ∧ P a w') ∨
  (∃ er, Fails s m er ∧ er ≠ 0 ∧ e = .returned (.int .i64 er) ∧ VolAt w' V b (sdrop s) n I 0 ∧ P' w') ∨
  (∃ a s' L, m (nv s) = (.ok a, nv s', L) ∧ Goes s s' L ∧ Vs s' n I ∧ skeepE s' ≠ 0 ∧ e = .returned (.int .i64 (skeepE s')) ∧ VolAt w' V b (sdrop (skeep s')) n I 0 ∧ P a w')
theorem do_far {α : Type} {w : World} {V : Nat} {b : Blk} {s : Sto} {n I : Int} (h : VolAt w V b s n I 0) (v : Vs s n I) (hq : s.q < 4294967290) (Ls : List Nat) (hLs : ∀ k ∈ Ls, k < w.heap.size ∧ k ≠ V ∧ k ∉ b.all) (m : Fs.M α) (P : Nat → α → World → Prop) (P' : World → Prop) (hP : ∀ M a, StableN Ls w.heap.size M (P M a)) (hP' : Stable Ls w.heap.size P') (f : FuncId) (caps : Array Value) (hcf : ∀ (args : Array Value) (W : World), (callFunc f args).run Tryz.prog W = .ok (.enter f args) W)
    (hf : ∀ B w1, w.heap.size ≤ B → Ctx w1 B b s n I → Only [V] w w1 → Calls Tryz.prog f (#[.pointer (some ⟨B, 0, none⟩)] ++ caps) w1 (Cb B b n I Ls w1 s m (P w1.heap.size) P')) :
    Calls Tryz.prog 11 #[.pointer (some ⟨V, 0, none⟩), .func (.func f) #[] caps] w fun e w' => Stepped V b n I s m (fun a W => ∃ M, w.heap.size ≤ M ∧ P M a W) P' e w' ∧ Only (V :: (b.all ++ Ls)) w w' := by
  have hmf : ∀ (fn : Fn) (first cap : Array Value) (w : World), (Instr.makeFunc fn first cap).run Tryz.prog w = .ok (.func fn first cap) w := fun _ _ _ _ => rfl
  have H1 := h.alloc (.cells #[.pointer (some ⟨V, 0, none⟩)] 25)
  have S1 := (Lo.start (L := [V]) w (by have := h.row.lt; simpa using this)).alloc _ rfl [.pointer (some ⟨V, 0, none⟩)] 25
  have hov := v.snd.up
  have HV := Lib.hid (vover_any H1)
  rw [hov] at HV
  have HB := Lib.hid (begin_any H1)
  unfold dropV at HB
  have r0 := S1.get 0 _ rfl
  have c0 := r0.cell 0 _ rfl
  have hlt := h.row.lt
  go_enter_defers Tryz.func11, Tryz.ntmps11
  go_wp2_with (first
    | (go_at_call 30; (with_reducible refine HV.out.mono ?_); rintro e w' ⟨rfl, rfl⟩)
    | (go_at_call 31; (with_reducible refine HB.out.mono ?_); rintro e w2 ⟨rfl, HV2, HO2⟩; have S2 := S1.call HO2 (fun k hk => hk); have c0b : ∀ o1 o2, ((w2.alloc o1).alloc o2).cell? ⟨w.heap.size, 0, none⟩ = some (.pointer (some ⟨V, 0, none⟩)) := fun o1 o2 => (((S2.get 0 _ rfl).alloc o1).alloc o2).cell 0 _ rfl)
    | (with_reducible refine wpList_load_mid rfl 70 (.tmp 17) rfl V 0 rfl [.pointer (some ⟨b.s, 0, none⟩), .int .i64 n, .int .i64 I] _ ((HV2.alloc _).alloc _).row.base Tryz.underlying70 rfl (by kernel_rfl) ?_))
  have T1 := S2.alloc w2.heap.size rfl [dropV b.s] 1
  have T2 := T1.alloc (w2.heap.size + 1) (by simp) [.bool false] 4
  have T3 := T2.alloc (w2.heap.size + 1 + 1) (by simp) (stepL b.s n I false 0) 74
  have HV3 := ((HV2.alloc (.cells [dropV b.s].toArray 1)).alloc (.cells [.bool false].toArray 4)).alloc (.cells (stepL b.s n I false 0).toArray 74)
  have hws : w.heap.size + 1 ≤ w2.heap.size := (S1.call HO2 (fun k hk => hk)).row _ (List.mem_cons_self ..) |>.2.2
  change Calls _ _ _ (((w2.alloc (.cells [dropV b.s].toArray 1)).alloc (.cells [.bool false].toArray 4)).alloc (.cells (stepL b.s n I false 0).toArray 74)) _
  generalize hw3 : World.alloc _ _ = w3 at T3 HV3 ⊢
  have hsz3 : w3.heap.size = w2.heap.size + 1 + 1 + 1 := by rw [← hw3]; simp
  clear hw3 T1 T2 S1 S2 H1 HV HB HO2 HV2 c0 c0b r0
  obtain ⟨C1, hC1⟩ : ∃ C1, C1 = w2.heap.size := ⟨_, rfl⟩
  rw [← hC1] at T3 hws hsz3 ⊢
  clear hC1 w2
  have T : Lo [V] w [(w.heap.size, [.pointer (some ⟨V, 0, none⟩)]), (C1, [dropV b.s]), (C1 + 1, [.bool false]), (C1 + 1 + 1, stepL b.s n I false 0)] w3 := T3
  clear T3
  have hbl : ∀ k ∈ b.all, k < w.heap.size := fun k hk => h.store.lt k hk
  have hq0 := v.snd.q0
  have r0 : RowAt w3 w.heap.size [.pointer (some ⟨V, 0, none⟩)] := T.get 0 _ rfl
  have r1 : RowAt w3 C1 [dropV b.s] := T.get 1 _ rfl
  have r2 : RowAt w3 (C1 + 1) [.bool false] := T.get 2 _ rfl
  have rB : RowAt w3 (C1 + 1 + 1) (stepL b.s n I false 0) := T.get 3 _ rfl
  have OA : Only (V :: (b.all ++ Ls)) w w3 := T.only.mono (by simp)
  refine (srun_far rB HV3.store v (fun q => by have := hbl _ q; omega) Ls (fun k hk => ⟨by have := (hLs k hk).1; omega, by have := (hLs k hk).1; omega⟩) m P P' (fun M a w1 w1' L h1 h2 h3 h4 => hP M a w1 w1' L h1 h2 h3 (by omega)) (fun w1 w1' L h1 h2 h3 h4 => hP' w1 w1' L h1 h2 h3 (by omega)) f caps hcf (fun w1 hc ho => hf _ w1 (by omega) hc (T.only.via ho (fun i hi => Or.inr (by rw [List.mem_singleton] at hi; omega))))).mono ?_
  have hkO : ∀ i, i ∈ (C1 + 1 + 1) :: b.t :: Ls → i ∈ V :: (b.all ++ Ls) ∨ w.heap.size ≤ i := fun i hi => by
    rcases List.mem_cons.1 hi with rfl | hi
    · right; omega
    · left
      rcases List.mem_cons.1 hi with rfl | hi
      · exact List.mem_cons_of_mem _ (List.mem_append_left _ b.t_mem)
      · exact List.mem_cons_of_mem _ (List.mem_append_right _ hi)
  have hnC : ∀ k, w.heap.size ≤ k → k ≠ C1 + 1 + 1 → k ∉ (C1 + 1 + 1) :: b.t :: Ls := fun k hk hne q => by
    rcases List.mem_cons.1 q with q | q
    · exact hne q
    · rcases List.mem_cons.1 q with q | q
      · have := hbl _ b.t_mem; omega
      · have := (hLs k q).1; omega
  have hnV : V ∉ (C1 + 1 + 1) :: b.t :: Ls := fun q => by
    rcases List.mem_cons.1 q with q | q
    · omega
    · rcases List.mem_cons.1 q with q | q
      · exact h.nb (q ▸ b.t_mem)
      · exact (hLs V q).2.1 rfl
  rintro e w4 (⟨a, s', L, E, G, rfl, hst, v', ⟨M, hM, hPa⟩, O⟩ | ⟨er, s', F, h0, rfl, hst, hs', hPw, O⟩)
  · have OB := OA.via O hkO
    have HV4 : VolAt w4 V b s' n I 1 := ⟨HV3.row.only O hnV, hst, h.nb⟩
    have k0 : RowAt w4 w.heap.size [.pointer (some ⟨V, 0, none⟩)] := r0.only O (hnC _ (by omega) (by omega))
    have k1 : RowAt w4 C1 [dropV b.s] := r1.only O (hnC _ (by omega) (by omega))
    have k2 : RowAt w4 (C1 + 1) [.bool false] := r2.only O (hnC _ (by omega) (by omega))
    have c0 := k0.cell 0 _ rfl
    have HK := Lib.hid (vkeep_any HV4 (by rw [G.same]; exact hq0) (by rw [G.same]; exact hq))
    have hkL : ∀ i ∈ keepL b, i ∈ b.all := fun i hi => by simp only [keepL, Blk.all, List.mem_cons, List.not_mem_nil, or_false] at hi ⊢; rcases hi with h | h | h | h | h | h <;> simp [h]
    have hnK : ∀ k, w.heap.size ≤ k → k ∉ keepL b := fun k hk q => by have := hbl _ (hkL _ q); omega
    have hnVK : V ∉ keepL b := fun q => h.nb (hkL _ q)
    by_cases hke : skeepE s' = 0
    · rw [hke] at HK
      have arm : ∀ w5, StoreAt w5 b (skeep s') → Only (keepL b) w4 w5 → VolAt w5 V b (skeep s') n I 1 ∧ RowAt w5 w.heap.size [.pointer (some ⟨V, 0, none⟩)] ∧ RowAt w5 C1 [dropV b.s] ∧ RowAt w5 (C1 + 1) [.bool false] ∧ (∀ a, P M a w4 → P M a w5) ∧ Only (V :: (b.all ++ Ls)) w w5 := fun w5 hs5 ho => ⟨⟨HV4.row.only ho hnVK, hs5, h.nb⟩, k0.only ho (hnK _ (by omega)), k1.only ho (hnK _ (by omega)), k2.only ho (hnK _ (by omega)), fun a hp => hP M a _ _ _ hp ho (fun k hk => ⟨fun q => (hLs k q).2.2 (hkL _ hk), by have := hbl _ (hkL _ hk); omega⟩) OB.size, OB.via ho (fun i hi => Or.inl (List.mem_cons_of_mem _ (List.mem_append_left _ (hkL _ hi))))⟩
      go_wp2_with (go_at_call 34; (with_reducible refine HK.out.mono ?_); rintro e w5 ⟨rfl, hs5, hO5⟩; obtain ⟨HV5, j0, j1, j2, hPP, OC⟩ := arm w5 hs5 hO5; have c2 := j2.cell 0 _ rfl; have f2 := j2.frozen 0 (show 0 < 1 by decide))
      have HV6 : VolAt (w5.setCell ⟨C1 + 1, 0, none⟩ (.bool true)) V b (skeep s') n I 1 := HV5.only (L := [C1 + 1]) ((Only.refl _ w5).setCell (p := ⟨C1 + 1, 0, none⟩) (by simp) _) (by simp; omega) (fun i hi q => by rw [List.mem_singleton] at q; have := hbl _ hi; omega)
      have i0 := j0.setOther (C1 + 1) 0 (.bool true) (by omega)
      have i1 := j1.setOther (C1 + 1) 0 (.bool true) (by omega)
      have i2 : RowAt (w5.setCell ⟨C1 + 1, 0, none⟩ (.bool true)) (C1 + 1) [.bool true] := RowAt.setOne j2 0 (.bool true) (show 0 < 1 by decide)
      have O6 : Only [C1 + 1] w5 (w5.setCell ⟨C1 + 1, 0, none⟩ (.bool true)) := (Only.refl _ w5).setCell (p := ⟨C1 + 1, 0, none⟩) (by simp) _
      generalize World.setCell _ _ _ = w6 at HV6 i0 i1 i2 O6 ⊢
      show Leaves _ _ _ _ _ _ _
      refine leaves_cons (f := 32) (args := #[.pointer (some ⟨w.heap.size, 0, none⟩), .pointer (some ⟨C1 + 1, 0, none⟩), .pointer (some ⟨C1, 0, none⟩)]) (by simp) (by simp [go_sem]) ?_
      refine (doD_any HV6 i0 i1 true i2 ⟨by omega, by omega, by omega⟩).mono ?_
      rintro e u' w7 ⟨rfl, rfl, HV7, hO7⟩
      simp [Leaves, settle, results, Tryz.results11, go_sem]
      have O7 : Only [C1 + 1, V, b.t] w5 w7 := (O6.mono (by simp)).trans (hO7.mono (by simp))
      refine ⟨Or.inl ⟨a, s', L, E, G, v', hke, rfl, HV7, ⟨M, by omega, hP M a _ _ _ (hPP a hPa) O7 (fun k hk => ?_) OC.size⟩⟩, OC.via O7 (fun i hi => ?_)⟩
      · simp only [List.mem_cons, List.not_mem_nil, or_false] at hk
        refine ⟨fun q => ?_, ?_⟩
        · obtain ⟨q1, q2, q3⟩ := hLs k q
          rcases hk with rfl | rfl | rfl
          · omega
          · exact q2 rfl
          · exact q3 b.t_mem
        · rcases hk with rfl | rfl | rfl
          · omega
          · omega
          · have := hbl _ b.t_mem; omega
      · simp only [List.mem_cons, List.not_mem_nil, or_false] at hi
        rcases hi with rfl | rfl | rfl
        · right; omega
        · left; exact List.mem_cons_self ..
        · left; exact List.mem_cons_of_mem _ (List.mem_append_left _ b.t_mem)
    · have hke' : (skeepE s' == 0) = false := by simpa using hke
      have arm : ∀ w5, StoreAt w5 b (skeep s') → Only (keepL b) w4 w5 → VolAt w5 V b (skeep s') n I 1 ∧ RowAt w5 w.heap.size [.pointer (some ⟨V, 0, none⟩)] ∧ RowAt w5 C1 [dropV b.s] ∧ RowAt w5 (C1 + 1) [.bool false] ∧ (∀ a, P M a w4 → P M a w5) ∧ Only (V :: (b.all ++ Ls)) w w5 := fun w5 hs5 ho => ⟨⟨HV4.row.only ho hnVK, hs5, h.nb⟩, k0.only ho (hnK _ (by omega)), k1.only ho (hnK _ (by omega)), k2.only ho (hnK _ (by omega)), fun a hp => hP M a _ _ _ hp ho (fun k hk => ⟨fun q => (hLs k q).2.2 (hkL _ hk), by have := hbl _ (hkL _ hk); omega⟩) OB.size, OB.via ho (fun i hi => Or.inl (List.mem_cons_of_mem _ (List.mem_append_left _ (hkL _ hi))))⟩
      go_wp2_with (go_at_call 34; (with_reducible refine HK.out.mono ?_); rintro e w5 ⟨rfl, hs5, hO5⟩; obtain ⟨HV5, j0, j1, j2, hPP, OC⟩ := arm w5 hs5 hO5)
      show Leaves _ _ _ _ _ _ _
      refine leaves_cons (f := 32) (args := #[.pointer (some ⟨w.heap.size, 0, none⟩), .pointer (some ⟨C1 + 1, 0, none⟩), .pointer (some ⟨C1, 0, none⟩)]) (by simp) (by simp [go_sem]) ?_
      refine (doD_any HV5 j0 j1 false j2 ⟨by omega, by omega, by omega⟩).mono ?_
      rintro e u' w7 ⟨rfl, rfl, HV7, hO7⟩
      simp [Leaves, settle, results, Tryz.results11, go_sem]
      refine ⟨Or.inr (Or.inr ⟨a, s', L, E, G, v', hke, rfl, HV7, ⟨M, by omega, hP M a _ _ _ (hPP a hPa) hO7 (fun k hk => ?_) OC.size⟩⟩), OC.via hO7 (fun i hi => ?_)⟩
      · simp only [List.mem_cons, List.not_mem_nil, or_false] at hk
        refine ⟨fun q => ?_, ?_⟩
        · obtain ⟨q1, q2, q3⟩ := hLs k q
          rcases hk with rfl | rfl
          · exact q2 rfl
          · exact q3 b.t_mem
        · rcases hk with rfl | rfl
          · omega
          · have := hbl _ b.t_mem; omega
      · simp only [List.mem_cons, List.not_mem_nil, or_false] at hi
        rcases hi with rfl | rfl
        · left; exact List.mem_cons_self ..
        · left; exact List.mem_cons_of_mem _ (List.mem_append_left _ b.t_mem)
  · obtain ⟨gk, _⟩ : ∃ _ : er ≠ 0, True := ⟨h0, trivial⟩
    go_wp2_with fail
    have OB := OA.via O hkO
    have HV4 : VolAt w4 V b s' n I 1 := ⟨HV3.row.only O hnV, hst, h.nb⟩
    have k0 : RowAt w4 w.heap.size [.pointer (some ⟨V, 0, none⟩)] := r0.only O (hnC _ (by omega) (by omega))
    have k1 : RowAt w4 C1 [dropV b.s] := r1.only O (hnC _ (by omega) (by omega))
    have k2 : RowAt w4 (C1 + 1) [.bool false] := r2.only O (hnC _ (by omega) (by omega))
    show Leaves _ _ _ _ _ _ _
    refine leaves_cons (f := 32) (args := #[.pointer (some ⟨w.heap.size, 0, none⟩), .pointer (some ⟨C1 + 1, 0, none⟩), .pointer (some ⟨C1, 0, none⟩)]) (by simp) (by simp [go_sem]) ?_
    refine (doD_any HV4 k0 k1 false k2 ⟨by omega, by omega, by omega⟩).mono ?_
    rintro e u' w7 ⟨rfl, rfl, HV7, hO7⟩
    simp [Leaves, settle, results, Tryz.results11, go_sem]
    have hdr : sdrop s' = sdrop s := by rw [hs']; rfl
    rw [if_neg (by decide), hdr] at HV7
    refine ⟨Or.inr (Or.inl ⟨er, F, h0, rfl, HV7, hP' _ _ _ hPw hO7 (fun k hk q => ?_) OB.size⟩), OB.via hO7 (fun i hi => ?_)⟩
    · simp only [List.mem_cons, List.not_mem_nil, or_false] at hk
      obtain ⟨q1, q2, q3⟩ := hLs k q
      rcases hk with rfl | rfl
      · exact q2 rfl
      · exact q3 b.t_mem
    · simp only [List.mem_cons, List.not_mem_nil, or_false] at hi
      rcases hi with rfl | rfl
      · left; exact List.mem_cons_self ..
      · left; exact List.mem_cons_of_mem _ (List.mem_append_left _ b.t_mem)
theorem Stepped.mono {α : Type} {V : Nat} {b : Blk} {n I : Int} {s : Sto} {m : Fs.M α} {P Q : α → World → Prop} {P' : World → Prop} {e : Ending} {w' : World} (hPQ : ∀ a w, P a w → Q a w) (h : Stepped V b n I s m P P' e w') : Stepped V b n I s m Q P' e w' := by
  rcases h with ⟨a, s', L, h1, h2, h3, h4, h5, h6, h7⟩ | h | ⟨a, s', L, h1, h2, h3, h4, h5, h6, h7⟩
  · exact Or.inl ⟨a, s', L, h1, h2, h3, h4, h5, h6, hPQ _ _ h7⟩
  · exact Or.inr (Or.inl h)
  · exact Or.inr (Or.inr ⟨a, s', L, h1, h2, h3, h4, h5, h6, hPQ _ _ h7⟩)
theorem do_any {α : Type} {w : World} {V : Nat} {b : Blk} {s : Sto} {n I : Int} (h : VolAt w V b s n I 0) (v : Vs s n I) (hq : s.q < 4294967290) (Ls : List Nat) (hLs : ∀ k ∈ Ls, k < w.heap.size ∧ k ≠ V ∧ k ∉ b.all) (m : Fs.M α) (P : α → World → Prop) (P' : World → Prop) (hP : ∀ a, Stable Ls w.heap.size (P a)) (hP' : Stable Ls w.heap.size P') (f : FuncId) (caps : Array Value) (hcf : ∀ (args : Array Value) (W : World), (callFunc f args).run Tryz.prog W = .ok (.enter f args) W)
    (hf : ∀ B w1, w.heap.size ≤ B → Ctx w1 B b s n I → Only [V] w w1 → Calls Tryz.prog f (#[.pointer (some ⟨B, 0, none⟩)] ++ caps) w1 (Cb B b n I Ls w1 s m P P')) :
    Calls Tryz.prog 11 #[.pointer (some ⟨V, 0, none⟩), .func (.func f) #[] caps] w fun e w' => Stepped V b n I s m P P' e w' ∧ Only (V :: (b.all ++ Ls)) w w' :=
  (do_far h v hq Ls hLs m (fun _ => P) P' (fun _ a w w' L h1 h2 h3 h4 => hP a w w' L h1 h2 (fun k hk => (h3 k hk).1) h4) hP' f caps hcf hf).mono fun _ _ hh => ⟨hh.1.mono fun _ _ h7 => h7.choose_spec.2, hh.2⟩
end

section
open Go.RowKit Go.Maps
open Dk (zeros zeros_length)
open Ii (Ino)
def syncL (b : Blk) : List Nat := [b.j, b.d, b.l, b.m, b.g]
theorem vsync_any {w : World} {V : Nat} {b : Blk} {s : Sto} {n I k : Int} (h : VolAt w V b s n I k) (hup : s.over = false) (hq0 : 0 ≤ s.q) (hq1 : s.q < 4294967290) : Calls Tryz.prog 105 #[.pointer (some ⟨V, 0, none⟩)] w fun e w' => e = .returned (.int .i64 (ssyncE s)) ∧ VolAt w' V b (ssync s) n I k ∧ Only (syncL b) w w' := by
  have HV := Lib.hid (vover_any h)
  rw [hup] at HV
  have HI := Lib.hid (ssync_any h.store hq0 hq1)
  have c0 := h.c0
  have hsub : ∀ i ∈ syncL b, i ∈ b.all := fun i hi => by simp only [syncL, Blk.all, List.mem_cons, List.not_mem_nil, or_false] at hi ⊢; rcases hi with h | h | h | h | h <;> simp [h]
  go_enter Tryz.func105, Tryz.ntmps105
  go_wp2_with (first
    | (go_at_call 30; refine HV.out.mono ?_; rintro e w1 ⟨rfl, rfl⟩)
    | (go_at_call 121; refine HI.out.mono ?_; rintro e w1 ⟨rfl, hst, hO⟩))
  go_ret
  exact ⟨rfl, ⟨h.row.only hO (fun q => h.nb (hsub _ q)), hst, h.nb⟩, hO⟩
end

section
open Go.RowKit Go.Maps
open Dk (zeros zeros_length)
open Ii (Ino)
namespace Fs
end Fs
theorem planT2 : RowT 68 2 := ⟨⟨_, Tryz.underlying68, rfl⟩, by kernel_rfl⟩
theorem planL_one2 (n I : Int) : ∀ v ∈ ([.int .i64 n, .int .i64 I] : List Value), v.oneCell' = true := by
  intro v hv
  simp only [List.mem_cons, List.not_mem_nil, or_false] at hv
  rcases hv with rfl | rfl <;> rfl
end

section
open Go.RowKit Go.Maps
open Dk (zeros zeros_length)
open Ii (Ino)
structure Fop where
  k : Int
  ino : Int
  off : Int
  n : Int
  text : List UInt8
  x : Ino
namespace Fs
end Fs
end

section
open Go.RowKit Go.Maps
open Dk (zeros zeros_length)
open Ii (Ino)
def StepTo {α : Type} (n I : Int) (s : Sto) (m : Fs.M α) (er : Int) (s2 : Sto) (a : Option α) : Prop :=
  (∃ x s' L, m (nv s) = (.ok x, nv s', L) ∧ Goes s s' L ∧ Vs s' n I ∧ skeepE s' = 0 ∧ er = 0 ∧ s2 = skeep s' ∧ a = some x) ∨
  (Fails s m er ∧ er ≠ 0 ∧ s2 = sdrop s ∧ a = none) ∨
  (∃ x s' L, m (nv s) = (.ok x, nv s', L) ∧ Goes s s' L ∧ Vs s' n I ∧ skeepE s' ≠ 0 ∧ er = skeepE s' ∧ s2 = sdrop (skeep s') ∧ a = some x)
theorem Stepped.to {α : Type} {V : Nat} {b : Blk} {n I : Int} {s : Sto} {m : Fs.M α} {P : α → World → Prop} {P' : World → Prop} {e : Ending} {w' : World} (h : Stepped V b n I s m P P' e w') :
    ∃ er s2 a, StepTo n I s m er s2 a ∧ e = .returned (.int .i64 er) ∧ VolAt w' V b s2 n I 0 ∧ (match a with | some x => P x w' | none => P' w') := by
  rcases h with ⟨a, s', L, h1, h2, h3, h4, h5, h6, h7⟩ | ⟨er, h1, h2, h3, h4, h5⟩ | ⟨a, s', L, h1, h2, h3, h4, h5, h6, h7⟩
  · exact ⟨0, _, some a, Or.inl ⟨a, s', L, h1, h2, h3, h4, rfl, rfl, rfl⟩, h5, h6, h7⟩
  · exact ⟨er, _, none, Or.inr (Or.inl ⟨h1, h2, rfl, rfl⟩), h3, h4, h5⟩
  · exact ⟨_, _, some a, Or.inr (Or.inr ⟨a, s', L, h1, h2, h3, h4, rfl, rfl, rfl⟩), h5, h6, h7⟩
theorem stable_row (X : Nat) (N : Nat) (v : Value) (hX : X < N) : Stable [X] N (fun w => RowAt w X [v]) := fun w w' L h ho hk hN => h.only ho (fun q => hk X q (by simp))
theorem do_nil (w : World) (g : Value) : Calls Tryz.prog 11 #[.pointer none, g] w fun e w' => e = .returned (.int .i64 5) ∧ Below w.heap.size w w' := by
  have hmf : ∀ (fn : Fn) (first cap : Array Value) (w : World), (Instr.makeFunc fn first cap).run Tryz.prog w = .ok (.func fn first cap) w := fun _ _ _ _ => rfl
  have HB := below_alloc w (.cells #[.pointer none] 25)
  go_enter_defers Tryz.func11, Tryz.ntmps11
  go_wp2_with (go_at_call 30; (with_reducible refine (vover_nil _).mono ?_); rintro e w' ⟨rfl, rfl⟩)
  simp [bodyPostD, Leaves, settle, results, Tryz.results11, go_sem]
  exact HB
end

section
open Go.ChangeShapes Go.WideShapes Go.ChangeAt Go.RowKit
open Dk (zeros zeros_length)
end

section
open Go.RowKit Go.Maps
open Dk (zeros zeros_length)
end
end Go.Proofs.YtmpfcgjjejlhdaaGreat
