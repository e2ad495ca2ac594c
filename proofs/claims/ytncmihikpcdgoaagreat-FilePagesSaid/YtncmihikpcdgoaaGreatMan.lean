/- Texts of the proof: Fwrite, Frun, Fdo, Fvol, Ftell, Fop, Fldo. -/
import Derived.Test.YtncmihikpcdgoaaGreatMam
import Derived.Defers
import Derived.Recover
import Derived.LaidEqlPtr
import Derived.Laws.EntriesVeiled
namespace Go.Proofs.YtncmihikpcdgoaaGreat
open Go.RowKit Go.Maps
open Dk (zeros zeros_length)
open Ii (Ino)
/-- one piece of a Write: ahead of its page's load, behind that, behind the put -/
def WrS {α : Type} (R : Ending → World → Prop) (B : Nat) (b : Blk) (n I : Int) (Ls : List Nat) (w0 : World) (K : α → Ending → World → Prop) (l : List (Nat × List Value)) (s : Sto) (nn : Int) (g : List UInt8 → List UInt8) (f : Fs.M α) : Option (Option (List UInt8)) → World → Prop
  | none, W => ∃ s', Stp R B b n I Ls w0 K l s' f W
  | some none, W => Stp R B b n I Ls w0 K l s (Fs.andThen (Fs.tell (Fs.dataF n I nn)) fun p => Fs.andThen (Fs.wr nn.toNat (g p)) fun _ => f) W
  | some (some p), W => ∃ s', Stp R B b n I Ls w0 K l s' (Fs.andThen (Fs.wr nn.toNat (g p)) fun _ => f) W ∧ Fs.isData n I nn ∧ p.length = 64
section
variable {α : Type} {R : Ending → World → Prop} {B : Nat} {b : Blk} {n I : Int} {Ls : List Nat} {w0 : World} {K : α → Ending → World → Prop} {l : List (Nat × List Value)} {s : Sto} {nn : Int} {g : List UInt8 → List UInt8} {f : Fs.M α} {W W' : World}
theorem WrS.lo : ∀ {k : Option (Option (List UInt8))}, WrS R B b n I Ls w0 K l s nn g f k W → Lo (b.t :: Ls) w0 l W
  | none, ⟨_, h⟩ => Stp.lo h
  | some none, h => Stp.lo h
  | some (some _), ⟨_, h, _⟩ => Stp.lo h
theorem WrS.loaded {p : List UInt8} (h : WrS R B b n I Ls w0 K l s nn g f (Option.some (Option.some p)) W) : ∃ s', Stp R B b n I Ls w0 K l s' (Fs.andThen (Fs.wr nn.toNat (g p)) fun _ => f) W ∧ Fs.isData n I nn ∧ p.length = 64 := h
theorem WrS.start (h : WrS R B b n I Ls w0 K l s nn g f (some none) W) : Stp R B b n I Ls w0 K l s (Fs.andThen (Fs.tell (Fs.dataF n I nn)) fun p => Fs.andThen (Fs.wr nn.toNat (g p)) fun _ => f) W := h
theorem WrS.done (h : WrS R B b n I Ls w0 K l s nn g f none W) : ∃ s', Stp R B b n I Ls w0 K l s' f W := h
end
theorem str_size (u : List UInt8) : (strOf u).size = u.length := strOf_size u
set_option maxRecDepth 100000 in
set_option maxHeartbeats 4000000 in
theorem swrite_step {w : World} {B : Nat} {b : Blk} {s : Sto} {n I : Int} (h : Ctx w B b s n I) (i off : Int) (t : List UInt8) (ht : t.length ≤ 10000) : Calls Tryz.prog 17 #[.pointer (some ⟨B, 0, none⟩), .int .i64 i, .int .i64 off, .string (strOf t)] w (Ends B b n I [] w s (Fs.writeM n I i off t) fun _ e _ => e = .returned (.tuple #[])) := by
  refine calls_of fun R H => ?_
  have S := Lib.hid (Stp.start h (by simp) H)
  have HGO := Lib.hid (fun W (hc : Ctx W B b s n I) => goesOn_any hc)
  unfold Fs.writeM at S
  clear h H
  have HSZ := Lib.hid (str_size t)
  have hs9 : (strOf t).size ≤ 10000 := by rw [str_size]; exact ht
  go_enter Tryz.func17, Tryz.ntmps17
  go_wp2_with (go_at_call 41; (with_reducible refine (HGO.out _ S.out.ctx).mono ?_); rintro e w2 ⟨rfl, rfl⟩)
  refine (smustTaken_any S.out.ctx i).mono ?_
  intro e w4 hE
  rcases S.out.bind hE with ⟨rfl, hR⟩ | ⟨x, s4, L4, hi, rfl, S2⟩
  · exact ⟨rfl, hR⟩
  have hib := taken_in (tell_ok hi)
  have S := Lib.hid S2
  clear hE hi S2
  by_cases c1 : off < 0
  · have S5 := Lib.hid (S.out.of (congrFun (if_pos c1) _))
    clear S
    go_wp2_with (first
      | ((with_reducible refine wpList_store_newrow (vs := inoL x) inoT ?_ (inoL_one _) rfl (.tmp 8) (.tmp 17) rfl rfl ?_ ?_ ?_); (exact rfl); (exact rfl); (exact rfl); intro W4 hP hB2 hz2; have S := Lib.hid (S5.out.made hP hB2 hz2); clear hP hB2 hz2 S5)
      | (go_at_call 19; (with_reducible refine (fail_any S.out.ctx 22 (by decide)).mono ?_); rintro e w5 ⟨rfl, hB, hO⟩))
    exact ⟨rfl, S.out.fails (Fails.err rfl) (by decide) hB hO⟩
  · by_cases c2 : t = []
    · subst c2
      have S5 := Lib.hid (S.out.of (m' := Fs.ret ()) (by rw [if_neg c1, if_pos rfl]))
      clear S
      rw [← strOf_nil]
      go_wp2_with ((with_reducible refine wpList_store_newrow (vs := inoL x) inoT ?_ (inoL_one _) rfl (.tmp 8) (.tmp 17) rfl rfl ?_ ?_ ?_); (exact rfl); (exact rfl); (exact rfl); intro W4 hP hB2 hz2; have S := Lib.hid (S5.out.made hP hB2 hz2); clear hP hB2 hz2 S5)
      refine bodyPost_ret (results_none rfl _ _ _) rfl ?_
      exact S.out.done rfl
    · have hne : (strOf t).toList.isEmpty = false := by
        cases hq : (strOf t).toList.isEmpty with
        | false => rfl
        | true =>
          exfalso
          rw [List.isEmpty_iff] at hq
          have := (toList_nil_iff_emptyBytes _).1 hq
          apply c2
          have h2 := str_size t
          rw [this] at h2
          exact List.eq_nil_of_length_eq_zero h2.symm
      by_cases c3 : 67840 - (t.length : Int) < off
      · have S5 := Lib.hid (S.out.of (m' := Fs.fail 27) (by rw [if_neg c1, if_neg c2, if_pos c3]))
        clear S
        have c3' : 67840 - ((strOf t).size : Int) < off := by rw [HSZ.out]; exact c3
        go_wp2_with (first
          | ((with_reducible refine wpList_store_newrow (vs := inoL x) inoT ?_ (inoL_one _) rfl (.tmp 8) (.tmp 17) rfl rfl ?_ ?_ ?_); (exact rfl); (exact rfl); (exact rfl); intro W4 hP hB2 hz2; have S := Lib.hid (S5.out.made hP hB2 hz2); clear hP hB2 hz2 S5)
          | (go_at_call 19; (with_reducible refine (fail_any S.out.ctx 27 (by decide)).mono ?_); rintro e w5 ⟨rfl, hB, hO⟩))
        exact ⟨rfl, S.out.fails (Fails.err rfl) (by decide) hB hO⟩
      · obtain ⟨o, rfl⟩ := Int.eq_ofNat_of_zero_le (show 0 ≤ off by omega)
        obtain ⟨x2, hx2⟩ : ∃ x2 : Ino, x2 = { x with s := max x.s ((o : Int) + t.length) } := ⟨_, rfl⟩
        obtain ⟨sz, hsz⟩ : ∃ sz : Int, sz = max x.s ((o : Int) + t.length) := ⟨_, rfl⟩
        have HX2 : Hid (x2 = { x with s := sz }) := Lib.hid (by rw [hsz]; exact hx2)
        have hon : o + t.length ≤ 67840 := by omega
        have S5 := Lib.hid (S.out.of (m' := Fs.andThen (Fs.wloop n I (Fs.pieces o t.length) x2 t) fun y => Fs.setI i y) (by rw [if_neg c1, if_neg c2, if_neg c3, hx2]; rfl))
        clear S hx2
        have hln : (t.length : Int) = ((strOf t).size : Int) := by rw [HSZ.out]
        have c3' : ¬ 67840 - ((strOf t).size : Int) < (o : Int) := by rw [HSZ.out]; exact c3
        have HPC : Hid (∀ W, Calls Tryz.prog 51 #[.int .i64 (o : Int), .int .i64 ((strOf t).size : Int)] W (PcsGive (Fs.pieces o t.length) W)) := Lib.hid (fun W => by
          rw [HSZ.out]
          exact pieces_some o t.length W (by omega) (by omega))
        have HSPEC := Lib.hid (Fs.pieces_spec t.length o)
        have HIN := Lib.hid (Fs.pieces_in t.length o)
        generalize Fs.pieces o t.length = cs at HPC HSPEC HIN S5
        have hsz2 : sz = max x.s ((o : Int) + ((strOf t).size : Int)) := by rw [HSZ.out]; exact hsz
        have HSZ2 := Lib.hid hsz2
        clear hsz hsz2
        go_wp2_with (first
          | ((with_reducible refine wpList_store_newrow (vs := inoL x) inoT ?_ (inoL_one _) rfl (.tmp 8) (.tmp 17) rfl rfl ?_ ?_ ?_); (exact rfl); (exact rfl); (exact rfl); intro W4 hP hB2 hz2; have S := Lib.hid (S5.out.made hP hB2 hz2); clear hP hB2 hz2 S5; have cc := (S.out.get 0 _ rfl).cell 4 _ rfl; have ff := (S.out.get 0 _ rfl).frozen 4 (show 4 < 11 by decide)))
        have S3 := Lib.hid (S.out.one 0 _ rfl 4 (.int .i64 (max x.s ((o : Int) + ((strOf t).size : Int)))) (inoL x2) (show 4 + 1 ≤ 11 by decide) (by rw [HX2.out, HSZ2.out]; rfl))
        clear S cc ff
        generalize World.setCell _ _ _ = w6 at S3 ⊢
        have S : Hid (Stp R B b n I [] w (fun _ e _ => e = .returned (.tuple #[])) [(w4.heap.size, inoL x2)] s4 (Fs.andThen (Fs.wloop n I cs x2 t) fun y => Fs.setI i y) w6) := Lib.hid S3.out
        clear S3
        generalize w4.heap.size = X at S ⊢
        refine (HPC.out _).mono ?_
        rintro e w7 ⟨A, cap, rfl, hrow, hA, hb⟩
        have HX7 := Lib.hid ((S.out.lo.row _ (List.mem_cons_self ..)).2.2)
        have HB7 := Lib.hid S.out.ctx.lt
        have HT7 := Lib.hid (S.out.ctx.store.lt _ b.t_mem)
        have HA : Hid (∀ bb f, A = some ⟨bb, f, none⟩ → bb ∉ [b.t, X]) := Lib.hid (fun bb f hh => by
          have h1 := hA bb f hh
          have h2 : X < w6.heap.size := HX7.out
          have h3 := HT7.out
          simp only [List.mem_cons, List.not_mem_nil, or_false]
          omega)
        have S2 := Lib.hid (S.out.below hb)
        clear S
        have S := Lib.hid S2.out
        have HPR := Lib.hid hrow
        clear S2 hrow hA hb
        have HXB := Lib.hid (S.out.lower (List.mem_cons_self ..))
        have hl9 : cs.length ≤ 10000 := by
          have h1 := HSPEC.out.1
          have h2 : ∀ ds : List Fs.Pc, (∀ c ∈ ds, 1 ≤ c.size) → ds.length ≤ Fs.psum ds := by
            intro ds
            induction ds with
            | nil => intro _; exact Nat.le_refl _
            | cons d ds ih =>
              intro h
              have := ih (fun c hc => h c (by simp [hc]))
              have := h d (by simp)
              rw [List.length_cons, Fs.psum]; omega
          have := h2 cs (fun c hc => (HSPEC.out.2 c hc).1)
          omega
        obtain ⟨len, hlen⟩ : ∃ len, cs.length = len := ⟨_, rfl⟩
        have HLE := Lib.hid hlen
        rw [hlen] at hl9 ⊢
        clear hlen
        have HPC2 : Hid (∀ c ∈ cs, (1 ≤ c.size ∧ c.at1 + c.size ≤ 64) ∧ c.idx < 1060) := Lib.hid (fun c hc => ⟨HSPEC.out.2 c hc, by have := HIN.out c hc; have := HSPEC.out.2 c hc; omega⟩)
        have HSPEC0 := Lib.hid HSPEC.out.1
        clear HSPEC HIN HPC HX7 HB7 HT7 HX2 HSZ2
        have HUL : Hid (t.length = Fs.psum (cs.drop 0)) := Lib.hid (by rw [List.drop_zero]; exact HSPEC0.out.symm)
        clear HSPEC0
        have HU9 : Hid (t.length ≤ 10000) := Lib.hid ht
        go_wp2_with fail
        go_loopw [3, 47] (fun tv iv wr => ∃ (k : Nat) (u : List UInt8) (y : Ino) (s3 : Sto), k ≤ len ∧ tv = .string (strOf u) ∧ iv = .int .i64 k ∧ Hid (u.length = Fs.psum (cs.drop k)) ∧ Hid (u.length ≤ 10000) ∧ Hid (Stp R B b n I [] w (fun _ e _ => e = .returned (.tuple #[])) [(X, inoL y)] s3 (Fs.andThen (Fs.wloop n I (cs.drop k) y u) fun y => Fs.setI i y) wr) ∧ Hid (PcRow wr A cs)) (fun _ iv _ => len - (intOf iv).toNat)
        case atStart => exact ⟨0, t, x2, s4, Nat.zero_le _, rfl, rfl, HUL, HU9, by rw [List.drop_zero]; exact S, HPR⟩
        case round =>
          clear S HPR HUL HU9
          obtain ⟨k, u, y, s3, hk, rfl, rfl, HUL, HU9, S, HPR⟩ := hrel
          by_cases hlt : k < len
          · obtain ⟨pc, hpc⟩ : ∃ pc, cs[k]? = some pc := ⟨_, List.getElem?_eq_getElem (by rw [HLE.out]; exact hlt)⟩
            obtain ⟨⟨hz1, hz2⟩, hz3⟩ := HPC2.out pc (List.mem_of_getElem? hpc)
            obtain ⟨pb, poff, rfl, hpb, hpr⟩ := HPR.out.cells (by rw [HLE.out]; omega)
            have HPI := Lib.hid (hpr k pc hpc)
            have HDR : Hid (cs.drop k = pc :: cs.drop (k + 1)) := Lib.hid (by
              obtain ⟨q1, q2⟩ := List.getElem?_eq_some_iff.1 hpc
              rw [List.drop_eq_getElem_cons q1, q2])
            have HPD := Lib.hid (Fs.psum_drop cs k pc hpc)
            clear hpc hpr hpb
            rw [HDR.out, Fs.wloop_cons] at S
            have HOKI := Lib.hid (okB_of (i := (pc.idx : Int)) (by omega) (by omega))
            have HUS : Hid ((strOf u).size = u.length) := Lib.hid (str_size u)
            have hps : pc.size ≤ (strOf u).size := by rw [HUS.out, HUL.out, HPD.out]; omega
            have hps9 : (strOf u).size ≤ 10000 := by rw [HUS.out]; exact HU9.out
            go_wp2_with (first
              | (with_reducible refine wpList_load_mid rfl 91 (.tmp 49) rfl pb (poff + k * 3) rfl (pcL pc) _ HPI.out Tryz.underlying91 rfl (by kernel_rfl) ?_)
              | ((with_reducible refine wpList_store_newrow (vs := pcL pc) pcT ?_ (pcL_one _) rfl (.tmp 10) (.tmp 50) rfl rfl ?_ ?_ ?_); (exact rfl); (exact rfl); (exact rfl); intro W6 hP hB2 hz2; have S6 := Lib.hid (S.out.made hP hB2 hz2); clear S; have HPR6 := Lib.hid (HPR.out.step hB2); clear hP hB2 hz2 HPI HPR; have p0 := (S6.out.get 1 _ rfl).cell 0 _ rfl))
            refine (sreach_step S6.out.ctx X y (S6.out.get 0 _ rfl) HXB.out.1 HXB.out.2 (pc.idx : Int) HOKI.out).mono ?_
            intro e w8 hE
            rcases S6.out.bindX 0 rfl (fun z => inoL z.1) hE (fun a hh => hh.2) with ⟨rfl, hR⟩ | ⟨⟨y2, nn⟩, s8, L8, hz, ⟨rfl, _⟩, S2, hO⟩
            · exact ⟨rfl, hR⟩
            have HNZ : Hid (nn ≠ 0) := Lib.hid (Fs.reach_ne (fun m hm => (data_ok S6.out.ctx.vs hm).2) hz)
            have HPR := Lib.hid (HPR6.out.only hO HA.out)
            have S := Lib.hid S2
            clear hE hz S2 hO HPR6 S6 p0 HOKI
            generalize wr.heap.size = P at S ⊢
            obtain ⟨u1, hu1⟩ : ∃ u1, u1 = u.take pc.size := ⟨_, rfl⟩
            obtain ⟨u2, hu2⟩ : ∃ u2, u2 = u.drop pc.size := ⟨_, rfl⟩
            have HU1 : Hid ((strOf u).extract 0 pc.size = strOf u1) := Lib.hid (by rw [hu1]; exact str_take u pc.size)
            have HU2 : Hid ((strOf u).extract pc.size (strOf u).size = strOf u2) := Lib.hid (by rw [hu2]; exact str_drop u _ _ (by rw [str_size]; exact Nat.le_refl _))
            have HU2L : Hid (u2.length = Fs.psum (cs.drop (k + 1)) ∧ u2.length ≤ 10000) := Lib.hid ⟨by rw [hu2, List.length_drop, HUL.out, HPD.out]; omega, by rw [hu2, List.length_drop]; have := HU9.out; omega⟩
            have HU1L : Hid ((strOf u1).size ≤ maxLen) := Lib.hid (by rw [str_size, hu1]; have := HU9.out; unfold maxLen; simp; omega)
            have HB1 : Hid ((strOf u1).data.toList = u1) := Lib.hid (by simp [strOf])
            rw [← hu1, ← hu2] at S
            have HT : Hid (∀ p W, p.length = 64 → Calls Tryz.prog 54 #[pageV p, .int .i64 (pc.at1 : Int), .string (strOf u1)] W fun e w' => e = .returned (pageV (Pg.setTextN p pc.at1 u1)) ∧ Below W.heap.size W w') := Lib.hid (fun p W hp => by
              have := setText_any p (pc.at1 : Int) (strOf u1) W hp HU1L.out
              rw [HB1.out] at this
              exact this)
            have HTL : Hid (∀ p : List UInt8, p.length = 64 → (Pg.setTextN p pc.at1 u1).length = 64) := Lib.hid (fun p hp => by
              unfold Pg.setTextN
              split
              · rename_i q
                obtain ⟨c1, c2, c3⟩ := Pg.ins_yes q
                rw [Pg.over_length _ _ _ (by omega)]; exact hp
              · exact hp)
            clear hu1 hu2 HU1L HB1
            go_wp2_with fail
            refine wp_region_linp (fun kk W => WrS R B b n I [] w (fun _ e _ => e = .returned (.tuple #[])) [(X, inoL y2), (P, pcL pc)] s8 nn (fun p => Pg.setTextN p pc.at1 u1) (Fs.andThen (Fs.wloop n I (cs.drop (k + 1)) y2 u2) fun y => Fs.setI i y) kk W ∧ PcRow W (some ⟨pb, poff, none⟩) cs) (fun ch W => ch = [failE B] ∧ R (.panicked [failE B]) W) (fun i => i == 4 || i == 11 || i == 12) (fun i => [.pointer (some ⟨B, 0, none⟩), .int .i64 nn, .pointer (some ⟨B, 0, none⟩), .int .i64 nn, undef, .pointer (some ⟨P, 1, none⟩), .int .i64 (pc.at1 : Int), .string (strOf u), .pointer (some ⟨P, 2, none⟩), .int .i64 (pc.size : Int), .string (strOf u1)].getD i undef) (some none) (by kernel_rfl) (by kernel_rfl) (fun ch a' W hd hh => ?_) ⟨S.out.drew, HPR.out.step ((Below.refl _ _).drew)⟩ ?_
            · exact ⟨hd, by obtain ⟨rfl, hR⟩ := hh; exact hR⟩
            refine linp_step (i := 0) (d := some 55) (v := (.pointer (some ⟨B, 0, none⟩))) rfl rfl (by kernel_rfl) (by kernel_rfl) rfl rfl (ord_value (by kernel_rfl) ?_) ?_
            · ((intro _ _ _; go_simp) <;> kernel_rfl)
            try simp only [Act.put, List.setIfInBounds_toArray, List.set_cons_zero, List.set_cons_succ]
            refine linp_step (i := 1) (d := some 56) (v := (.int .i64 nn)) rfl rfl (by kernel_rfl) (by kernel_rfl) rfl rfl (ord_value (by kernel_rfl) ?_) ?_
            · ((intro _ _ _; go_simp) <;> kernel_rfl)
            try simp only [Act.put, List.setIfInBounds_toArray, List.set_cons_zero, List.set_cons_succ]
            refine linp_step (i := 2) (d := some 57) (v := (.pointer (some ⟨B, 0, none⟩))) rfl rfl (by kernel_rfl) (by kernel_rfl) rfl rfl (ord_value (by kernel_rfl) ?_) ?_
            · ((intro _ _ _; go_simp) <;> kernel_rfl)
            try simp only [Act.put, List.setIfInBounds_toArray, List.set_cons_zero, List.set_cons_succ]
            refine linp_step (i := 3) (d := some 58) (v := (.int .i64 nn)) rfl rfl (by kernel_rfl) (by kernel_rfl) rfl rfl (ord_value (by kernel_rfl) ?_) ?_
            · ((intro _ _ _; go_simp) <;> kernel_rfl)
            try simp only [Act.put, List.setIfInBounds_toArray, List.set_cons_zero, List.set_cons_succ]
            refine linp_step (i := 5) (d := some 60) (v := (.pointer (some ⟨P, 1, none⟩))) rfl rfl (by kernel_rfl) (by kernel_rfl) rfl rfl (ord_value (by kernel_rfl) ?_) ?_
            · ((intro _ _ _; go_simp) <;> kernel_rfl)
            try simp only [Act.put, List.setIfInBounds_toArray, List.set_cons_zero, List.set_cons_succ]
            refine linp_step (i := 6) (d := some 61) (v := (.int .i64 (pc.at1 : Int))) rfl rfl (by kernel_rfl) (by kernel_rfl) rfl rfl (ord_value (by kernel_rfl) ?_) ?_
            · (intro sZ wZ hZ; have cZ := (fun kk W hS => ((WrS.lo hS.1).get 1 _ rfl).cell 1 _ rfl) sZ wZ hZ; go_simp)
            try simp only [Act.put, List.setIfInBounds_toArray, List.set_cons_zero, List.set_cons_succ]
            refine linp_step (i := 7) (d := some 62) (v := (.string (strOf u))) rfl rfl (by kernel_rfl) (by kernel_rfl) rfl rfl (ord_value (by kernel_rfl) ?_) ?_
            · ((intro _ _ _; go_simp) <;> kernel_rfl)
            try simp only [Act.put, List.setIfInBounds_toArray, List.set_cons_zero, List.set_cons_succ]
            refine linp_step (i := 8) (d := some 63) (v := (.pointer (some ⟨P, 2, none⟩))) rfl rfl (by kernel_rfl) (by kernel_rfl) rfl rfl (ord_value (by kernel_rfl) ?_) ?_
            · ((intro _ _ _; go_simp) <;> kernel_rfl)
            try simp only [Act.put, List.setIfInBounds_toArray, List.set_cons_zero, List.set_cons_succ]
            refine linp_step (i := 9) (d := some 64) (v := (.int .i64 (pc.size : Int))) rfl rfl (by kernel_rfl) (by kernel_rfl) rfl rfl (ord_value (by kernel_rfl) ?_) ?_
            · (intro sZ wZ hZ; have cZ := (fun kk W hS => ((WrS.lo hS.1).get 1 _ rfl).cell 2 _ rfl) sZ wZ hZ; go_simp)
            try simp only [Act.put, List.setIfInBounds_toArray, List.set_cons_zero, List.set_cons_succ]
            refine linp_step (i := 10) (d := some 65) (v := .string (strOf u1)) rfl rfl (by kernel_rfl) (by kernel_rfl) rfl rfl (ord_value (by kernel_rfl) ?_) ?_
            · intro kk W hS
              go_simp
              exact HU1.out
            try simp only [Act.put, List.setIfInBounds_toArray, List.set_cons_zero, List.set_cons_succ]
            refine linp_turnD (i := 4) (d := some 59) [11, 12] (fun u k => ∃ p, u = pageV p ∧ k = some (some p)) rfl rfl (by kernel_rfl) (by kernel_rfl) rfl (by kernel_rfl) ⟨_, _, zeros, rfl, rfl⟩ (by kernel_rfl) (gives_all (f := 55) (args := #[.pointer (some ⟨B, 0, none⟩), .int .i64 nn]) ?_ (fun W hS => (smustData_any hS.1.start.ctx nn).mono fun e w' hE => by
              rcases Stp.bindO hS.1.start hE with ⟨rfl, hR⟩ | ⟨p, s', L', hp, rfl, S2, hO⟩
              · exact Or.inr ⟨_, rfl, rfl, hR⟩
              · obtain ⟨hd1, hd2⟩ := data_of hS.1.start.ctx.vs hp HNZ.out
                exact Or.inl ⟨_, rfl, some (some p), ⟨p, rfl, rfl⟩, ⟨s', S2, hd1, hd2⟩, hS.2.only hO (fun bb f hh q => HA.out bb f hh (by simp at q ⊢; exact Or.inl q))⟩)) ?_
            · (intro _; go_simp)
            rintro _ _ ⟨p, rfl, rfl⟩
            try simp only [Act.put, List.setIfInBounds_toArray, List.set_cons_zero, List.set_cons_succ]
            refine linp_turn (i := 11) (d := some 66) (fun u k => u = pageV (Pg.setTextN p pc.at1 u1) ∧ k = some (some p)) rfl rfl (by kernel_rfl) (by kernel_rfl) rfl (by kernel_rfl) ⟨_, _, rfl, rfl⟩ (by kernel_rfl) (gives_all (f := 54) (args := #[pageV p, .int .i64 (pc.at1 : Int), .string (strOf u1)]) ?_ (fun W hS => (HT.out p W hS.1.loaded.choose_spec.2.2).mono fun e w' hh => by
              obtain ⟨s', S2, hd1, hd2⟩ := hS.1.loaded
              exact Or.inl ⟨_, hh.1, some (some p), ⟨rfl, rfl⟩, ⟨s', S2.below hh.2, hd1, hd2⟩, hS.2.step hh.2⟩)) ?_
            · (intro _; go_simp)
            rintro _ _ ⟨rfl, rfl⟩
            try simp only [Act.put, List.setIfInBounds_toArray, List.set_cons_zero, List.set_cons_succ]
            refine linp_turn (i := 12) (d := some 67) (fun u k => u = .tuple #[] ∧ k = none) rfl rfl (by kernel_rfl) (by kernel_rfl) rfl (by kernel_rfl) ⟨_, _, rfl, rfl⟩ (by kernel_rfl) (gives_all (f := 53) (args := #[.pointer (some ⟨B, 0, none⟩), .int .i64 nn, pageV (Pg.setTextN p pc.at1 u1)]) ?_ (fun W hS => by
              obtain ⟨s', S2, hd1, hd2⟩ := hS.1.loaded
              refine (sput_step S2.ctx nn (Pg.setTextN p pc.at1 u1) (data_ok S2.ctx.vs hd1).1 (HTL.out p hd2)).mono fun e w' hE => ?_
              rcases Stp.bindO S2 hE with ⟨rfl, hR⟩ | ⟨_, s9, L', hp, rfl, S3, hO⟩
              · exact Or.inr ⟨_, rfl, rfl, hR⟩
              · exact Or.inl ⟨_, rfl, none, ⟨rfl, rfl⟩, ⟨s9, S3⟩, hS.2.only hO (fun bb f hh q => HA.out bb f hh (by simp at q ⊢; exact Or.inl q))⟩)) ?_
            · (intro _; go_simp)
            rintro _ _ ⟨rfl, rfl⟩
            try simp only [Act.put, List.setIfInBounds_toArray, List.set_cons_zero, List.set_cons_succ]
            refine linp_done (by kernel_rfl) fun W hS => ?_
            obtain ⟨s9, S9⟩ := hS.1.done
            have HPR9 := Lib.hid hS.2
            clear S hS
            have S := Lib.hid S9
            clear S9 HPR
            have p2 := (S.out.get 1 _ rfl).cell 2 _ rfl
            go_wp2_with fail
            go_roundw
            case rel => exact ⟨k + 1, u2, y2, s9, by omega, by rw [HU2.out], by go_num, Lib.hid HU2L.out.1, Lib.hid HU2L.out.2, Lib.hid (S.out.cut 1), HPR9⟩
            case measure => simp [intOf]; omega
          · obtain rfl : k = len := by omega
            have HZ : Hid (cs.drop k = []) := Lib.hid (List.drop_of_length_le (by rw [HLE.out]; omega))
            have S3 : Hid (Stp R B b n I [] w (fun _ e _ => e = .returned (.tuple #[])) [(X, inoL y)] s3 (Fs.setI i y) wr) := Lib.hid (by
              have := S.out
              rw [HZ.out, Fs.wloop, Fs.ret_andThen] at this
              exact this)
            clear S
            go_wp2_with (first
              | (with_reducible refine wpList_load_rw inoT (S3.out.get 0 _ rfl) rfl rfl (.tmp 8) rfl rfl ?_)
              | (go_at_call 45; refine (sset_step S3.out.ctx i y hib.1 hib.2).mono ?_; intro e w8 hE; rcases S3.out.last hE with ⟨rfl, hR⟩ | ⟨_, s8, L8, _, rfl, S2⟩; (exact ⟨rfl, hR⟩); clear S3 hE; have S := Lib.hid S2; clear S2))
            go_end0
            exact S.out.done rfl
end Go.Proofs.YtncmihikpcdgoaaGreat

namespace Go.Proofs.YtncmihikpcdgoaaGreat
open Go.RowKit Go.Maps
open Dk (zeros zeros_length)
open Ii (Ino)
theorem ops_recover {P : Program} {Q : Exit → Act → List Frame → World → Prop} {a : Act} {cs : List Frame} {w : World} {d : Tmp} {ty : TypeId} {ps : String} (_hw : yielded #[{ dst := some d, op := .call { callee := .builtin .recover, args := #[], argTypes := #[] }, type := ty, pos := ps, after := #[], guard := none }] a.tmps = yielded #[{ dst := some d, op := .call { callee := .builtin .recover, args := #[], argTypes := #[] }, type := ty, pos := ps, after := #[], guard := none }] a.tmps)
    (h : match recoverD cs with
      | some (v, cs') => Q .normal (a.put (some d) v) cs' w
      | none => Q .normal (a.put (some d) .nilIface) cs w) :
    wpOpsS P #[{ dst := some d, op := .call { callee := .builtin .recover, args := #[], argTypes := #[] }, type := ty, pos := ps, after := #[], guard := none }] Q (List.range 1) a cs w := by
  have : List.range 1 = [0] := rfl
  rw [this]
  simp only [wpOpsS, List.getElem?_toArray, List.getElem?_cons_zero]
  simp [go_sem, Region.wanted]
  cases hr : recoverD cs with
  | none => rw [hr] at h; exact h
  | some x => rw [hr] at h; exact h
theorem run_neq_ptr_same {P : Program} {tp te : TypeId} {j : TypeInfo} (a : Addr) (hp : P.underlying tp = some (.pointer te)) (hte : P.info? te = some j) (w : World) :
    (binOp .neq tp (.pointer (some a)) (.pointer (some a))).run P w = .ok (.bool false) w := by
  have h : ∀ d : Nat, (Op.equalIn (d + 1) tp (.pointer (some a)) (.pointer (some a))).run P w = .ok true w := fun d => by
    simp [Op.equalIn, run_underlying hp, sizeOf, typeInfo, hte, run_sameAddr_same]
  simp only [binOp]
  simp [Op.equal, Op.maxDepth, h 9999]
set_option maxRecDepth 100000 in
theorem info_step : ∃ j, Tryz.prog.info? 81 = some j := Option.isSome_iff_exists.1 (by kernel_rfl)
set_option maxRecDepth 100000 in
set_option maxHeartbeats 2000000 in
theorem runD_idle {w : World} {B C1 C2 st : Nat} {n I : Int} (hB : RowAt w B (stepL st n I true 0)) (h1 : RowAt w C1 [.pointer (some ⟨B, 0, none⟩)]) (h2 : RowAt w C2 [.int .i64 0]) (hne : B ≠ C1 ∧ B ≠ C2) :
    CallsD Tryz.prog 82 #[.pointer (some ⟨C1, 0, none⟩), .pointer (some ⟨C2, 0, none⟩)] .returning w fun e u' w' => e = .returned (.tuple #[]) ∧ u' = .returning ∧ RowAt w' C2 [.int .i64 0] ∧ Only [B, C2] w w' := by
  have c1 := h1.cell 0 _ rfl
  have cB := hB.cell 3 _ rfl
  have fB := hB.frozen 3 (show 3 < 5 by decide)
  refine callsD_of_wpS Tryz.func82 rfl fun c₀ cs hu => ?_
  simp only [Tryz.ntmps82, List.size_toArray, List.length_cons, List.length_nil, Nat.reduceAdd, Nat.reduceSub, Array.replicate_succ, Array.replicate_zero, List.push_toArray, List.append_toArray, List.nil_append, List.cons_append]
  apply wpS_seq
  apply wpS_of_wp
  go_wp2
  have HB : RowAt (w.setCell ⟨B, 3, none⟩ (.bool false)) B (stepL st n I false 0) := RowAt.setOne hB 3 (.bool false) (show 3 < 5 by decide)
  have HO : Only [B, C2] w (w.setCell ⟨B, 3, none⟩ (.bool false)) := (Only.refl [B, C2] w).setCell (p := ⟨B, 3, none⟩) (by simp) _
  have H1 : RowAt (w.setCell ⟨B, 3, none⟩ (.bool false)) C1 [.pointer (some ⟨B, 0, none⟩)] := h1.block (((Only.refl [B] w).setCell (p := ⟨B, 3, none⟩) (by simp) _).block C1 h1.lt (by simpa using fun q => hne.1 q.symm))
  have H2 : RowAt (w.setCell ⟨B, 3, none⟩ (.bool false)) C2 [.int .i64 0] := h2.block (((Only.refl [B] w).setCell (p := ⟨B, 3, none⟩) (by simp) _).block C2 h2.lt (by simpa using fun q => hne.2 q.symm))
  generalize World.setCell _ _ _ = w1 at HB HO H1 H2 ⊢
  clear hB h1 h2 c1 cB fB
  have c1 := H1.cell 0 _ rfl
  have cB := HB.cell 4 _ rfl
  have c2 := H2.cell 0 _ rfl
  have f2 := H2.frozen 0 (show 0 < 1 by decide)
  have hre : recoverD (c₀ :: cs) = none := by simp [recoverD, hu]
  simp only [Exit.thenS]
  apply wpS_seq
  apply wpS_region
  refine ops_recover rfl ?_
  rw [hre]
  simp only [Exit.thenS]
  apply wpS_of_wp
  go_wp2
  have H3 : RowAt (w1.setCell ⟨C2, 0, none⟩ (.int .i64 0)) C2 [.int .i64 0] := RowAt.setOne H2 0 (.int .i64 0) (show 0 < 1 by decide)
  have HO3 : Only [B, C2] w (w1.setCell ⟨C2, 0, none⟩ (.int .i64 0)) := HO.setCell (p := ⟨C2, 0, none⟩) (by simp) _
  exact ⟨rfl, .returning, by cases c₀; simp_all, _, results_none rfl _ _ _, rfl, rfl, H3, HO3⟩
set_option maxRecDepth 100000 in
set_option maxHeartbeats 2000000 in
theorem runD_failed {w : World} {B C1 C2 st : Nat} {n I er : Int} (hB : RowAt w B (stepL st n I true er)) (h1 : RowAt w C1 [.pointer (some ⟨B, 0, none⟩)]) (h2 : RowAt w C2 [.int .i64 0]) (hne : B ≠ C1 ∧ B ≠ C2) :
    CallsD Tryz.prog 82 #[.pointer (some ⟨C1, 0, none⟩), .pointer (some ⟨C2, 0, none⟩)] (.panicking [failE B]) w fun e u' w' => e = .returned (.tuple #[]) ∧ u' = .panicking [{ v := failV B, recovered := true }] ∧ RowAt w' C2 [.int .i64 er] ∧ Only [B, C2] w w' := by
  have c1 := h1.cell 0 _ rfl
  have cB := hB.cell 3 _ rfl
  have fB := hB.frozen 3 (show 3 < 5 by decide)
  refine callsD_of_wpS Tryz.func82 rfl fun c₀ cs hu => ?_
  simp only [Tryz.ntmps82, List.size_toArray, List.length_cons, List.length_nil, Nat.reduceAdd, Nat.reduceSub, Array.replicate_succ, Array.replicate_zero, List.push_toArray, List.append_toArray, List.nil_append, List.cons_append]
  apply wpS_seq
  apply wpS_of_wp
  go_wp2
  have HB : RowAt (w.setCell ⟨B, 3, none⟩ (.bool false)) B (stepL st n I false er) := RowAt.setOne hB 3 (.bool false) (show 3 < 5 by decide)
  have HO : Only [B, C2] w (w.setCell ⟨B, 3, none⟩ (.bool false)) := (Only.refl [B, C2] w).setCell (p := ⟨B, 3, none⟩) (by simp) _
  have H1 : RowAt (w.setCell ⟨B, 3, none⟩ (.bool false)) C1 [.pointer (some ⟨B, 0, none⟩)] := h1.block (((Only.refl [B] w).setCell (p := ⟨B, 3, none⟩) (by simp) _).block C1 h1.lt (by simpa using fun q => hne.1 q.symm))
  have H2 : RowAt (w.setCell ⟨B, 3, none⟩ (.bool false)) C2 [.int .i64 0] := h2.block (((Only.refl [B] w).setCell (p := ⟨B, 3, none⟩) (by simp) _).block C2 h2.lt (by simpa using fun q => hne.2 q.symm))
  generalize World.setCell _ _ _ = w1 at HB HO H1 H2 ⊢
  clear hB h1 h2 c1 cB fB
  have c1 : ∀ o, (w1.alloc o).cell? ⟨C1, 0, none⟩ = some (.pointer (some ⟨B, 0, none⟩)) := fun o => (H1.alloc o).cell 0 _ rfl
  have cB : ∀ o, (w1.alloc o).cell? ⟨B, 4, none⟩ = some (.int .i64 er) := fun o => (HB.alloc o).cell 4 _ rfl
  have c2 : ∀ o, (w1.alloc o).cell? ⟨C2, 0, none⟩ = some (.int .i64 0) := fun o => (H2.alloc o).cell 0 _ rfl
  have f2 : ∀ o, (w1.alloc o).frozen? ⟨C2, 0, none⟩ = false := fun o => (H2.alloc o).frozen 0 (show 0 < 1 by decide)
  have hg : ∀ W : World, (eqGuard BinOp.eql 20 (.tmp 8) (.const .nilIface) (.iface 98 (.agg #[.pointer (some ⟨B, 0, none⟩)])) .nilIface).run Tryz.prog W = .ok () W := fun _ => by kernel_rfl
  have hq : ∀ W : World, (binOp BinOp.eql 20 (.iface 98 (.agg #[.pointer (some ⟨B, 0, none⟩)])) .nilIface).run Tryz.prog W = .ok (.bool false) W := fun _ => by kernel_rfl
  have ha : ∀ W : World, (Instr.typeAssert (.iface 98 (.agg #[.pointer (some ⟨B, 0, none⟩)])) 20 98 true).run Tryz.prog W = .ok (.tuple #[.agg #[.pointer (some ⟨B, 0, none⟩)], .bool true]) W := fun _ => by kernel_rfl
  have hpq : ∀ W : World, (binOp BinOp.neq 39 (.pointer (some ⟨B, 0, none⟩)) (.pointer (some ⟨B, 0, none⟩))).run Tryz.prog W = .ok (.bool false) W := fun W => by
    obtain ⟨j, hj⟩ := info_step
    exact run_neq_ptr_same _ Tryz.underlying39 hj W
  have hre : recoverD (c₀ :: cs) = some (failV B, { c₀ with mode := .panicking [{ v := failV B, recovered := true }] } :: cs) := by simp [recoverD, hu, failE]
  simp only [Exit.thenS]
  apply wpS_seq
  apply wpS_region
  refine ops_recover rfl ?_
  rw [hre]
  unfold failV
  simp only [Exit.thenS]
  apply wpS_of_wp
  go_wp2
  have HO4 := HO.alloc (.cells #[.pointer (some ⟨B, 0, none⟩)] 98)
  have H4 := H2.alloc (.cells #[.pointer (some ⟨B, 0, none⟩)] 98)
  generalize w1.alloc _ = w2 at HO4 H4 ⊢
  have H3 : RowAt (w2.setCell ⟨C2, 0, none⟩ (.int .i64 er)) C2 [.int .i64 er] := RowAt.setOne H4 0 (.int .i64 er) (show 0 < 1 by decide)
  have HO3 : Only [B, C2] w (w2.setCell ⟨C2, 0, none⟩ (.int .i64 er)) := HO4.setCell (p := ⟨C2, 0, none⟩) (by simp) _
  exact ⟨rfl, _, rfl, _, results_none rfl _ _ _, rfl, rfl, H3, HO3⟩
/-- what the function that is handed in ends with: P is left where it ends, P' where it fails -/
def Cb {α : Type} (B : Nat) (b : Blk) (n I : Int) (Ls : List Nat) (w0 : World) (s : Sto) (m : Fs.M α) (P : α → World → Prop) (P' : World → Prop) (e : Ending) (w' : World) : Prop :=
  (∃ a s' L, m (nv s) = (.ok a, nv s', L) ∧ Goes s s' L ∧ Ctx w' B b s' n I ∧ e = .returned (.tuple #[]) ∧ P a w' ∧ Only (b.t :: Ls) w0 w') ∨
  (∃ er, Fails s m er ∧ er ≠ 0 ∧ Broke w' B b s n I er ∧ e = .panicked [failE B] ∧ P' w' ∧ Only (B :: b.t :: Ls) w0 w')
/-- what a run of a step ends with -/
def Ran {α : Type} (B : Nat) (b : Blk) (n I : Int) (Ls : List Nat) (w0 : World) (s : Sto) (m : Fs.M α) (P : α → World → Prop) (P' : World → Prop) (e : Ending) (w' : World) : Prop :=
  (∃ a s' L, m (nv s) = (.ok a, nv s', L) ∧ Goes s s' L ∧ e = .returned (.int .i64 0) ∧ StoreAt w' b s' ∧ Vs s' n I ∧ P a w' ∧ Only (B :: b.t :: Ls) w0 w') ∨
  (∃ er s', Fails s m er ∧ er ≠ 0 ∧ e = .returned (.int .i64 er) ∧ StoreAt w' b s' ∧ s' = { s with step := s'.step } ∧ P' w' ∧ Only (B :: b.t :: Ls) w0 w')
/-- it stands where none of its blocks is written -/
def Stable (Ls : List Nat) (N : Nat) (P : World → Prop) : Prop := ∀ w w' L, P w → Only L w w' → (∀ k ∈ L, k ∉ Ls) → N ≤ w.heap.size → P w'
theorem run_box (w : World) (B : Nat) : Lo [] w [(w.heap.size, [.pointer (some ⟨B, 0, none⟩)]), (w.heap.size + 1, [.int .i64 0])] ((w.alloc (.cells #[.pointer (some ⟨B, 0, none⟩)] 39)).alloc (.cells #[.int .i64 0] 34)) :=
  ((Lo.start w (by simp)).alloc _ rfl [.pointer (some ⟨B, 0, none⟩)] _).alloc (w.heap.size + 1) (by simp) [.int .i64 0] _
set_option maxRecDepth 100000 in
set_option maxHeartbeats 2000000 in
theorem srun_any {α : Type} {w : World} {B : Nat} {b : Blk} {s : Sto} {n I : Int} (hB : RowAt w B (stepL b.s n I false 0)) (hst : StoreAt w b s) (v : Vs s n I) (nb : B ∉ b.all) (Ls : List Nat) (hLs : ∀ k ∈ Ls, k < w.heap.size ∧ k ≠ B) (m : Fs.M α) (P : α → World → Prop) (P' : World → Prop) (hP : ∀ a, Stable Ls w.heap.size (P a)) (hP' : Stable Ls w.heap.size P') (f : FuncId) (caps : Array Value) (hcf : ∀ (args : Array Value) (W : World), (callFunc f args).run Tryz.prog W = .ok (.enter f args) W)
    (hf : ∀ w1, Ctx w1 B b s n I → Only [B] w w1 → Calls Tryz.prog f (#[.pointer (some ⟨B, 0, none⟩)] ++ caps) w1 (Cb B b n I Ls w1 s m P P')) :
    Calls Tryz.prog 39 #[.pointer (some ⟨B, 0, none⟩), .func (.func f) #[] caps] w (Ran B b n I Ls w s m P P') := by
  have hmf : ∀ (fn : Fn) (first cap : Array Value) (w : World), (Instr.makeFunc fn first cap).run Tryz.prog w = .ok (.func fn first cap) w := fun _ _ _ _ => rfl
  have c1 : ∀ o, ((w.alloc (.cells #[.pointer (some ⟨B, 0, none⟩)] 39)).alloc o).cell? ⟨B, 3, none⟩ = some (.bool false) := fun o => ((hB.alloc _).alloc o).cell 3 _ rfl
  have f1 : ∀ o, ((w.alloc (.cells #[.pointer (some ⟨B, 0, none⟩)] 39)).alloc o).frozen? ⟨B, 3, none⟩ = false := fun o => ((hB.alloc _).alloc o).frozen 3 (show 3 < 5 by decide)
  have hnf : ∀ W : World, (binOp BinOp.neq 46 (.func (.func f) #[] caps) .nilFunc).run Tryz.prog W = .ok (.bool true) W := fun _ => by kernel_rfl
  have hbl : B < w.heap.size := hB.lt
  have c2 : (((w.alloc (.cells #[.pointer (some ⟨B, 0, none⟩)] 39)).alloc (.cells #[.int .i64 0] 34)).setCell ⟨B, 3, none⟩ (.bool true)).cell? ⟨w.heap.size, 0, none⟩ = some (.pointer (some ⟨B, 0, none⟩)) := (((run_box w B).get 0 _ rfl).setOther B 3 (.bool true) (by show w.heap.size ≠ B; omega)).cell 0 _ rfl
  go_enter_defers Tryz.func39, Tryz.ntmps39
  go_wp2_with fail
  have hsz : (w.setCell ⟨B, 3, none⟩ (.bool true)).heap.size = w.heap.size := by simp
  have HB3 : RowAt (w.setCell ⟨B, 3, none⟩ (.bool true)) B (stepL b.s n I true 0) := RowAt.setOne hB 3 (.bool true) (show 3 < 5 by decide)
  have HO0 : Only [B] w (w.setCell ⟨B, 3, none⟩ (.bool true)) := (Only.refl [B] w).setCell (p := ⟨B, 3, none⟩) (by simp) _
  have HST0 : StoreAt (w.setCell ⟨B, 3, none⟩ (.bool true)) b s := hst.only HO0 (fun k hk q => by rw [List.mem_singleton] at q; subst q; exact nb hk)
  generalize w.setCell ⟨B, 3, none⟩ (.bool true) = w0 at hsz HB3 HO0 HST0 ⊢
  have S := run_box w0 B
  rw [hsz] at S
  have HC : Ctx ((w0.alloc (.cells #[.pointer (some ⟨B, 0, none⟩)] 39)).alloc (.cells #[.int .i64 0] 34)) B b s n I := ⟨(HB3.alloc _).alloc _, (HST0.alloc _).alloc _, v, nb⟩
  have HO := (HO0.alloc (.cells #[.pointer (some ⟨B, 0, none⟩)] 39)).alloc (.cells #[.int .i64 0] 34)
  generalize World.alloc _ _ = w1 at S HC HO ⊢
  have hN : ∀ k ∈ b.t :: Ls, k < w.heap.size := fun k hk => by
    rcases List.mem_cons.1 hk with rfl | hk
    · exact hst.lt _ b.t_mem
    · exact (hLs k hk).1
  have r1 : RowAt w1 w.heap.size [.pointer (some ⟨B, 0, none⟩)] := S.get 0 _ rfl
  have r2 : RowAt w1 (w.heap.size + 1) [.int .i64 0] := S.get 1 _ rfl
  refine (hf w1 HC HO).mono ?_
  rintro e w2 (⟨a, s', L, E, G, C', rfl, hPa, O⟩ | ⟨er, F, h0, Br, rfl, hPw, O⟩)
  · have k1 : RowAt w2 w.heap.size [.pointer (some ⟨B, 0, none⟩)] := r1.only O (fun q => by have := hN _ q; omega)
    have k2 : RowAt w2 (w.heap.size + 1) [.int .i64 0] := r2.only O (fun q => by have := hN _ q; omega)
    have cc := k2.cell 0 _ rfl
    have ff := k2.frozen 0 (show 0 < 1 by decide)
    go_wp2_with fail
    have k3 : RowAt (w2.setCell ⟨w.heap.size + 1, 0, none⟩ (.int .i64 0)) (w.heap.size + 1) [.int .i64 0] := RowAt.setOne k2 0 (.int .i64 0) (show 0 < 1 by decide)
    have k4 : RowAt (w2.setCell ⟨w.heap.size + 1, 0, none⟩ (.int .i64 0)) w.heap.size [.pointer (some ⟨B, 0, none⟩)] := k1.setOther _ 0 _ (by omega)
    have k5 : RowAt (w2.setCell ⟨w.heap.size + 1, 0, none⟩ (.int .i64 0)) B (stepL b.s n I true 0) := C'.step.setOther _ 0 _ (by omega)
    have O3 : Only [w.heap.size + 1] w2 (w2.setCell ⟨w.heap.size + 1, 0, none⟩ (.int .i64 0)) := (Only.refl _ w2).setCell (p := ⟨w.heap.size + 1, 0, none⟩) (by simp) _
    generalize World.setCell _ _ _ = w3 at k3 k4 k5 O3 ⊢
    refine leaves_cons (f := 82) (args := #[.pointer (some ⟨w.heap.size, 0, none⟩), .pointer (some ⟨w.heap.size + 1, 0, none⟩)]) (by simp) (by simp [go_sem]) ?_
    refine (runD_idle k5 k4 k3 ⟨by omega, by omega⟩).mono ?_
    rintro e u' w4 ⟨rfl, rfl, hR, hO⟩
    have h3 := hR.cell 0 _ rfl
    simp [Leaves, settle, results, Tryz.results39, go_sem]
    rw [h3]
    have O4 : Only [B, w.heap.size + 1] w2 w4 := (O3.mono (by simp)).trans hO
    refine ⟨_, rfl, Or.inl ⟨a, s', L, E, G, rfl, C'.store.only O4 (fun k hk q => ?_), C'.vs, hP a w2 w4 _ hPa O4 (fun k hk q => ?_) (Nat.le_trans HO.size O.size), ?_⟩⟩
    · simp only [List.mem_cons, List.not_mem_nil, or_false] at q
      rcases q with rfl | rfl
      · exact nb hk
      · have := hst.lt _ hk; omega
    · simp only [List.mem_cons, List.not_mem_nil, or_false] at hk
      have := hLs k q
      rcases hk with rfl | rfl <;> omega
    · have OA : Only (B :: b.t :: Ls) w w2 := Only.via (HO.mono (by simp)) O (fun i hi => Or.inl (List.mem_cons_of_mem _ hi))
      exact OA.via O4 (fun i hi => by
        simp only [List.mem_cons, List.not_mem_nil, or_false] at hi ⊢
        rcases hi with rfl | rfl
        · exact Or.inl (Or.inl rfl)
        · exact Or.inr (by omega))
  · have k1 : RowAt w2 w.heap.size [.pointer (some ⟨B, 0, none⟩)] := r1.only O (fun q => by
      rcases List.mem_cons.1 q with q | q
      · omega
      · have := hN _ q; omega)
    have k2 : RowAt w2 (w.heap.size + 1) [.int .i64 0] := r2.only O (fun q => by
      rcases List.mem_cons.1 q with q | q
      · omega
      · have := hN _ q; omega)
    show Leaves _ _ _ _ _ _ _
    refine leaves_cons (f := 82) (args := #[.pointer (some ⟨w.heap.size, 0, none⟩), .pointer (some ⟨w.heap.size + 1, 0, none⟩)]) (by simp) (by simp [go_sem]) ?_
    refine (runD_failed Br.step k1 k2 ⟨by omega, by omega⟩).mono ?_
    rintro e u' w3 ⟨rfl, rfl, hR, hO⟩
    have h3 := hR.cell 0 _ rfl
    simp [Leaves, settle, results, Tryz.results39, go_sem]
    rw [h3]
    obtain ⟨s', hs1, hs2⟩ := Br.store
    refine ⟨_, rfl, Or.inr ⟨er, s', F, h0, rfl, hs1.only hO (fun k hk q => ?_), hs2, hP' w2 w3 _ hPw hO (fun k hk q => ?_) (Nat.le_trans HO.size O.size), ?_⟩⟩
    · simp only [List.mem_cons, List.not_mem_nil, or_false] at q
      rcases q with rfl | rfl
      · exact nb hk
      · have := hst.lt _ hk; omega
    · simp only [List.mem_cons, List.not_mem_nil, or_false] at hk
      have := hLs k q
      rcases hk with rfl | rfl <;> omega
    · have OA : Only (B :: b.t :: Ls) w w2 := Only.via (HO.mono (by simp)) O (fun i hi => Or.inl hi)
      exact OA.via hO (fun i hi => by
        simp only [List.mem_cons, List.not_mem_nil, or_false] at hi ⊢
        rcases hi with rfl | rfl
        · exact Or.inl (Or.inl rfl)
        · exact Or.inr (by omega))
end Go.Proofs.YtncmihikpcdgoaaGreat

namespace Go.Proofs.YtncmihikpcdgoaaGreat
open Go.RowKit Go.Maps
open Dk (zeros zeros_length)
open Ii (Ino)
/-- a volume in memory, so many steps deep -/
structure VolAt (w : World) (V : Nat) (b : Blk) (s : Sto) (n I k : Int) : Prop where
  row : RowAt w V (volL b.s n I k)
  store : StoreAt w b s
  nb : V ∉ b.all
section
variable {w w' : World} {V : Nat} {b : Blk} {s : Sto} {n I k : Int}
theorem VolAt.below (h : VolAt w V b s n I k) (hb : Below w.heap.size w w') : VolAt w' V b s n I k := ⟨h.row.step hb, h.store.below hb, h.nb⟩
theorem VolAt.alloc (h : VolAt w V b s n I k) (o : Obj) : VolAt (w.alloc o) V b s n I k := ⟨h.row.alloc o, h.store.alloc o, h.nb⟩
theorem VolAt.only (h : VolAt w V b s n I k) {L : List Nat} (ho : Only L w w') (hV : V ∉ L) (hL : ∀ i ∈ b.all, i ∉ L) : VolAt w' V b s n I k := ⟨h.row.block (ho.block V h.row.lt hV), h.store.only ho hL, h.nb⟩
theorem VolAt.c0 (h : VolAt w V b s n I k) : w.cell? ⟨V, 0, none⟩ = some (.pointer (some ⟨b.s, 0, none⟩)) := h.row.cell 0 _ rfl
theorem VolAt.c3 (h : VolAt w V b s n I k) : w.cell? ⟨V, 3, none⟩ = some (.int .i64 k) := h.row.cell 3 _ rfl
theorem VolAt.f3 (h : VolAt w V b s n I k) : w.frozen? ⟨V, 3, none⟩ = false := h.row.frozen 3 (show 3 < 4 by decide)
theorem VolAt.set (h : VolAt w V b s n I k) (j : Int) : VolAt (w.setCell ⟨V, 3, none⟩ (.int .i64 j)) V b s n I j :=
  ⟨RowAt.setOne h.row 3 (.int .i64 j) (show 3 < 4 by decide), h.store.only ((Only.refl [V] w).setCell (p := ⟨V, 3, none⟩) (by simp) _) (fun i hi q => by rw [List.mem_singleton] at q; subst q; exact h.nb hi), h.nb⟩
end
set_option maxRecDepth 100000 in
theorem vover_any {w : World} {V : Nat} {b : Blk} {s : Sto} {n I k : Int} (h : VolAt w V b s n I k) : Calls Tryz.prog 30 #[.pointer (some ⟨V, 0, none⟩)] w fun e w' => e = .returned (.bool s.over) ∧ w = w' := by
  have c0 := h.c0
  have HO := Lib.hid (sover_any h.store)
  clear h
  go_enter Tryz.func30, Tryz.ntmps30
  go_wp2_with (go_at_call 71; (with_reducible refine HO.out.mono ?_); rintro e w' ⟨rfl, rfl⟩)
  go_ret
  exact ⟨rfl, rfl⟩
def dropV (st : Nat) : Value := .func (.func 78) #[.pointer (some ⟨st, 0, none⟩)] #[]
set_option maxRecDepth 100000 in
set_option maxHeartbeats 1000000 in
theorem begin_any {w : World} {V : Nat} {b : Blk} {s : Sto} {n I : Int} (h : VolAt w V b s n I 0) : Calls Tryz.prog 37 #[.pointer (some ⟨V, 0, none⟩)] w fun e w' => e = .returned (dropV b.s) ∧ VolAt w' V b s n I 1 ∧ Only [V] w w' := by
  have hmf : ∀ (fn : Fn) (first cap : Array Value) (w : World), (Instr.makeFunc fn first cap).run Tryz.prog w = .ok (.func fn first cap) w := fun _ _ _ _ => rfl
  have H1 := h.alloc (.cells #[.pointer (some ⟨V, 0, none⟩)] 25)
  have HO := (Only.refl [V] w).alloc (.cells #[.pointer (some ⟨V, 0, none⟩)] 25)
  have r0 : RowAt (w.alloc (.cells #[.pointer (some ⟨V, 0, none⟩)] 25)) w.heap.size [.pointer (some ⟨V, 0, none⟩)] := ((Lo.start (L := []) w (by simp)).alloc _ rfl [.pointer (some ⟨V, 0, none⟩)] 25).get 0 _ rfl
  have c3 := H1.c3
  have f3 := H1.f3
  have H2 := H1.set 1
  have HO2 := HO.setCell (p := ⟨V, 3, none⟩) (by simp) (.int .i64 1)
  have c0 := H2.c0
  clear h r0
  go_enter Tryz.func37, Tryz.ntmps37
  go_wp2
  go_ret
  exact ⟨rfl, H2, HO2⟩
def keepL (b : Blk) : List Nat := [b.j, b.d, b.l, b.m, b.g, b.t]
set_option maxRecDepth 100000 in
set_option maxHeartbeats 1000000 in
theorem vkeep_any {w : World} {V : Nat} {b : Blk} {s : Sto} {n I : Int} (h : VolAt w V b s n I 1) (hq0 : 0 ≤ s.q) (hq1 : s.q < 4294967290) : Calls Tryz.prog 40 #[.pointer (some ⟨V, 0, none⟩)] w fun e w' => e = .returned (.int .i64 (skeepE s)) ∧ StoreAt w' b (skeep s) ∧ Only (keepL b) w w' := by
  have c3 := h.c3
  have c0 := h.c0
  have HK := Lib.hid (skeep_any h.store hq0 hq1)
  clear h
  go_enter Tryz.func40, Tryz.ntmps40
  go_wp2_with (go_at_call 83; (with_reducible refine HK.out.mono ?_); rintro e w' ⟨rfl, hst, hO⟩)
  go_ret
  exact ⟨rfl, hst, hO⟩
/-- behind a step: it is one step less deep, and what isn't done is dropped -/
theorem doD_any {w : World} {V : Nat} {b : Blk} {s : Sto} {n I : Int} {C0 C1 C2 : Nat} {u : FrameMode} (h : VolAt w V b s n I 1) (h0 : RowAt w C0 [.pointer (some ⟨V, 0, none⟩)]) (h1 : RowAt w C1 [dropV b.s]) (done : Bool) (h2 : RowAt w C2 [.bool done]) (hne : C0 ≠ V ∧ C1 ≠ V ∧ C2 ≠ V) :
    CallsD Tryz.prog 38 #[.pointer (some ⟨C0, 0, none⟩), .pointer (some ⟨C2, 0, none⟩), .pointer (some ⟨C1, 0, none⟩)] u w fun e u' w' => u' = u ∧ (e = .returned (.tuple #[]) ∧ VolAt w' V b (if done = true then s else sdrop s) n I 0 ∧ Only [V, b.t] w w') := by
  have H1 := h.set 0
  have HO := (Only.refl [V, b.t] w).setCell (p := ⟨V, 3, none⟩) (by simp) (.int .i64 0)
  have c3 := h.c3
  have f3 := h.f3
  have c0 := h0.cell 0 _ rfl
  have c1 := (h1.setOther V 3 (.int .i64 0) hne.2.1).cell 0 _ rfl
  have c2 := (h2.setOther V 3 (.int .i64 0) hne.2.2).cell 0 _ rfl
  clear h h0 h1 h2
  go_enter_d Tryz.func38, Tryz.ntmps38
  cases done with
  | true =>
    go_wp2
    go_end0
    exact ⟨rfl, H1, HO⟩
  | false =>
    have HD := Lib.hid (sdrop_any H1.store)
    unfold dropV at c1
    go_wp2_with (go_at_call 78; (with_reducible refine HD.out.mono ?_); rintro e w' ⟨rfl, hst, hO⟩)
    go_end0
    refine ⟨rfl, ⟨H1.row.block (hO.block V H1.row.lt ?_), hst, H1.nb⟩, HO.trans (hO.mono (by simp))⟩
    rw [List.mem_singleton]
    intro q
    exact H1.nb (q ▸ b.t_mem)
/-- what a step of a volume ends with -/
def Stepped {α : Type} (V : Nat) (b : Blk) (n I : Int) (s : Sto) (m : Fs.M α) (P : α → World → Prop) (P' : World → Prop) (e : Ending) (w' : World) : Prop :=
  (∃ a s' L, m (nv s) = (.ok a, nv s', L) ∧ Goes s s' L ∧ Vs s' n I ∧ skeepE s' = 0 ∧ e = .returned (.int .i64 0) ∧ VolAt w' V b (skeep s') n I 0 ∧ P a w') ∨
  (∃ er, Fails s m er ∧ er ≠ 0 ∧ e = .returned (.int .i64 er) ∧ VolAt w' V b (sdrop s) n I 0 ∧ P' w') ∨
  (∃ a s' L, m (nv s) = (.ok a, nv s', L) ∧ Goes s s' L ∧ Vs s' n I ∧ skeepE s' ≠ 0 ∧ e = .returned (.int .i64 (skeepE s')) ∧ VolAt w' V b (sdrop (skeep s')) n I 0 ∧ P a w')
set_option maxRecDepth 100000 in
set_option maxHeartbeats 4000000 in
theorem do_any {α : Type} {w : World} {V : Nat} {b : Blk} {s : Sto} {n I : Int} (h : VolAt w V b s n I 0) (v : Vs s n I) (hq : s.q < 4294967290) (Ls : List Nat) (hLs : ∀ k ∈ Ls, k < w.heap.size ∧ k ≠ V ∧ k ∉ b.all) (m : Fs.M α) (P : α → World → Prop) (P' : World → Prop) (hP : ∀ a, Stable Ls w.heap.size (P a)) (hP' : Stable Ls w.heap.size P') (f : FuncId) (caps : Array Value) (hcf : ∀ (args : Array Value) (W : World), (callFunc f args).run Tryz.prog W = .ok (.enter f args) W)
    (hf : ∀ B w1, w.heap.size ≤ B → Ctx w1 B b s n I → Only [V] w w1 → Calls Tryz.prog f (#[.pointer (some ⟨B, 0, none⟩)] ++ caps) w1 (Cb B b n I Ls w1 s m P P')) :
    Calls Tryz.prog 12 #[.pointer (some ⟨V, 0, none⟩), .func (.func f) #[] caps] w fun e w' => Stepped V b n I s m P P' e w' ∧ Only (V :: (b.all ++ Ls)) w w' := by
  have hmf : ∀ (fn : Fn) (first cap : Array Value) (w : World), (Instr.makeFunc fn first cap).run Tryz.prog w = .ok (.func fn first cap) w := fun _ _ _ _ => rfl
  have H1 := h.alloc (.cells #[.pointer (some ⟨V, 0, none⟩)] 25)
  have S1 := (Lo.start (L := [V]) w (by have := h.row.lt; simpa using this)).alloc _ rfl [.pointer (some ⟨V, 0, none⟩)] 25
  have hov := v.snd.up
  have HV := Lib.hid (vover_any H1)
  rw [hov] at HV
  have HB := Lib.hid (begin_any H1)
  unfold dropV at HB
  have r0 := S1.get 0 _ rfl
  have c0 := r0.cell 0 _ rfl
  have hlt := h.row.lt
  go_enter_defers Tryz.func12, Tryz.ntmps12
  go_wp2_with (first
    | (go_at_call 30; (with_reducible refine HV.out.mono ?_); rintro e w' ⟨rfl, rfl⟩)
    | (go_at_call 37; (with_reducible refine HB.out.mono ?_); rintro e w2 ⟨rfl, HV2, HO2⟩; have S2 := S1.call HO2 (fun k hk => hk); have c0b : ∀ o1 o2, ((w2.alloc o1).alloc o2).cell? ⟨w.heap.size, 0, none⟩ = some (.pointer (some ⟨V, 0, none⟩)) := fun o1 o2 => (((S2.get 0 _ rfl).alloc o1).alloc o2).cell 0 _ rfl)
    | (with_reducible refine wpList_load_mid rfl 77 (.tmp 17) rfl V 0 rfl [.pointer (some ⟨b.s, 0, none⟩), .int .i64 n, .int .i64 I] _ ((HV2.alloc _).alloc _).row.base Tryz.underlying77 rfl (by kernel_rfl) ?_))
  have T1 := S2.alloc w2.heap.size rfl [dropV b.s] 1
  have T2 := T1.alloc (w2.heap.size + 1) (by simp) [.bool false] 4
  have T3 := T2.alloc (w2.heap.size + 1 + 1) (by simp) (stepL b.s n I false 0) 81
  have HV3 := ((HV2.alloc (.cells [dropV b.s].toArray 1)).alloc (.cells [.bool false].toArray 4)).alloc (.cells (stepL b.s n I false 0).toArray 81)
  have hws : w.heap.size + 1 ≤ w2.heap.size := (S1.call HO2 (fun k hk => hk)).row _ (List.mem_cons_self ..) |>.2.2
  change Calls _ _ _ (((w2.alloc (.cells [dropV b.s].toArray 1)).alloc (.cells [.bool false].toArray 4)).alloc (.cells (stepL b.s n I false 0).toArray 81)) _
  generalize hw3 : World.alloc _ _ = w3 at T3 HV3 ⊢
  have hsz3 : w3.heap.size = w2.heap.size + 1 + 1 + 1 := by rw [← hw3]; simp
  clear hw3 T1 T2 S1 S2 H1 HV HB HO2 HV2 c0 c0b r0
  obtain ⟨C1, hC1⟩ : ∃ C1, C1 = w2.heap.size := ⟨_, rfl⟩
  rw [← hC1] at T3 hws hsz3 ⊢
  clear hC1 w2
  have T : Lo [V] w [(w.heap.size, [.pointer (some ⟨V, 0, none⟩)]), (C1, [dropV b.s]), (C1 + 1, [.bool false]), (C1 + 1 + 1, stepL b.s n I false 0)] w3 := T3
  clear T3
  have hbl : ∀ k ∈ b.all, k < w.heap.size := fun k hk => h.store.lt k hk
  have hq0 := v.snd.q0
  have r0 : RowAt w3 w.heap.size [.pointer (some ⟨V, 0, none⟩)] := T.get 0 _ rfl
  have r1 : RowAt w3 C1 [dropV b.s] := T.get 1 _ rfl
  have r2 : RowAt w3 (C1 + 1) [.bool false] := T.get 2 _ rfl
  have rB : RowAt w3 (C1 + 1 + 1) (stepL b.s n I false 0) := T.get 3 _ rfl
  have OA : Only (V :: (b.all ++ Ls)) w w3 := T.only.mono (by simp)
  refine (srun_any rB HV3.store v (fun q => by have := hbl _ q; omega) Ls (fun k hk => ⟨by have := (hLs k hk).1; omega, by have := (hLs k hk).1; omega⟩) m P P' (fun a w1 w1' L h1 h2 h3 h4 => hP a w1 w1' L h1 h2 h3 (by omega)) (fun w1 w1' L h1 h2 h3 h4 => hP' w1 w1' L h1 h2 h3 (by omega)) f caps hcf (fun w1 hc ho => hf _ w1 (by omega) hc (T.only.via ho (fun i hi => Or.inr (by rw [List.mem_singleton] at hi; omega))))).mono ?_
  have hkO : ∀ i, i ∈ (C1 + 1 + 1) :: b.t :: Ls → i ∈ V :: (b.all ++ Ls) ∨ w.heap.size ≤ i := fun i hi => by
    rcases List.mem_cons.1 hi with rfl | hi
    · right; omega
    · left
      rcases List.mem_cons.1 hi with rfl | hi
      · exact List.mem_cons_of_mem _ (List.mem_append_left _ b.t_mem)
      · exact List.mem_cons_of_mem _ (List.mem_append_right _ hi)
  have hnC : ∀ k, w.heap.size ≤ k → k ≠ C1 + 1 + 1 → k ∉ (C1 + 1 + 1) :: b.t :: Ls := fun k hk hne q => by
    rcases List.mem_cons.1 q with q | q
    · exact hne q
    · rcases List.mem_cons.1 q with q | q
      · have := hbl _ b.t_mem; omega
      · have := (hLs k q).1; omega
  have hnV : V ∉ (C1 + 1 + 1) :: b.t :: Ls := fun q => by
    rcases List.mem_cons.1 q with q | q
    · omega
    · rcases List.mem_cons.1 q with q | q
      · exact h.nb (q ▸ b.t_mem)
      · exact (hLs V q).2.1 rfl
  rintro e w4 (⟨a, s', L, E, G, rfl, hst, v', hPa, O⟩ | ⟨er, s', F, h0, rfl, hst, hs', hPw, O⟩)
  · have OB := OA.via O hkO
    have HV4 : VolAt w4 V b s' n I 1 := ⟨HV3.row.only O hnV, hst, h.nb⟩
    have k0 : RowAt w4 w.heap.size [.pointer (some ⟨V, 0, none⟩)] := r0.only O (hnC _ (by omega) (by omega))
    have k1 : RowAt w4 C1 [dropV b.s] := r1.only O (hnC _ (by omega) (by omega))
    have k2 : RowAt w4 (C1 + 1) [.bool false] := r2.only O (hnC _ (by omega) (by omega))
    have c0 := k0.cell 0 _ rfl
    have HK := Lib.hid (vkeep_any HV4 (by rw [G.same]; exact hq0) (by rw [G.same]; exact hq))
    have hkL : ∀ i ∈ keepL b, i ∈ b.all := fun i hi => by simp only [keepL, Blk.all, List.mem_cons, List.not_mem_nil, or_false] at hi ⊢; rcases hi with h | h | h | h | h | h <;> simp [h]
    have hnK : ∀ k, w.heap.size ≤ k → k ∉ keepL b := fun k hk q => by have := hbl _ (hkL _ q); omega
    have hnVK : V ∉ keepL b := fun q => h.nb (hkL _ q)
    by_cases hke : skeepE s' = 0
    · rw [hke] at HK
      have arm : ∀ w5, StoreAt w5 b (skeep s') → Only (keepL b) w4 w5 → VolAt w5 V b (skeep s') n I 1 ∧ RowAt w5 w.heap.size [.pointer (some ⟨V, 0, none⟩)] ∧ RowAt w5 C1 [dropV b.s] ∧ RowAt w5 (C1 + 1) [.bool false] ∧ (∀ a, P a w4 → P a w5) ∧ Only (V :: (b.all ++ Ls)) w w5 := fun w5 hs5 ho => ⟨⟨HV4.row.only ho hnVK, hs5, h.nb⟩, k0.only ho (hnK _ (by omega)), k1.only ho (hnK _ (by omega)), k2.only ho (hnK _ (by omega)), fun a hp => hP a _ _ _ hp ho (fun k hk q => (hLs k q).2.2 (hkL _ hk)) OB.size, OB.via ho (fun i hi => Or.inl (List.mem_cons_of_mem _ (List.mem_append_left _ (hkL _ hi))))⟩
      go_wp2_with (go_at_call 40; (with_reducible refine HK.out.mono ?_); rintro e w5 ⟨rfl, hs5, hO5⟩; obtain ⟨HV5, j0, j1, j2, hPP, OC⟩ := arm w5 hs5 hO5; have c2 := j2.cell 0 _ rfl; have f2 := j2.frozen 0 (show 0 < 1 by decide))
      have HV6 : VolAt (w5.setCell ⟨C1 + 1, 0, none⟩ (.bool true)) V b (skeep s') n I 1 := HV5.only (L := [C1 + 1]) ((Only.refl _ w5).setCell (p := ⟨C1 + 1, 0, none⟩) (by simp) _) (by simp; omega) (fun i hi q => by rw [List.mem_singleton] at q; have := hbl _ hi; omega)
      have i0 := j0.setOther (C1 + 1) 0 (.bool true) (by omega)
      have i1 := j1.setOther (C1 + 1) 0 (.bool true) (by omega)
      have i2 : RowAt (w5.setCell ⟨C1 + 1, 0, none⟩ (.bool true)) (C1 + 1) [.bool true] := RowAt.setOne j2 0 (.bool true) (show 0 < 1 by decide)
      have O6 : Only [C1 + 1] w5 (w5.setCell ⟨C1 + 1, 0, none⟩ (.bool true)) := (Only.refl _ w5).setCell (p := ⟨C1 + 1, 0, none⟩) (by simp) _
      generalize World.setCell _ _ _ = w6 at HV6 i0 i1 i2 O6 ⊢
      show Leaves _ _ _ _ _ _ _
      refine leaves_cons (f := 38) (args := #[.pointer (some ⟨w.heap.size, 0, none⟩), .pointer (some ⟨C1 + 1, 0, none⟩), .pointer (some ⟨C1, 0, none⟩)]) (by simp) (by simp [go_sem]) ?_
      refine (doD_any HV6 i0 i1 true i2 ⟨by omega, by omega, by omega⟩).mono ?_
      rintro e u' w7 ⟨rfl, rfl, HV7, hO7⟩
      simp [Leaves, settle, results, Tryz.results12, go_sem]
      have O7 : Only [C1 + 1, V, b.t] w5 w7 := (O6.mono (by simp)).trans (hO7.mono (by simp))
      refine ⟨Or.inl ⟨a, s', L, E, G, v', hke, rfl, HV7, hP a _ _ _ (hPP a hPa) O7 (fun k hk q => ?_) OC.size⟩, OC.via O7 (fun i hi => ?_)⟩
      · simp only [List.mem_cons, List.not_mem_nil, or_false] at hk
        obtain ⟨q1, q2, q3⟩ := hLs k q
        rcases hk with rfl | rfl | rfl
        · omega
        · exact q2 rfl
        · exact q3 b.t_mem
      · simp only [List.mem_cons, List.not_mem_nil, or_false] at hi
        rcases hi with rfl | rfl | rfl
        · right; omega
        · left; exact List.mem_cons_self ..
        · left; exact List.mem_cons_of_mem _ (List.mem_append_left _ b.t_mem)
    · have hke' : (skeepE s' == 0) = false := by simpa using hke
      have arm : ∀ w5, StoreAt w5 b (skeep s') → Only (keepL b) w4 w5 → VolAt w5 V b (skeep s') n I 1 ∧ RowAt w5 w.heap.size [.pointer (some ⟨V, 0, none⟩)] ∧ RowAt w5 C1 [dropV b.s] ∧ RowAt w5 (C1 + 1) [.bool false] ∧ (∀ a, P a w4 → P a w5) ∧ Only (V :: (b.all ++ Ls)) w w5 := fun w5 hs5 ho => ⟨⟨HV4.row.only ho hnVK, hs5, h.nb⟩, k0.only ho (hnK _ (by omega)), k1.only ho (hnK _ (by omega)), k2.only ho (hnK _ (by omega)), fun a hp => hP a _ _ _ hp ho (fun k hk q => (hLs k q).2.2 (hkL _ hk)) OB.size, OB.via ho (fun i hi => Or.inl (List.mem_cons_of_mem _ (List.mem_append_left _ (hkL _ hi))))⟩
      go_wp2_with (go_at_call 40; (with_reducible refine HK.out.mono ?_); rintro e w5 ⟨rfl, hs5, hO5⟩; obtain ⟨HV5, j0, j1, j2, hPP, OC⟩ := arm w5 hs5 hO5)
      show Leaves _ _ _ _ _ _ _
      refine leaves_cons (f := 38) (args := #[.pointer (some ⟨w.heap.size, 0, none⟩), .pointer (some ⟨C1 + 1, 0, none⟩), .pointer (some ⟨C1, 0, none⟩)]) (by simp) (by simp [go_sem]) ?_
      refine (doD_any HV5 j0 j1 false j2 ⟨by omega, by omega, by omega⟩).mono ?_
      rintro e u' w7 ⟨rfl, rfl, HV7, hO7⟩
      simp [Leaves, settle, results, Tryz.results12, go_sem]
      refine ⟨Or.inr (Or.inr ⟨a, s', L, E, G, v', hke, rfl, HV7, hP a _ _ _ (hPP a hPa) hO7 (fun k hk q => ?_) OC.size⟩), OC.via hO7 (fun i hi => ?_)⟩
      · simp only [List.mem_cons, List.not_mem_nil, or_false] at hk
        obtain ⟨q1, q2, q3⟩ := hLs k q
        rcases hk with rfl | rfl
        · exact q2 rfl
        · exact q3 b.t_mem
      · simp only [List.mem_cons, List.not_mem_nil, or_false] at hi
        rcases hi with rfl | rfl
        · left; exact List.mem_cons_self ..
        · left; exact List.mem_cons_of_mem _ (List.mem_append_left _ b.t_mem)
  · obtain ⟨gk, _⟩ : ∃ _ : er ≠ 0, True := ⟨h0, trivial⟩
    go_wp2_with fail
    have OB := OA.via O hkO
    have HV4 : VolAt w4 V b s' n I 1 := ⟨HV3.row.only O hnV, hst, h.nb⟩
    have k0 : RowAt w4 w.heap.size [.pointer (some ⟨V, 0, none⟩)] := r0.only O (hnC _ (by omega) (by omega))
    have k1 : RowAt w4 C1 [dropV b.s] := r1.only O (hnC _ (by omega) (by omega))
    have k2 : RowAt w4 (C1 + 1) [.bool false] := r2.only O (hnC _ (by omega) (by omega))
    show Leaves _ _ _ _ _ _ _
    refine leaves_cons (f := 38) (args := #[.pointer (some ⟨w.heap.size, 0, none⟩), .pointer (some ⟨C1 + 1, 0, none⟩), .pointer (some ⟨C1, 0, none⟩)]) (by simp) (by simp [go_sem]) ?_
    refine (doD_any HV4 k0 k1 false k2 ⟨by omega, by omega, by omega⟩).mono ?_
    rintro e u' w7 ⟨rfl, rfl, HV7, hO7⟩
    simp [Leaves, settle, results, Tryz.results12, go_sem]
    have hdr : sdrop s' = sdrop s := by rw [hs']; rfl
    rw [if_neg (by decide), hdr] at HV7
    refine ⟨Or.inr (Or.inl ⟨er, F, h0, rfl, HV7, hP' _ _ _ hPw hO7 (fun k hk q => ?_) OB.size⟩), OB.via hO7 (fun i hi => ?_)⟩
    · simp only [List.mem_cons, List.not_mem_nil, or_false] at hk
      obtain ⟨q1, q2, q3⟩ := hLs k q
      rcases hk with rfl | rfl
      · exact q2 rfl
      · exact q3 b.t_mem
    · simp only [List.mem_cons, List.not_mem_nil, or_false] at hi
      rcases hi with rfl | rfl
      · left; exact List.mem_cons_self ..
      · left; exact List.mem_cons_of_mem _ (List.mem_append_left _ b.t_mem)
end Go.Proofs.YtncmihikpcdgoaaGreat

namespace Go.Proofs.YtncmihikpcdgoaaGreat
open Go.RowKit Go.Maps
open Dk (zeros zeros_length)
open Ii (Ino)
theorem binode_any {w : World} {b : Blk} {s : Sto} {n I : Int} (hst : StoreAt w b s) (v : Vs s n I) (i : Int) : Calls Tryz.prog 69 #[baseV b.s n I, .int .i64 i] w fun e w' => e = .returned (exV inoV (inoV Ii.zero) (Fs.inodeF I i (nv s))) ∧ Below w.heap.size w w' := by
  unfold Fs.inodeF
  by_cases c : 1 ≤ i ∧ i ≤ I
  · rw [if_pos c]; exact binode_yes hst v i c.1 c.2
  · rw [if_neg c]; exact binode_no v i (by omega)
theorem vol_ino (w : World) : Lo [] w [(w.heap.size, inoL Ii.zero)] (w.alloc (.cells (inoL Ii.zero).toArray 31)) := (Lo.start w (by simp)).alloc _ rfl (inoL Ii.zero) _
theorem VolAt.lo {w w' : World} {V : Nat} {b : Blk} {s : Sto} {n I k : Int} {l : List (Nat × List Value)} (h : VolAt w V b s n I k) (hl : Lo [] w l w') : VolAt w' V b s n I k := h.below hl.bel
theorem inode_two (I i : Int) (V : Fs.View) : ∃ x er, exV inoV (inoV Ii.zero) (Fs.inodeF I i V) = .tuple #[inoV x, .int .i64 er] := by
  unfold Fs.inodeF
  split
  · exact ⟨_, _, rfl⟩
  · exact ⟨_, _, rfl⟩
set_option maxRecDepth 100000 in
set_option maxHeartbeats 1000000 in
theorem vinode_any {w : World} {V : Nat} {b : Blk} {s : Sto} {n I k : Int} (h : VolAt w V b s n I k) (v : Vs s n I) (i : Int) : Calls Tryz.prog 26 #[.pointer (some ⟨V, 0, none⟩), .int .i64 i] w fun e w' => e = .returned (exV inoV (inoV Ii.zero) (Fs.inodeF I i (nv s))) ∧ Below w.heap.size w w' := by
  have S := Lib.hid (vol_ino w)
  have HV : Hid (∀ W l, Lo [] w l W → Calls Tryz.prog 30 #[.pointer (some ⟨V, 0, none⟩)] W fun e w' => e = .returned (.bool false) ∧ W = w') := Lib.hid (fun W l hl => by
    have := vover_any (h.lo hl)
    rw [v.snd.up] at this
    exact this)
  have HI : Hid (∀ W l, Lo [] w l W → Calls Tryz.prog 69 #[baseV b.s n I, .int .i64 i] W fun e w' => e = .returned (exV inoV (inoV Ii.zero) (Fs.inodeF I i (nv s))) ∧ Below W.heap.size W w') := Lib.hid (fun W l hl => binode_any (h.lo hl).store v i)
  have HR : Hid (∀ W l, Lo [] w l W → RowAt W V (volL b.s n I k)) := Lib.hid (fun W l hl => (h.lo hl).row)
  obtain ⟨x, er, hxe⟩ := inode_two I i (nv s)
  rw [hxe] at HI ⊢
  clear h v hxe
  unfold baseV at HI
  go_enter Tryz.func26, Tryz.ntmps26
  go_wp2_with (first
    | (go_at_call 30; refine (HV.out _ _ S.out).mono ?_; rintro e w1 ⟨rfl, rfl⟩)
    | (with_reducible refine wpList_load_mid rfl 77 (.tmp 11) rfl V 0 rfl [.pointer (some ⟨b.s, 0, none⟩), .int .i64 n, .int .i64 I] _ (HR.out _ _ S.out).base Tryz.underlying77 rfl (by kernel_rfl) ?_)
    | (go_at_call 69; refine (HI.out _ _ S.out).mono ?_; rintro e w1 ⟨rfl, hb⟩; replace S := Lib.hid (S.out.below hb); clear hb)
    | ((with_reducible refine wpList_store_rw (vs := inoL x) inoT (S.out.get 0 _ rfl) ?_ ?_ (inoL_one _) rfl (.tmp 4) (.tmp 15) rfl ?_ ?_ ?_); (exact rfl); (exact rfl); (exact rfl); (exact rfl)))
  have S2 := Lib.hid (S.out.put 0 _ rfl (inoL x) rfl)
  exact bodyPost_ret (results_row2 inoT _ 4 5 rfl _ (S2.out.get 0 _ rfl) rfl rfl rfl) rfl ⟨rfl, S2.out.bel⟩
theorem vol_page (w : World) : Lo [] w [(w.heap.size, byteVals zeros)] (w.alloc (.cells zeroCells 68)) := (Lo.start w (by simp)).alloc _ rfl (byteVals zeros) _
set_option maxRecDepth 100000 in
set_option maxHeartbeats 1000000 in
theorem vpage_any {w : World} {V : Nat} {b : Blk} {s : Sto} {n I k : Int} (h : VolAt w V b s n I k) (v : Vs s n I) (i : Int) : Calls Tryz.prog 33 #[.pointer (some ⟨V, 0, none⟩), .int .i64 i] w fun e w' => e = .returned (.tuple #[pageV (sreadP s i), .int .i64 (sreadE s i)]) ∧ Below w.heap.size w w' := by
  have S0 := Lib.hid (vol_page w)
  have HV : Hid (∀ W l, Lo [] w l W → Calls Tryz.prog 30 #[.pointer (some ⟨V, 0, none⟩)] W fun e w' => e = .returned (.bool false) ∧ W = w') := Lib.hid (fun W l hl => by
    have := vover_any (h.lo hl)
    rw [v.snd.up] at this
    exact this)
  have HI : Hid (∀ W l, Lo [] w l W → Calls Tryz.prog 76 #[.pointer (some ⟨b.s, 0, none⟩), .int .i64 i] W fun e w' => e = .returned (.tuple #[pageV (sreadP s i), .int .i64 (sreadE s i)]) ∧ Below W.heap.size W w') := Lib.hid (fun W l hl => sread_any (h.lo hl).store i)
  have HR : Hid (∀ W l, Lo [] w l W → W.cell? ⟨V, 0, none⟩ = some (.pointer (some ⟨b.s, 0, none⟩))) := Lib.hid (fun W l hl => (h.lo hl).c0)
  have HL : Hid ((sreadP s i).length = 64) := Lib.hid (sread_len v.snd.ok v.snd.cl.ok i)
  generalize sreadP s i = p at HI HL ⊢
  generalize sreadE s i = er at HI ⊢
  clear h v
  go_enter Tryz.func33, Tryz.ntmps33
  go_wp2_with fail
  rw [← zeroCells_def]
  generalize hw : World.alloc _ _ = w1
  have S : Hid (Lo [] w [(w.heap.size, byteVals zeros)] w1) := Lib.hid (by rw [← hw]; exact S0.out)
  clear hw S0
  have c0 := HR.out _ _ S.out
  go_wp2_with (first
    | (go_at_call 30; refine (HV.out _ _ S.out).mono ?_; rintro e w1 ⟨rfl, rfl⟩)
    | (go_at_call 76; refine (HI.out _ _ S.out).mono ?_; rintro e w2 ⟨rfl, hb⟩; replace S := Lib.hid (S.out.below hb); clear hb)
    | ((with_reducible refine wpList_store_page (S.out.page 0 rfl zeros_length) HL.out rfl (.tmp 4) (.tmp 16) rfl rfl ?_ ?_); (exact rfl)))
  have S2 := Lib.hid (S.out.putP 0 rfl zeros_length p HL.out)
  exact bodyPost_ret (results_page_int _ 4 5 rfl _ (S2.out.page 0 rfl HL.out) rfl) rfl ⟨rfl, S2.out.bel⟩
def syncL (b : Blk) : List Nat := [b.j, b.d, b.l, b.m, b.g]
set_option maxRecDepth 100000 in
theorem vsync_any {w : World} {V : Nat} {b : Blk} {s : Sto} {n I k : Int} (h : VolAt w V b s n I k) (hup : s.over = false) (hq0 : 0 ≤ s.q) (hq1 : s.q < 4294967290) : Calls Tryz.prog 22 #[.pointer (some ⟨V, 0, none⟩)] w fun e w' => e = .returned (.int .i64 (ssyncE s)) ∧ VolAt w' V b (ssync s) n I k ∧ Only (syncL b) w w' := by
  have HV := Lib.hid (vover_any h)
  rw [hup] at HV
  have HI := Lib.hid (ssync_any h.store hq0 hq1)
  have c0 := h.c0
  have hsub : ∀ i ∈ syncL b, i ∈ b.all := fun i hi => by simp only [syncL, Blk.all, List.mem_cons, List.not_mem_nil, or_false] at hi ⊢; rcases hi with h | h | h | h | h <;> simp [h]
  go_enter Tryz.func22, Tryz.ntmps22
  go_wp2_with (first
    | (go_at_call 30; refine HV.out.mono ?_; rintro e w1 ⟨rfl, rfl⟩)
    | (go_at_call 58; refine HI.out.mono ?_; rintro e w1 ⟨rfl, hst, hO⟩))
  go_ret
  exact ⟨rfl, ⟨h.row.only hO (fun q => h.nb (hsub _ q)), hst, h.nb⟩, hO⟩
end Go.Proofs.YtncmihikpcdgoaaGreat

namespace Go.Proofs.YtncmihikpcdgoaaGreat
open Go.RowKit Go.Maps
open Dk (zeros zeros_length)
open Ii (Ino)
namespace Fs
def freeV (n I : Int) (V : View) : Int := (n - Pl.dataN I) - ((Bt.all (V 42) true 0 (n - Pl.dataN I)).length : Int)
/-- how many of c inodes from i on aren't taken -/
def spareG (V : View) : Nat → Int → Int
  | 0, _ => 0
  | c + 1, i => (if (inoAt V i).k = 0 then 1 else 0) + spareG V c (i + 1)
def spareV (I : Int) (V : View) : Int := spareG V I.toNat 1
end Fs
theorem plan_row (w : World) : Lo [] w [(w.heap.size, [.int .i64 0, .int .i64 0])] (w.alloc (.cells #[.int .i64 0, .int .i64 0] 63)) := (Lo.start w (by simp)).alloc _ rfl [.int .i64 0, .int .i64 0] _
theorem VolAt.plan {w : World} {V : Nat} {b : Blk} {s : Sto} {n I k : Int} (h : VolAt w V b s n I k) : w.rangeAt V 1 (planL n I) := h.row.plan
set_option maxRecDepth 100000 in
theorem planT2 : RowT 63 2 := ⟨⟨_, Tryz.underlying63, rfl⟩, by kernel_rfl⟩
theorem planL_one2 (n I : Int) : ∀ v ∈ ([.int .i64 n, .int .i64 I] : List Value), v.oneCell' = true := by
  intro v hv
  simp only [List.mem_cons, List.not_mem_nil, or_false] at hv
  rcases hv with rfl | rfl <;> rfl
set_option maxRecDepth 100000 in
theorem vplan_any {w : World} {V : Nat} {b : Blk} {s : Sto} {n I k : Int} (h : VolAt w V b s n I k) : Calls Tryz.prog 31 #[.pointer (some ⟨V, 0, none⟩)] w fun e w' => e = .returned (planV n I) ∧ Below w.heap.size w w' := by
  have S0 := Lib.hid (plan_row w)
  have HR : Hid (∀ W l, Lo [] w l W → W.rangeAt V 1 [.int .i64 n, .int .i64 I]) := Lib.hid (fun W l hl => (h.lo hl).plan)
  clear h
  go_enter Tryz.func31, Tryz.ntmps31
  go_wp2_with (first
    | (with_reducible refine wpList_load_mid rfl 63 (.tmp 9) rfl V 1 rfl [.int .i64 n, .int .i64 I] _ (HR.out _ _ S0.out) Tryz.underlying63 rfl (by kernel_rfl) ?_)
    | ((with_reducible refine wpList_store_newrow (vs := [.int .i64 n, .int .i64 I]) planT2 ?_ (planL_one2 n I) rfl (.tmp 2) (.tmp 10) rfl rfl ?_ ?_ ?_); (exact rfl); (exact rfl); (exact rfl); intro W4 hP hB2 hz2))
  exact bodyPost_ret (results_row1 planT2 _ 2 rfl _ hP rfl rfl) rfl ⟨rfl, hB2⟩
set_option maxRecDepth 100000 in
set_option maxHeartbeats 1000000 in
theorem vfree_any {w : World} {V : Nat} {b : Blk} {s : Sto} {n I k : Int} (h : VolAt w V b s n I k) (v : Vs s n I) : Calls Tryz.prog 25 #[.pointer (some ⟨V, 0, none⟩)] w fun e w' => e = .returned (.int .i64 (Fs.freeV n I (nv s))) ∧ Below w.heap.size w w' := by
  obtain ⟨r1, r2, r3⟩ := v.read (bits_ok v).1
  have HP := Lib.hid (vplan_any h)
  have HDB : Hid (∀ w, Calls Tryz.prog 66 #[planV n I] w fun e w' => e = .returned (.int .i64 42) ∧ Below w.heap.size w w') := Lib.hid (fun w => by
    have := plDataBits_any n I w
    rw [if_pos v.pl] at this
    exact this)
  have HRM := Lib.hid (fun w => plRoom_yes n I w v.pl)
  have HL : Hid ((nv s 42).length = 64) := Lib.hid r3
  have hbl : (byteVals (nv s 42)).length = 64 := by rw [byteVals_length]; exact r3
  have HG : Hid (∀ W l, Lo [] w l W → Calls Tryz.prog 33 #[.pointer (some ⟨V, 0, none⟩), .int .i64 42] W fun e w' => e = .returned (.tuple #[pageV (nv s 42), .int .i64 0]) ∧ Below W.heap.size W w') := Lib.hid (fun W l hl => by
    have := vpage_any (h.lo hl) v 42
    rw [r1, r2] at this
    exact this)
  have HR : Hid (∀ W l, Lo [] w l W → W.rangeAt V 1 (planL n I)) := Lib.hid (fun W l hl => (h.lo hl).plan)
  have S0 := Lib.hid (Lo.start (L := []) w (by simp))
  have HC := Lib.hid (fun W c g (hr : Row W (some ⟨g, 0, none⟩) 1 (nv s 42)) => count_any 0 (n - Pl.dataN I) (some ⟨g, 0, none⟩) 1 c (nv s 42) W hr (by decide))
  have hbd := v.bd
  have hfb : ((Bt.all (nv s 42) true 0 (n - Pl.dataN I)).length : Int) ≤ 512 := by
    have := Bt.all_length (nv s 42) true 0 (n - Pl.dataN I)
    have h3 : (nv s 42).length = 64 := r3
    omega
  unfold Fs.freeV
  clear h v r1 r2 r3
  generalize nv s 42 = p at HL hbl HG HC hfb ⊢
  generalize hcn : ((Bt.all p true 0 (n - Pl.dataN I)).length : Int) = cn at HC hfb ⊢
  have hcn0 : 0 ≤ cn := by omega
  clear hcn
  go_enter Tryz.func25, Tryz.ntmps25
  go_wp2_with (first
    | (go_at_call 31; (with_reducible refine HP.out.mono ?_); rintro e w1 ⟨rfl, hb⟩; replace S0 := Lib.hid (S0.out.below hb); clear hb)
    | (go_at_call 66; (with_reducible refine (HDB.out _).mono ?_); rintro e w1 ⟨rfl, hb⟩; replace S0 := Lib.hid (S0.out.below hb); clear hb)
    | (go_at_call 33; refine (HG.out _ _ S0.out).mono ?_; rintro e w1 ⟨rfl, hb⟩; replace S0 := Lib.hid (S0.out.below hb); clear hb)
    | ((with_reducible refine wpList_store_new rfl (.tmp 3) (.tmp 12) rfl rfl ?_ ?_ HL.out ?_); (exact rfl); (exact rfl); intro W2 hP hB2 hz2; have S1 := Lib.hid (S0.out.made hP.rowAt hB2 hz2); clear hP hB2 hz2 S0; have S0 := Lib.hid S1.out; clear S1)
    | (with_reducible refine wpList_load_mid rfl 68 (.tmp 3) rfl _ 0 rfl (byteVals p) _ (S0.out.get 0 _ rfl).range Tryz.underlying68 rfl (by rw [page_info, byteVals_length, HL.out]) ?_)
    | (with_reducible refine wpList_load_plan (HR.out _ _ S0.out) rfl (.tmp 19) rfl rfl ?_)
    | (go_at_call 67; (with_reducible refine (HRM.out _).mono ?_); rintro e w1 ⟨rfl, hb⟩; replace S0 := Lib.hid (S0.out.below hb); clear hb))
  rw [fold_page rfl HL.out]
  generalize hw : World.alloc _ _ = w2
  have S9 := Lib.hid (S0.out.alloc w1.heap.size rfl (byteVals p) 68)
  have S : Hid (Lo [] w (([] ++ [_]) ++ [(w1.heap.size, byteVals p)]) w2) := Lib.hid (by rw [← hw]; exact S9.out)
  clear hw S9 S0
  replace HC := Lib.hid (HC.out w2 1 w1.heap.size (row_of_page (S.out.page 1 rfl HL.out) (S.out.lt 1 _ rfl)))
  have hnw : -9223372036854775808 ≤ n - Pl.dataN I - cn ∧ n - Pl.dataN I - cn ≤ 9223372036854775807 := by omega
  go_wp2_with (go_at_call 68; (with_reducible refine HC.out.mono ?_); rintro e w3 ⟨rfl, hb⟩; replace S := Lib.hid (S.out.below hb); clear hb HC)
  go_ret
  exact ⟨rfl, S.out.bel⟩
set_option maxRecDepth 100000 in
set_option maxHeartbeats 2000000 in
theorem vspare_any {w : World} {V : Nat} {b : Blk} {s : Sto} {n I k : Int} (h : VolAt w V b s n I k) (v : Vs s n I) : Calls Tryz.prog 29 #[.pointer (some ⟨V, 0, none⟩)] w fun e w' => e = .returned (.int .i64 (Fs.spareV I (nv s))) ∧ Below w.heap.size w w' := by
  have hI := v.bd
  have hI1 := hI.1
  have hI2 := hI.2.1
  have HP : Hid (∀ W l, Lo [] w l W → Calls Tryz.prog 31 #[.pointer (some ⟨V, 0, none⟩)] W fun e w' => e = .returned (.agg #[.int .i64 n, .int .i64 I]) ∧ Below W.heap.size W w') := Lib.hid (fun W l hl => vplan_any (h.lo hl))
  have HI : Hid (∀ W l i, Lo [] w l W → 1 ≤ i → i ≤ I → Calls Tryz.prog 26 #[.pointer (some ⟨V, 0, none⟩), .int .i64 i] W fun e w' => e = .returned (.tuple #[inoV (Fs.inoAt (nv s) i), .int .i64 0]) ∧ Below W.heap.size W w') := Lib.hid (fun W l i hl h1 h2 => by
    have := vinode_any (h.lo hl) v i
    unfold Fs.inodeF at this
    rw [if_pos ⟨h1, h2⟩] at this
    exact this)
  unfold Fs.spareV
  clear h v hI
  generalize hX : Fs.spareG (nv s) I.toNat 1 = X
  have HX0 : Hid ((0 : Int) + Fs.spareG (nv s) I.toNat 1 = X) := Lib.hid (by omega)
  clear hX
  have hfd : ∀ W : World, (Instr.field 63 (.agg #[.int .i64 n, .int .i64 I]) 1).run Tryz.prog W = .ok (.int .i64 I) W := fun _ => by kernel_rfl
  have S0 := Lib.hid (Lo.start (L := []) w (by simp))
  go_enter Tryz.func29, Tryz.ntmps29
  go_wp2_with fail
  go_loopw [3, 4] (fun t i wr => ∃ (k : Nat) (c : Int), (k : Int) ≤ I ∧ i = .int .i64 ((k : Int) + 1) ∧ t = .int .i64 c ∧ 0 ≤ c ∧ c ≤ k ∧ Lo [] w [] wr ∧ Hid (c + Fs.spareG (nv s) (I.toNat - k) ((k : Int) + 1) = X)) (fun _ i _ => 200 - (intOf i).toNat)
  case atStart => exact ⟨0, 0, by omega, rfl, rfl, by omega, by omega, S0.out, Lib.hid HX0.out⟩
  case round =>
    obtain ⟨k, c, hk, rfl, rfl, hc0, hck, hS, HG⟩ := hrel
    have S := Lib.hid hS
    clear hS S0 HX0
    by_cases hlt : (k : Int) + 1 ≤ I
    · have e1 : I.toNat - k = (I.toNat - (k + 1)) + 1 := by omega
      rw [e1, Fs.spareG] at HG
      have HII := Lib.hid (fun (W : World) (l : List (Nat × List Value)) (hl : Lo [] w l W) => HI.out W l ((k : Int) + 1) hl (by omega) hlt)
      generalize Fs.inoAt (nv s) ((k : Int) + 1) = x at HG HII
      by_cases hx : x.k = 0
      · rw [if_pos hx] at HG
        have gk : (x.k == 0) = true := by rw [hx]; rfl
        clear hx
        go_wp2_with (first
          | (go_at_call 31; refine (HP.out _ _ S.out).mono ?_; rintro e w1 ⟨rfl, hb⟩; replace S := Lib.hid (S.out.below hb); clear hb)
          | (go_at_call 26; refine (HII.out _ _ S.out).mono ?_; rintro e w1 ⟨rfl, hb⟩; replace S := Lib.hid (S.out.below hb); clear hb)
          | ((with_reducible refine wpList_store_newrow (vs := inoL x) inoT ?_ (inoL_one _) rfl (.tmp 5) (.tmp 18) rfl rfl ?_ ?_ ?_); (exact rfl); (exact rfl); (exact rfl); intro W4 hP hB2 hz2; replace S := Lib.hid (S.out.made hP hB2 hz2); clear hP hB2 hz2; have ck := (S.out.get 0 _ rfl).cell 0 _ rfl))
        go_roundw
        case rel => exact ⟨k + 1, c + 1, by omega, by go_num, by go_num, by omega, by omega, S.out.cut 0, Lib.hid (by rw [show ((k + 1 : Nat) : Int) + 1 = (k : Int) + 1 + 1 by omega]; have := HG.out; omega)⟩
        case measure => simp [intOf]; omega
      · rw [if_neg hx] at HG
        have gk : (x.k == 0) = false := by simpa using hx
        clear hx
        go_wp2_with (first
          | (go_at_call 31; refine (HP.out _ _ S.out).mono ?_; rintro e w1 ⟨rfl, hb⟩; replace S := Lib.hid (S.out.below hb); clear hb)
          | (go_at_call 26; refine (HII.out _ _ S.out).mono ?_; rintro e w1 ⟨rfl, hb⟩; replace S := Lib.hid (S.out.below hb); clear hb)
          | ((with_reducible refine wpList_store_newrow (vs := inoL x) inoT ?_ (inoL_one _) rfl (.tmp 5) (.tmp 18) rfl rfl ?_ ?_ ?_); (exact rfl); (exact rfl); (exact rfl); intro W4 hP hB2 hz2; replace S := Lib.hid (S.out.made hP hB2 hz2); clear hP hB2 hz2; have ck := (S.out.get 0 _ rfl).cell 0 _ rfl))
        go_roundw
        case rel => exact ⟨k + 1, c, by omega, by go_num, rfl, by omega, by omega, S.out.cut 0, Lib.hid (by rw [show ((k + 1 : Nat) : Int) + 1 = (k : Int) + 1 + 1 by omega]; have := HG.out; omega)⟩
        case measure => simp [intOf]; omega
    · have e1 : I.toNat - k = 0 := by omega
      rw [e1, Fs.spareG] at HG
      have HE : c = X := by have := HG.out; omega
      go_wp2_with (go_at_call 31; refine (HP.out _ _ S.out).mono ?_; rintro e w1 ⟨rfl, hb⟩; replace S := Lib.hid (S.out.below hb); clear hb)
      go_ret
      exact ⟨rfl, S.out.bel⟩
end Go.Proofs.YtncmihikpcdgoaaGreat

namespace Go.Proofs.YtncmihikpcdgoaaGreat
open Go.RowKit Go.Maps
open Dk (zeros zeros_length)
open Ii (Ino)
structure Fop where
  k : Int
  ino : Int
  off : Int
  n : Int
  text : List UInt8
  x : Ino
def opL (o : Fop) : List Value := .int .i64 o.k :: .int .i64 o.ino :: .int .i64 o.off :: .int .i64 o.n :: .string (strOf o.text) :: inoL o.x
def opV (o : Fop) : Value := .agg (opL o).toArray
theorem opL_one (o : Fop) : ∀ v ∈ opL o, v.oneCell' = true := by
  intro v hv
  simp only [opL, List.mem_cons] at hv
  rcases hv with rfl | rfl | rfl | rfl | rfl | hv
  · rfl
  · rfl
  · rfl
  · rfl
  · rfl
  · exact inoL_one o.x v hv
set_option maxRecDepth 100000 in
theorem opT : RowT 33 16 := ⟨⟨_, Tryz.underlying33, rfl⟩, by kernel_rfl⟩
namespace Fs
def opM (n I : Int) (o : Fop) : M Int :=
  if o.k = 0 then newM n I o.x
  else if o.k = 1 then andThen (changeM n I o.ino o.x) fun _ => ret 0
  else if o.k = 2 then andThen (releaseM n I o.ino) fun _ => ret 0
  else if o.k = 3 then andThen (writeM n I o.ino o.off o.text) fun _ => ret 0
  else if o.k = 4 then andThen (truncM n I o.ino o.off) fun _ => ret 0
  else ret 0
end Fs
theorem Ends.cb {B : Nat} {b : Blk} {n I : Int} {w : World} {s : Sto} {m : Fs.M Unit} {e : Ending} {w' : World} {X : Nat} (h : Ends B b n I [] w s m (fun _ e _ => e = .returned (.tuple #[])) e w') (hX : RowAt w X [.int .i64 0]) (hXB : X ≠ B) (hXt : X ≠ b.t) :
    Cb B b n I [X] w s (Fs.andThen m fun _ => Fs.ret 0) (fun a w' => RowAt w' X [.int .i64 a]) (fun w' => RowAt w' X [.int .i64 0]) e w' := by
  rcases h with ⟨a, s', L, E, G, C, hK, O⟩ | ⟨er, F, h0, Br, he, O⟩
  · refine Or.inl ⟨0, s', L, by rw [Fs.andThen_ok E]; simp [Fs.ret], G, C, hK, hX.only O (by simpa using hXt), O.mono (fun k hk => by rw [List.mem_singleton] at hk; subst hk; exact List.mem_cons_self ..)⟩
  · refine Or.inr ⟨er, F.bind, h0, Br, he, hX.only O (by simp; exact ⟨hXB, hXt⟩), O.mono (fun k hk => by simp only [List.mem_cons, List.not_mem_nil, or_false] at hk ⊢; rcases hk with rfl | rfl <;> simp)⟩
set_option maxRecDepth 100000 in
set_option maxHeartbeats 4000000 in
theorem opD_any {w : World} {B : Nat} {b : Blk} {s : Sto} {n I : Int} (h : Ctx w B b s n I) (o : Fop) (ht : o.text.length ≤ 10000) (O1 X : Nat) (hO : RowAt w O1 (opL o)) (hX : RowAt w X [.int .i64 0]) (hXB : X ≠ B) (hXt : X ∉ b.all) (hOX : O1 ≠ X) :
    Calls Tryz.prog 36 #[.pointer (some ⟨B, 0, none⟩), .pointer (some ⟨O1, 0, none⟩), .pointer (some ⟨X, 0, none⟩)] w (Cb B b n I [X] w s (Fs.opM n I o) (fun a w' => RowAt w' X [.int .i64 a]) (fun w' => RowAt w' X [.int .i64 0])) := by
  have hXt' : X ≠ b.t := fun q => hXt (q ▸ b.t_mem)
  have c0 := hO.cell 0 _ rfl
  have c1 := hO.cell 1 _ rfl
  have c2 := hO.cell 2 _ rfl
  have c4 := hO.cell 4 _ rfl
  have HR : Hid (w.rangeAt O1 5 (inoL o.x)) := Lib.hid (fun j v hv => by
    have := hO.range (5 + j) v (by
      show (opL o)[5 + j]? = some v
      rw [show 5 + j = j + 1 + 1 + 1 + 1 + 1 by omega]
      exact hv)
    rwa [Nat.zero_add] at this)
  have HX := Lib.hid hX
  have HH := Lib.hid h
  unfold Fs.opM
  by_cases k0 : o.k = 0
  · rw [if_pos k0]
    have g0 : (o.k == 0) = true := by rw [k0]; rfl
    rw [k0] at c0
    clear hO hX h
    go_enter Tryz.func36, Tryz.ntmps36
    go_wp2_with (first
      | (with_reducible refine wpList_load_mid rfl 31 (.tmp 9) rfl O1 5 rfl (inoL o.x) _ HR.out Tryz.underlying31 rfl (by kernel_rfl) ?_))
    refine (snew_step HH.out o.x).mono ?_
    rintro e w3 (⟨a, s', L, E, G, C, rfl, O⟩ | ⟨er, F, h0, Br, rfl, O⟩)
    · have k1 : RowAt w3 X [.int .i64 0] := HX.out.only O (by simpa using hXt')
      have ff := k1.frozen 0 (show 0 < 1 by decide)
      have cc := k1.cell 0 _ rfl
      have k2 : RowAt (w3.setCell ⟨X, 0, none⟩ (.int .i64 a)) X [.int .i64 a] := RowAt.setOne k1 0 (.int .i64 a) (show 0 < 1 by decide)
      have O2 : Only [X] w3 (w3.setCell ⟨X, 0, none⟩ (.int .i64 a)) := (Only.refl _ w3).setCell (p := ⟨X, 0, none⟩) (by simp) _
      go_wp2_with fail
      go_end0
      refine Or.inl ⟨a, s', L, E, G, C.only O2 (by simpa using fun q => hXB q.symm) (fun i hi q => by rw [List.mem_singleton] at q; subst q; exact hXt hi), rfl, k2, ?_⟩
      have O3 : Only [b.t, X] w w3 := O.mono (by simp)
      exact O3.trans (O2.mono (by simp))
    · refine ⟨rfl, Or.inr ⟨er, F, h0, Br, rfl, HX.out.only O (by simp; exact ⟨hXB, hXt'⟩), O.mono (fun k hk => by simp only [List.mem_cons, List.not_mem_nil, or_false] at hk ⊢; rcases hk with rfl | rfl <;> simp)⟩⟩
  · have g0 : (o.k == 0) = false := by simpa using k0
    rw [if_neg k0]
    have arm : ∀ m e w', Ends B b n I [] w s m (fun _ e _ => e = .returned (.tuple #[])) e w' → Cb B b n I [X] w s (Fs.andThen m fun _ => Fs.ret 0) (fun a w' => RowAt w' X [.int .i64 a]) (fun w' => RowAt w' X [.int .i64 0]) e w' := fun m e w' hE => hE.cb HX.out hXB hXt'
    have HARM := Lib.hid arm
    clear arm hO hX h
    by_cases k1 : o.k = 1
    · rw [if_pos k1]
      have g1 : (o.k == 1) = true := by rw [k1]; rfl
      rw [k1] at c0
      have HC := Lib.hid (schange_step HH.out o.ino o.x)
      go_enter Tryz.func36, Tryz.ntmps36
      go_wp2_with (first
        | (with_reducible refine wpList_load_mid rfl 31 (.tmp 17) rfl O1 5 rfl (inoL o.x) _ HR.out Tryz.underlying31 rfl (by kernel_rfl) ?_))
      refine HC.out.mono ?_
      intro e w3 hE
      have hCb := HARM.out _ _ _ hE
      rcases hE with ⟨a, s', L, E, G, C, rfl, O⟩ | ⟨er, F, h0, Br, rfl, O⟩
      · go_wp2_with fail
        go_end0
        exact hCb
      · exact ⟨rfl, hCb⟩
    · have g1 : (o.k == 1) = false := by simpa using k1
      rw [if_neg k1]
      by_cases k2 : o.k = 2
      · rw [if_pos k2]
        have g2 : (o.k == 2) = true := by rw [k2]; rfl
        rw [k2] at c0
        have HC := Lib.hid (srelease_step HH.out o.ino)
        go_enter Tryz.func36, Tryz.ntmps36
        go_wp2_with fail
        refine HC.out.mono ?_
        intro e w3 hE
        have hCb := HARM.out _ _ _ hE
        rcases hE with ⟨a, s', L, E, G, C, rfl, O⟩ | ⟨er, F, h0, Br, rfl, O⟩
        · go_wp2_with fail
          go_end0
          exact hCb
        · exact ⟨rfl, hCb⟩
      · have g2 : (o.k == 2) = false := by simpa using k2
        rw [if_neg k2]
        by_cases k3 : o.k = 3
        · rw [if_pos k3]
          have g3 : (o.k == 3) = true := by rw [k3]; rfl
          rw [k3] at c0
          have HC := Lib.hid (swrite_step HH.out o.ino o.off o.text ht)
          go_enter Tryz.func36, Tryz.ntmps36
          go_wp2_with fail
          refine HC.out.mono ?_
          intro e w3 hE
          have hCb := HARM.out _ _ _ hE
          rcases hE with ⟨a, s', L, E, G, C, rfl, O⟩ | ⟨er, F, h0, Br, rfl, O⟩
          · go_wp2_with fail
            go_end0
            exact hCb
          · exact ⟨rfl, hCb⟩
        · have g3 : (o.k == 3) = false := by simpa using k3
          rw [if_neg k3]
          by_cases k4 : o.k = 4
          · rw [if_pos k4]
            have g4 : (o.k == 4) = true := by rw [k4]; rfl
            rw [k4] at c0
            have HC := Lib.hid (strunc_step HH.out o.ino o.off)
            go_enter Tryz.func36, Tryz.ntmps36
            go_wp2_with fail
            refine HC.out.mono ?_
            intro e w3 hE
            have hCb := HARM.out _ _ _ hE
            rcases hE with ⟨a, s', L, E, G, C, rfl, O⟩ | ⟨er, F, h0, Br, rfl, O⟩
            · go_wp2_with fail
              go_end0
              exact hCb
            · exact ⟨rfl, hCb⟩
          · have g4 : (o.k == 4) = false := by simpa using k4
            rw [if_neg k4]
            go_enter Tryz.func36, Tryz.ntmps36
            go_wp2_with fail
            go_end0
            exact Or.inl ⟨0, s, [], rfl, Goes.refl s, HH.out, rfl, HX.out, Only.refl _ _⟩
end Go.Proofs.YtncmihikpcdgoaaGreat

namespace Go.Proofs.YtncmihikpcdgoaaGreat
open Go.RowKit Go.Maps
open Dk (zeros zeros_length)
open Ii (Ino)
/-- what becomes of a volume's store by a step -/
def StepTo {α : Type} (n I : Int) (s : Sto) (m : Fs.M α) (er : Int) (s2 : Sto) (a : Option α) : Prop :=
  (∃ x s' L, m (nv s) = (.ok x, nv s', L) ∧ Goes s s' L ∧ Vs s' n I ∧ skeepE s' = 0 ∧ er = 0 ∧ s2 = skeep s' ∧ a = some x) ∨
  (Fails s m er ∧ er ≠ 0 ∧ s2 = sdrop s ∧ a = none) ∨
  (∃ x s' L, m (nv s) = (.ok x, nv s', L) ∧ Goes s s' L ∧ Vs s' n I ∧ skeepE s' ≠ 0 ∧ er = skeepE s' ∧ s2 = sdrop (skeep s') ∧ a = some x)
theorem Stepped.to {α : Type} {V : Nat} {b : Blk} {n I : Int} {s : Sto} {m : Fs.M α} {P : α → World → Prop} {P' : World → Prop} {e : Ending} {w' : World} (h : Stepped V b n I s m P P' e w') :
    ∃ er s2 a, StepTo n I s m er s2 a ∧ e = .returned (.int .i64 er) ∧ VolAt w' V b s2 n I 0 ∧ (match a with | some x => P x w' | none => P' w') := by
  rcases h with ⟨a, s', L, h1, h2, h3, h4, h5, h6, h7⟩ | ⟨er, h1, h2, h3, h4, h5⟩ | ⟨a, s', L, h1, h2, h3, h4, h5, h6, h7⟩
  · exact ⟨0, _, some a, Or.inl ⟨a, s', L, h1, h2, h3, h4, rfl, rfl, rfl⟩, h5, h6, h7⟩
  · exact ⟨er, _, none, Or.inr (Or.inl ⟨h1, h2, rfl, rfl⟩), h3, h4, h5⟩
  · exact ⟨_, _, some a, Or.inr (Or.inr ⟨a, s', L, h1, h2, h3, h4, rfl, rfl, rfl⟩), h5, h6, h7⟩
theorem stable_row (X : Nat) (N : Nat) (v : Value) (_hX : X < N) : Stable [X] N (fun w => RowAt w X [v]) := fun w w' L h ho hk hN => h.only ho (fun q => hk X q (by simp))
theorem op_box (w : World) (o : Fop) : Lo [] w [(w.heap.size, opL o), (w.heap.size + 1, [.int .i64 0])] ((w.alloc (.cells (opL o).toArray 33)).alloc (.cells #[.int .i64 0] 3)) :=
  ((Lo.start w (by simp)).alloc _ rfl (opL o) _).alloc (w.heap.size + 1) (by simp) [.int .i64 0] _
set_option maxRecDepth 100000 in
set_option maxHeartbeats 4000000 in
theorem lawDo_any {w : World} {V : Nat} {b : Blk} {s : Sto} {n I : Int} (h : VolAt w V b s n I 0) (v : Vs s n I) (hq : s.q < 4294967290) (o : Fop) (ht : o.text.length ≤ 10000) :
    Calls Tryz.prog 10 #[.pointer (some ⟨V, 0, none⟩), opV o] w fun e w' => ∃ er s2 a, StepTo n I s (Fs.opM n I o) er s2 a ∧ e = .returned (.tuple #[.int .i64 (a.getD 0), .int .i64 er]) ∧ VolAt w' V b s2 n I 0 ∧ Only (V :: b.all) w w' := by
  have hmf : ∀ (fn : Fn) (first cap : Array Value) (w : World), (Instr.makeFunc fn first cap).run Tryz.prog w = .ok (.func fn first cap) w := fun _ _ _ _ => rfl
  have S := op_box w o
  have H1 := (h.alloc (.cells (opL o).toArray 33)).alloc (.cells #[.int .i64 0] 3)
  have hlt := h.row.lt
  have hbl : ∀ k ∈ b.all, k < w.heap.size := fun k hk => h.store.lt k hk
  unfold opV
  go_enter Tryz.func10, Tryz.ntmps10
  go_wp2_with fail
  have hs1 : ((w.alloc (.cells (opL o).toArray 33)).alloc (.cells #[.int .i64 0] 3)).heap.size = w.heap.size + 2 := by simp
  generalize World.alloc _ _ = w1 at S H1 hs1 ⊢
  have rO : RowAt w1 w.heap.size (opL o) := S.get 0 _ rfl
  have rX : RowAt w1 (w.heap.size + 1) [.int .i64 0] := S.get 1 _ rfl
  have hbx : ∀ k, w.heap.size ≤ k → k ∉ b.all := fun k hk q => by have := hbl _ q; omega
  have HD := do_any H1 v hq [w.heap.size + 1] (fun k hk => by rw [List.mem_singleton] at hk; subst hk; exact ⟨by omega, by omega, hbx _ (by omega)⟩) (Fs.opM n I o) (fun a w' => RowAt w' (w.heap.size + 1) [.int .i64 a]) (fun w' => RowAt w' (w.heap.size + 1) [.int .i64 0])
    (fun a => stable_row _ _ _ (by omega)) (stable_row _ _ _ (by omega)) 36 #[.pointer (some ⟨w.heap.size, 0, none⟩), .pointer (some ⟨w.heap.size + 1, 0, none⟩)] (fun args W => by simp [go_sem]) (fun B w2 hB hc ho => by
      have q1 : w.heap.size ∉ [V] := by simp; omega
      have q2 : w.heap.size + 1 ∉ [V] := by simp; omega
      exact opD_any hc o ht w.heap.size (w.heap.size + 1) (rO.only ho q1) (rX.only ho q2) (by omega) (hbx _ (by omega)) (by omega))
  refine HD.mono ?_
  rintro e w3 ⟨hst, hO⟩
  obtain ⟨er, s2, a, hto, rfl, HV3, hPa⟩ := hst.to
  have hr : RowAt w3 (w.heap.size + 1) [.int .i64 (a.getD 0)] := by
    cases a with
    | none => exact hPa
    | some x => exact hPa
  have cc := hr.cell 0 _ rfl
  go_wp2_with fail
  go_ret2
  exact ⟨er, s2, a, hto, rfl, HV3, (S.only.mono (by simp)).via hO (fun i hi => by
    simp only [List.mem_cons, List.mem_append, List.not_mem_nil, or_false] at hi
    rcases hi with rfl | hi | rfl
    · left; simp
    · left; simp [hi]
    · right; omega)⟩
end Go.Proofs.YtncmihikpcdgoaaGreat
