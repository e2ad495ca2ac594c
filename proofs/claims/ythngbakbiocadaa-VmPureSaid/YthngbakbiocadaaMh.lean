/-
  Use, Word and Drop of a map that is there.
-/
import Derived.Test.YthngbakbiocadaaMd
import Derived.Test.YthngbakbiocadaaMc
import Derived.Test.YthngbakbiocadaaMg
import Derived.Test.YthngbakbiocadaaMa
import Derived.Deep.DeepCutAuto

namespace Go.Proofs.Ythngbakbiocadaa
set_option maxRecDepth 100000
open Go.RowKit Go.Maps

namespace Z
def getI (k : Int) (l : List En) : Option En := match pos k l with
  | some i => l[i]?
  | none => none
def En.word (x : En) (j : Nat) (n : Int) : En := if j = 0 then { x with a := n } else if j = 1 then { x with b := n } else if j = 2 then { x with c := n } else { x with d := n }
def wordI (l : List En) (k : Int) (j : Nat) (n : Int) : List En := match pos k l with
  | some i => (match l[i]? with
    | some x => l.set i (x.word j n)
    | none => l)
  | none => l
def dropI (l : List En) (k : Int) : List En := match pos k l with
  | some i => l.eraseIdx i
  | none => l
end Z
set_option maxHeartbeats 2000000 in
theorem use_hash (base b : Nat) (sv : Value) (room : Nat) (l : List Z.En) (key : Int) (i : Nat) (x : Z.En) (w : World) (h : MpAt 74 (kd false) w base b sv room l) (hn : l.length ≤ 1000) (hp : Z.pos key l = some i) (hx : l[i]? = some x) :
    Calls Try.prog 74 #[.pointer (some ⟨b, 0, none⟩), .int .i64 key] w fun e w' => e = .returned (.tuple #[.agg (wordsL x).toArray, .bool true]) ∧ ∃ sv', MpTo 74 (kd false) w base b sv room l w' sv' := by
  have HF := Lib.hid (fun w => find_any (kd false) base b sv room l key w)
  have HP : Hid (Z.posI key l = (i : Int)) := Lib.hid (by unfold Z.posI; rw [hp])
  have hi : i < l.length := (List.getElem?_eq_some_iff.1 hx).1
  have HX := Lib.hid hx
  have HL := Lib.hid hn
  have hi1 : (i : Int) < (l.length : Int) := by omega
  have hi0 : (0 : Int) ≤ (i : Int) := by omega
  have S0 : Hid (InS 74 (kd false) w base b sv room l w.heap.size [.int .i64 0, .int .i64 0, .int .i64 0, .int .i64 0] (w.alloc (.cells #[.int .i64 0, .int .i64 0, .int .i64 0, .int .i64 0] 60)) sv) := Lib.hid ⟨MpTo.self h ((Below.refl _ _).alloc (Nat.le_refl _) _), zero_row w _, by decide, fun hf => by (have := (h.foot hf).2; omega), Nat.le_refl _⟩
  obtain ⟨g, cap, hsv, _, _, _, hgl, _⟩ := own_range h.own hx
  subst hsv
  clear h hp hn hx hi
  go_enter Try.func74, Try.ntmps74
  go_upto_region 1 with fail
  generalize w.alloc (.cells #[.int .i64 0, .int .i64 0, .int .i64 0, .int .i64 0] 60) = W1 at S0 ⊢
  go_upto_region 4 with (go_at_call 32; refine (HF.out _ S0.out.way.at_ HL.out).mono ?_; rw [HP.out]; rintro e w2 ⟨rfl, hb⟩; have S := Lib.hid (S0.out.call hb); clear hb S0)
  have hc2 := S.out.way.at_.row.cell 2 _ rfl
  obtain ⟨g', c', he, _, _, _, _, hrg⟩ := own_range S.out.way.at_.own HX.out
  injection he with he _ _
  injection he with he
  injection he with he
  subst he
  have HC := Lib.hid (words_range hrg)
  clear hrg
  go_wp2_with (first
    | ((with_reducible refine wpList_load_at valT HC.out (wordsL_length _) rfl (.tmp 20) rfl ?_ ?_); (exact rfl))
    | ((with_reducible refine wpList_store_newrow valT (vs := wordsL x) (wordsL_length _) (wordsL_one _) rfl (.tmp 7) (.tmp 21) rfl rfl ?_ ?_ ?_); (exact rfl); (exact rfl); intro W4 hP hb hz; have S4 := Lib.hid (S.out.call hb); have HV := Lib.hid hP; clear hP hb hz S; generalize w2.heap.size = V at HV ⊢)
    | (go_at_call 34; refine (used_hash base b _ room l i W4 S4.out.way.at_).mono ?_; rintro e w5 ⟨rfl, hb⟩; have S5 := Lib.hid (S4.out.call hb); have HV5 := Lib.hid (RowAt.step (v := .int .i64 x.a) (vs := [.int .i64 x.b, .int .i64 x.c, .int .i64 x.d]) HV.out hb); have HR5 := Lib.hid S5.out.row; clear hb)
    | (with_reducible refine wpList_load_row valT (vs := wordsL x) HV5.out (wordsL_length _) rfl (.tmp 7) rfl rfl ?_)
    | ((with_reducible refine wpList_store_row valT HR5.out rfl (vs := wordsL x) (wordsL_length _) (wordsL_one _) rfl (.tmp 4) (.tmp 25) rfl ?_ ?_ ?_); (exact rfl); (exact rfl)))
  refine bodyPost_ret (results_row2 valT _ 4 5 rfl _ (HR5.out.put _ rfl) rfl rfl rfl) rfl ⟨rfl, _, S5.out.res⟩
set_option maxHeartbeats 2000000 in
theorem use_no (hd : Value) (base b : Nat) (sv : Value) (room : Nat) (l : List Z.En) (key : Int) (w : World) (h : MpAt 74 hd w base b sv room l) (hn : l.length ≤ 1000) (hp : Z.pos key l = none) :
    Calls Try.prog 74 #[.pointer (some ⟨b, 0, none⟩), .int .i64 key] w fun e w' => e = .returned (.tuple #[zeroW, .bool false]) ∧ ∃ sv', MpTo 74 hd w base b sv room l w' sv' := by
  have HF := Lib.hid (fun w => find_any hd base b sv room l key w)
  have HP : Hid (Z.posI key l = -1) := Lib.hid (by unfold Z.posI; rw [hp])
  have HL := Lib.hid hn
  have S0 : Hid (InS 74 hd w base b sv room l w.heap.size [.int .i64 0, .int .i64 0, .int .i64 0, .int .i64 0] (w.alloc (.cells #[.int .i64 0, .int .i64 0, .int .i64 0, .int .i64 0] 60)) sv) := Lib.hid ⟨MpTo.self h ((Below.refl _ _).alloc (Nat.le_refl _) _), zero_row w _, by decide, fun hf => by (have := (h.foot hf).2; omega), Nat.le_refl _⟩
  clear h hp hn
  go_enter Try.func74, Try.ntmps74
  go_upto_region 1 with fail
  generalize w.alloc (.cells #[.int .i64 0, .int .i64 0, .int .i64 0, .int .i64 0] 60) = W1 at S0 ⊢
  go_wp2_with (first
    | (go_at_call 32; refine (HF.out _ S0.out.way.at_ HL.out).mono ?_; rw [HP.out]; rintro e w2 ⟨rfl, hb⟩; have S := Lib.hid (S0.out.call hb); have R := Lib.hid S.out.row; clear hb S0)
    | ((with_reducible refine wpList_store_row valT R.out rfl (vs := [.int .i64 0, .int .i64 0, .int .i64 0, .int .i64 0]) rfl zero_one rfl (.tmp 4) (.tmp 13) rfl ?_ ?_ ?_); (exact rfl); (exact rfl)))
  refine bodyPost_ret (results_row2 valT _ 4 5 rfl _ (R.out.put _ rfl) rfl rfl rfl) rfl ⟨rfl, _, S.out.res⟩
/-- what Use gives -/
def gotV (o : Option Z.En) : Value := match o with
  | some x => .tuple #[.agg (wordsL x).toArray, .bool true]
  | none => .tuple #[zeroW, .bool false]
theorem use_any (lru : Bool) (base b : Nat) (sv : Value) (room : Nat) (l : List Z.En) (key : Int) (w : World) (h : MpAt 74 (kd lru) w base b sv room l) (hn : l.length ≤ 1000) (hbase : base ≤ w.heap.size) :
    Calls Try.prog 74 #[.pointer (some ⟨b, 0, none⟩), .int .i64 key] w fun e w' => e = .returned (gotV (Z.getI key l)) ∧ ∃ sv', MpTo 74 (kd lru) w base b sv room (Z.useI lru l key) w' sv' := by
  unfold Z.getI Z.useI
  cases hp : Z.pos key l with
  | none => exact use_no (kd lru) base b sv room l key w h hn hp
  | some i =>
    obtain ⟨x, hx, _, _⟩ := Z.pos_some hp
    simp only [hx]
    cases lru with
    | false => exact use_hash base b sv room l key i x w h hn hp hx
    | true => exact use_lru base b sv room l key i x w h hn hp hx hbase
theorem get_any (hd : Value) (base b : Nat) (sv : Value) (room : Nat) (l : List Z.En) (key : Int) (w : World) (h : MpAt 74 hd w base b sv room l) (hn : l.length ≤ 1000) :
    Calls Try.prog 21 #[.pointer (some ⟨b, 0, none⟩), .int .i64 key] w fun e w' => e = .returned (gotV (Z.getI key l)) ∧ Below w.heap.size w w' := by
  unfold Z.getI
  cases hp : Z.pos key l with
  | none => exact get_no hd base b sv room l key w h hn hp
  | some i =>
    obtain ⟨x, hx, _, _⟩ := Z.pos_some hp
    simp only [hx]
    exact get_yes hd base b sv room l key i x w h hn hp hx
set_option maxHeartbeats 2000000 in
theorem drop_yes (hd : Value) (base b : Nat) (sv : Value) (room : Nat) (l : List Z.En) (key : Int) (i : Nat) (w : World) (h : MpAt 74 hd w base b sv room l) (hn : l.length ≤ 1000) (hp : Z.pos key l = some i) :
    Calls Try.prog 75 #[.pointer (some ⟨b, 0, none⟩), .int .i64 key] w fun e w' => e = .returned (.int .i64 0) ∧ ∃ sv', MpTo 74 hd w base b sv room (l.eraseIdx i) w' sv' := by
  have HF := Lib.hid (fun w => find_any hd base b sv room l key w)
  have HP : Hid (Z.posI key l = (i : Int)) := Lib.hid (by unfold Z.posI; rw [hp])
  have HI := Lib.hid (Z.pos_lt hp)
  have HL := Lib.hid hn
  have S0 := Lib.hid (MpTo.self h (Below.refl _ _))
  have hi0 : ¬ ((i : Int) < 0) := by omega
  clear h hp hn
  go_enter Try.func75, Try.ntmps75
  go_wp2_with (first
    | (go_at_call 32; refine (HF.out _ S0.out.at_ HL.out).mono ?_; rw [HP.out]; rintro e w2 ⟨rfl, hb⟩; have S := Lib.hid (S0.out.call hb); clear hb S0)
    | (go_at_call 35; refine (rem_any hd base b sv room l i _ S.out.at_ HI.out HL.out).mono ?_; rintro e w3 ⟨rfl, sv3, hto⟩; have S3 := Lib.hid (S.out.trans hto); clear hto))
  go_ret
  exact ⟨rfl, sv3, S3.out⟩
set_option maxHeartbeats 2000000 in
theorem drop_no (hd : Value) (base b : Nat) (sv : Value) (room : Nat) (l : List Z.En) (key : Int) (w : World) (h : MpAt 74 hd w base b sv room l) (hn : l.length ≤ 1000) (hp : Z.pos key l = none) :
    Calls Try.prog 75 #[.pointer (some ⟨b, 0, none⟩), .int .i64 key] w fun e w' => e = .returned (.int .i64 2) ∧ ∃ sv', MpTo 74 hd w base b sv room l w' sv' := by
  have HF := Lib.hid (fun w => find_any hd base b sv room l key w)
  have HP : Hid (Z.posI key l = -1) := Lib.hid (by unfold Z.posI; rw [hp])
  have HL := Lib.hid hn
  have S0 := Lib.hid (MpTo.self h (Below.refl _ _))
  clear h hp hn
  go_enter Try.func75, Try.ntmps75
  go_wp2_with (first
    | (go_at_call 32; refine (HF.out _ S0.out.at_ HL.out).mono ?_; rw [HP.out]; rintro e w2 ⟨rfl, hb⟩; have S := Lib.hid (S0.out.call hb); clear hb S0))
  go_ret
  exact ⟨rfl, sv, S.out⟩
theorem drop_any (hd : Value) (base b : Nat) (sv : Value) (room : Nat) (l : List Z.En) (key : Int) (w : World) (h : MpAt 74 hd w base b sv room l) (hn : l.length ≤ 1000) :
    Calls Try.prog 75 #[.pointer (some ⟨b, 0, none⟩), .int .i64 key] w fun e w' => e = .returned (.int .i64 (if (Z.pos key l).isSome then 0 else 2)) ∧ ∃ sv', MpTo 74 hd w base b sv room (Z.dropI l key) w' sv' := by
  unfold Z.dropI
  cases hp : Z.pos key l with
  | none => exact drop_no hd base b sv room l key w h hn hp
  | some i => exact drop_yes hd base b sv room l key i w h hn hp
end Go.Proofs.Ythngbakbiocadaa

/-
  Word of a map that is there.
-/
namespace Go.Proofs.Ythngbakbiocadaa
set_option maxRecDepth 100000
open Go.RowKit Go.Maps

theorem Z.En.word_key (x : Z.En) (j : Nat) (n : Int) : (x.word j n).key = x.key := by
  unfold Z.En.word; split <;> (try split) <;> (try split) <;> rfl
theorem enL_word (x : Z.En) (j : Nat) (n : Int) (hj : j < 4) : enL (x.word j n) = (enL x).set (j + 1) (.int .i64 n) := by
  have : j = 0 ∨ j = 1 ∨ j = 2 ∨ j = 3 := by omega
  rcases this with rfl | rfl | rfl | rfl <;> rfl
theorem cellsE_word : ∀ (l : List Z.En) (i j : Nat) (y : Z.En) (n : Int), l[i]? = some y → j < 4 → cellsE (l.set i (y.word j n)) = (cellsE l).set (i * 5 + (1 + j)) (.int .i64 n)
  | [], i, j, y, n, h, _ => by simp at h
  | z :: r, 0, j, y, n, h, hj => by
    simp at h
    subst h
    unfold cellsE
    rw [List.set_cons_zero, List.flatMap_cons, List.flatMap_cons, enL_word _ _ _ hj, Nat.zero_mul, Nat.zero_add, List.set_append_left _ _ (by rw [enL_length]; omega), Nat.add_comm 1 j]
  | z :: r, i + 1, j, y, n, h, hj => by
    have ih := cellsE_word r i j y n (by simpa using h) hj
    unfold cellsE at ih ⊢
    rw [List.set_cons_succ, List.flatMap_cons, List.flatMap_cons, ih, List.set_append_right _ _ (by rw [enL_length]; omega), enL_length]
    congr 2
    omega
theorem MpTo.oneword {t : TypeId} {hd : Value} {w : World} {base b : Nat} {g n cap : Nat} {room : Nat} {l : List Z.En} {i j : Nat} {y : Z.En} (m : Int) (h : MpAt t hd w base b (.slice (some ⟨g, 0, none⟩) n cap) room l) (hn : n = l.length) (hy : l[i]? = some y) (hj : j < 4) :
    MpTo t hd w base b (.slice (some ⟨g, 0, none⟩) n cap) room (l.set i (y.word j m)) (w.setCell ⟨g, i * 5 + 1 + j, none⟩ (.int .i64 m)) (.slice (some ⟨g, 0, none⟩) n cap) := by
  have hb := But.setCell w g (i * 5 + 1 + j) (.int .i64 m)
  have hgb : g ≠ b := fun e => h.ne (by rw [e]; rfl)
  subst hn
  refine ⟨⟨h.row.but hb (fun e => hgb e.symm), ?_, h.ne, h.ge⟩, hb.mono (fun k hk => Or.inl (Or.inr (by rw [hk]; rfl))), fun k hk => Or.inl hk⟩
  rw [List.length_set, cellsE_word l i j y m hy hj, ← Nat.add_assoc]
  exact (h.own.stored _ _).1
set_option maxHeartbeats 2000000 in
theorem word_out (hd : Value) (base b : Nat) (sv : Value) (room : Nat) (l : List Z.En) (key j n : Int) (w : World) (h : MpAt 74 hd w base b sv room l) (hj : j < 0 ∨ 4 ≤ j) :
    Calls Try.prog 66 #[.pointer (some ⟨b, 0, none⟩), .int .i64 key, .int .i64 j, .int .i64 n] w fun e w' => e = .returned (.int .i64 22) ∧ ∃ sv', MpTo 74 hd w base b sv room l w' sv' := by
  have S0 := Lib.hid (MpTo.self h (Below.refl _ _))
  clear h
  by_cases h0 : j < 0
  · clear hj
    go_enter Try.func66, Try.ntmps66
    go_wp2
    go_ret
    exact ⟨rfl, sv, S0.out⟩
  · have h4 : 4 ≤ j := by omega
    clear hj
    go_enter Try.func66, Try.ntmps66
    go_wp2
    go_ret
    exact ⟨rfl, sv, S0.out⟩
set_option maxHeartbeats 2000000 in
theorem word_no (hd : Value) (base b : Nat) (sv : Value) (room : Nat) (l : List Z.En) (key n : Int) (j : Nat) (w : World) (h : MpAt 74 hd w base b sv room l) (hn : l.length ≤ 1000) (hp : Z.pos key l = none) (hj : j < 4) :
    Calls Try.prog 66 #[.pointer (some ⟨b, 0, none⟩), .int .i64 key, .int .i64 (j : Int), .int .i64 n] w fun e w' => e = .returned (.int .i64 2) ∧ ∃ sv', MpTo 74 hd w base b sv room l w' sv' := by
  have HF := Lib.hid (fun w => find_any hd base b sv room l key w)
  have HP : Hid (Z.posI key l = -1) := Lib.hid (by unfold Z.posI; rw [hp])
  have HL := Lib.hid hn
  have S0 := Lib.hid (MpTo.self h (Below.refl _ _))
  have h0 : ¬ ((j : Int) < 0) := by omega
  have h0d : decide ((j : Int) < 0) = false := decide_eq_false h0
  have h4 : (j : Int) < 4 := by omega
  clear h hp hn
  go_enter Try.func66, Try.ntmps66
  go_wp2_with (first
    | (go_at_call 32; refine (HF.out _ S0.out.at_ HL.out).mono ?_; rw [HP.out]; rintro e w2 ⟨rfl, hb⟩; have S := Lib.hid (S0.out.call hb); clear hb S0))
  go_ret
  exact ⟨rfl, sv, S.out⟩
set_option maxHeartbeats 2000000 in
theorem word_yes (hd : Value) (base b : Nat) (sv : Value) (room : Nat) (l : List Z.En) (key n : Int) (i j : Nat) (x : Z.En) (w : World) (h : MpAt 74 hd w base b sv room l) (hn : l.length ≤ 1000) (hp : Z.pos key l = some i) (hx : l[i]? = some x) (hj : j < 4) :
    Calls Try.prog 66 #[.pointer (some ⟨b, 0, none⟩), .int .i64 key, .int .i64 (j : Int), .int .i64 n] w fun e w' => e = .returned (.int .i64 0) ∧ ∃ sv', MpTo 74 hd w base b sv room (l.set i (x.word j n)) w' sv' := by
  have HF := Lib.hid (fun w => find_any hd base b sv room l key w)
  have HP : Hid (Z.posI key l = (i : Int)) := Lib.hid (by unfold Z.posI; rw [hp])
  have HL := Lib.hid hn
  have HX := Lib.hid hx
  have HJ := Lib.hid hj
  have hi : i < l.length := (List.getElem?_eq_some_iff.1 hx).1
  have S0 := Lib.hid (MpTo.self h (Below.refl _ _))
  have h0 : ¬ ((j : Int) < 0) := by omega
  have h0d : decide ((j : Int) < 0) = false := decide_eq_false h0
  have h4 : (j : Int) < 4 := by omega
  have hi1 : (i : Int) < (l.length : Int) := by omega
  have hi0 : ¬ ((i : Int) < 0) := by omega
  obtain ⟨g, cap, hsv, hcap, _, _, hgl, _⟩ := own_range h.own hx
  subst hsv
  clear h hp hn hx
  go_enter Try.func66, Try.ntmps66
  go_upto_region 6 with (first
    | (go_at_call 32; refine (HF.out _ S0.out.at_ HL.out).mono ?_; rw [HP.out]; rintro e w2 ⟨rfl, hb⟩; have S := Lib.hid (S0.out.call hb); clear hb S0))
  have hc2 := S.out.at_.row.cell 2 _ rfl
  have hth := own_there S.out.at_.own (i * 5 + 1 + j) 1 (by omega)
  obtain ⟨hc, hf⟩ := hth 0 (by omega)
  rw [Nat.add_zero] at hc hf
  obtain ⟨u, hu⟩ := Option.isSome_iff_exists.1 hc
  have S3 := Lib.hid (S.out.trans (MpTo.oneword n S.out.at_ rfl HX.out HJ.out))
  clear hth hc
  go_wp2
  go_ret
  exact ⟨rfl, _, S3.out⟩
theorem word_any (hd : Value) (base b : Nat) (sv : Value) (room : Nat) (l : List Z.En) (key n : Int) (j : Nat) (w : World) (h : MpAt 74 hd w base b sv room l) (hn : l.length ≤ 1000) (hj : j < 4) :
    Calls Try.prog 66 #[.pointer (some ⟨b, 0, none⟩), .int .i64 key, .int .i64 (j : Int), .int .i64 n] w fun e w' => e = .returned (.int .i64 (if (Z.pos key l).isSome then 0 else 2)) ∧ ∃ sv', MpTo 74 hd w base b sv room (Z.wordI l key j n) w' sv' := by
  unfold Z.wordI
  cases hp : Z.pos key l with
  | none => exact word_no hd base b sv room l key n j w h hn hp hj
  | some i =>
    obtain ⟨x, hx, _, _⟩ := Z.pos_some hp
    simp only [hx]
    exact word_yes hd base b sv room l key n i j x w h hn hp hx hj
end Go.Proofs.Ythngbakbiocadaa

/-
  A set of maps in memory, the program's or the document's: its blocks, and what each call makes of it.
-/
namespace Go.Proofs.Ythngbakbiocadaa
set_option maxRecDepth 100000
open Go.ChangeShapes Go.WideShapes Go.ChangeAt Go.RowKit Go.Maps

structure Side where
  pt : TypeId
  et : TypeId
  hd : Bool → Value
def Side.mp (s : Side) (d : Dt) (b : Nat) (sv : Value) : Mp := ⟨s.et, s.hd d.lru, b, sv, d.room, d.l⟩
def sP : Side := ⟨51, 74, kd⟩
def sR : Side := ⟨56, 59, fun b => .bool b⟩
structure StM (s : Side) (base : Nat) (v : Value) (bs : List Nat) (ms : List Mp) (ds : List Dt) (W : World) : Prop where
  all : Ms base (fun k => v.ownBlock = some k) ms W
  own : W.ownsRow base s.pt 1 v ds.length (ptrs bs)
  len : ms.length = ds.length
  is : ∀ i d, ds[i]? = some d → ∃ sv, ms[i]? = some (s.mp d (bs.getD i 0) sv)
def stFoot (v : Value) (ms : List Mp) (k : Nat) : Prop := v.ownBlock = some k ∨ ∃ (i : Nat) (m : Mp), ms[i]? = some m ∧ m.foot k
/-- a set, whose blocks are among S -/
def StAt (s : Side) (base : Nat) (v : Value) (bs : List Nat) (S : Nat → Prop) (ds : List Dt) (W : World) : Prop :=
  ∃ ms, StM s base v bs ms ds W ∧ (∀ k, stFoot v ms k → S k) ∧ ∀ k, S k → base ≤ k ∧ k < W.heap.size
/-- what a call makes of a set -/
def StTo (s : Side) (base : Nat) (v : Value) (bs : List Nat) (S : Nat → Prop) (W : World) (ds : List Dt) (W' : World) : Prop :=
  ∃ S', StAt s base v bs S' ds W' ∧ But S W W' ∧ ∀ k, S' k → S k ∨ W.heap.size ≤ k
theorem StM.lt {s : Side} {base : Nat} {v : Value} {bs : List Nat} {ms : List Mp} {ds : List Dt} {W : World} (h : StM s base v bs ms ds W) {k : Nat} (hk : stFoot v ms k) : base ≤ k ∧ k < W.heap.size := by
  rcases hk with e | ⟨i, m, hm, hf⟩
  · exact h.own.lt k e
  · exact MpAt.foot (h.all.each i m hm) hf
theorem StM.keep {s : Side} {base : Nat} {v : Value} {bs : List Nat} {ms : List Mp} {ds : List Dt} {W W' : World} {T : Nat → Prop} (h : StM s base v bs ms ds W) (hb : But T W W') (hT : ∀ k, T k → ¬ stFoot v ms k) : StM s base v bs ms ds W' where
  all := ⟨fun i m hm => MpAt.keep (h.all.each i m hm) hb (fun k hk hf => hT k hk (Or.inr ⟨i, m, hm, hf⟩)), h.all.apart, h.all.off, fun k hk => Nat.lt_of_lt_of_le (h.all.low k hk) hb.size⟩
  own := own_but h.own hb (fun g hg hk => hT g hk (Or.inl hg))
  len := h.len
  is := h.is
theorem StAt.keep {s : Side} {base : Nat} {v : Value} {bs : List Nat} {S T : Nat → Prop} {ds : List Dt} {W W' : World} (h : StAt s base v bs S ds W) (hb : But T W W') (hT : ∀ k, T k → ¬ S k) : StAt s base v bs S ds W' := by
  obtain ⟨ms, h1, h2, h3⟩ := h
  exact ⟨ms, h1.keep hb (fun k hk hf => hT k hk (h2 k hf)), h2, fun k hk => ⟨(h3 k hk).1, Nat.lt_of_lt_of_le (h3 k hk).2 hb.size⟩⟩
theorem StAt.step {s : Side} {base : Nat} {v : Value} {bs : List Nat} {S : Nat → Prop} {ds : List Dt} {W W' : World} (h : StAt s base v bs S ds W) (hb : Below W.heap.size W W') : StAt s base v bs S ds W' :=
  h.keep (T := fun _ => False) (But.of_below hb) (fun _ hf => hf.elim)
theorem StAt.lt {s : Side} {base : Nat} {v : Value} {bs : List Nat} {S : Nat → Prop} {ds : List Dt} {W : World} (h : StAt s base v bs S ds W) {k : Nat} (hk : S k) : k < W.heap.size := by
  obtain ⟨ms, h1, h2, h3⟩ := h
  exact (h3 k hk).2
theorem StAt.ge {s : Side} {base : Nat} {v : Value} {bs : List Nat} {S : Nat → Prop} {ds : List Dt} {W : World} (h : StAt s base v bs S ds W) {k : Nat} (hk : S k) : base ≤ k := by
  obtain ⟨ms, h1, h2, h3⟩ := h
  exact (h3 k hk).1
theorem StTo.self {s : Side} {base : Nat} {v : Value} {bs : List Nat} {S : Nat → Prop} {ds : List Dt} {W W' : World} (h : StAt s base v bs S ds W) (hb : Below W.heap.size W W') : StTo s base v bs S W ds W' :=
  ⟨S, h.step hb, But.of_below hb, fun _ hk => Or.inl hk⟩
theorem StTo.trans {s : Side} {base : Nat} {v : Value} {bs : List Nat} {S S' : Nat → Prop} {ds : List Dt} {W W' W'' : World} (h2 : But S W W') (h3 : ∀ k, S' k → S k ∨ W.heap.size ≤ k) (k : StTo s base v bs S' W' ds W'') : StTo s base v bs S W ds W'' := by
  obtain ⟨S2, g1, g2, g3⟩ := k
  refine ⟨S2, g1, h2.trans g2 h3, fun k hk => ?_⟩
  rcases g3 k hk with e | e
  · exact h3 k e
  · exact Or.inr (Nat.le_trans h2.size e)
theorem StTo.call {s : Side} {base : Nat} {v : Value} {bs : List Nat} {S : Nat → Prop} {ds : List Dt} {W W' W'' : World} (h : StTo s base v bs S W ds W') (hb : Below W'.heap.size W' W'') : StTo s base v bs S W ds W'' := by
  obtain ⟨S', h1, h2, h3⟩ := h
  exact StTo.trans h2 h3 (StTo.self h1 hb)
/-- the map at a place, and what it means for the set when it turns -/
theorem StAt.turn {s : Side} {base : Nat} {v : Value} {bs : List Nat} {S : Nat → Prop} {ds : List Dt} {W : World} (h : StAt s base v bs S ds W) {i : Nat} {d : Dt} (hd : ds[i]? = some d) :
    ∃ sv g c, v = .slice (some ⟨g, 0, none⟩) ds.length c ∧ ds.length ≤ c ∧ W.cell? ⟨g, i, none⟩ = some (.pointer (some ⟨bs.getD i 0, 0, none⟩)) ∧ MpAt s.et (s.hd d.lru) W base (bs.getD i 0) sv d.room d.l ∧
      ∀ (W' : World) (sv' : Value) (l' : List Z.En), MpTo s.et (s.hd d.lru) W base (bs.getD i 0) sv d.room l' W' sv' → StTo s base v bs S W (ds.set i ⟨d.lru, d.room, l'⟩) W' := by
  obtain ⟨ms, h1, h2, h3⟩ := h
  obtain ⟨sv, hm⟩ := h1.is i d hd
  have hi : i < ds.length := (List.getElem?_eq_some_iff.1 hd).1
  obtain ⟨g, c, e1, e2, _, e3⟩ := own_pget h1.own hi
  refine ⟨sv, g, c, e1, e2, e3, h1.all.each i _ hm, fun W' sv' l' hto => ?_⟩
  have hoff := h1.all.off i _ hm
  have hbut : But S W W' := hto.but.mono (fun x hx => Or.inl (h2 x (Or.inr ⟨i, _, hm, hx⟩)))
  have hfoot : ∀ k, stFoot v (ms.set i ⟨s.et, s.hd d.lru, bs.getD i 0, sv', d.room, l'⟩) k → stFoot v ms k ∨ sv'.ownBlock = some k := by
    intro k hk
    rcases hk with e | ⟨j, m, hjm, hf⟩
    · exact Or.inl (Or.inl e)
    · by_cases e : i = j
      · subst e
        rw [List.getElem?_set_self (by rw [h1.len]; exact hi)] at hjm
        injection hjm with hjm
        subst hjm
        rcases hf with hf | hf
        · exact Or.inl (Or.inr ⟨i, _, hm, Or.inl hf⟩)
        · exact Or.inr hf
      · rw [List.getElem?_set_ne e] at hjm
        exact Or.inl (Or.inr ⟨j, m, hjm, hf⟩)
  refine ⟨fun k => S k ∨ sv'.ownBlock = some k, ⟨_, ⟨h1.all.turn i _ hm hto, ?_, by rw [List.length_set, List.length_set]; exact h1.len, fun j q hq => ?_⟩, fun k hk => (hfoot k hk).imp (h2 k) id, fun k hk => ?_⟩, hbut, fun k hk => ?_⟩
  · rw [List.length_set]
    exact own_but h1.own hto.but (fun g hg hf => hoff g hf hg)
  · by_cases e : i = j
    · subst e
      rw [List.getElem?_set_self hi] at hq
      injection hq with hq
      subst hq
      exact ⟨sv', by rw [List.getElem?_set_self (by rw [h1.len]; exact hi)]; rfl⟩
    · rw [List.getElem?_set_ne e] at hq ⊢
      exact h1.is j q hq
  · rcases hk with hk | hk
    · exact ⟨(h3 k hk).1, Nat.lt_of_lt_of_le (h3 k hk).2 hto.but.size⟩
    · exact MpAt.foot hto.at_ (Or.inr hk)
  · rcases hk with hk | hk
    · exact Or.inl hk
    · rcases hto.new k hk with e | e
      · exact Or.inl (h2 k (Or.inr ⟨i, _, hm, Or.inr e⟩))
      · exact Or.inr e
/-- no map at all -/
theorem StAt.nil (s : Side) (base : Nat) (W : World) : StAt s base (.slice none 0 0) [] (fun _ => False) [] W :=
  ⟨[], ⟨(Ms.nil base W).sub (fun k hk => by cases hk), ⟨rfl, Or.inl ⟨rfl, rfl⟩⟩, rfl, fun i d h => by simp at h⟩, fun k hk => by
    rcases hk with e | ⟨i, m, hm, _⟩
    · cases e
    · simp at hm, fun k hk => hk.elim⟩
/-! ### the calls of a set's maps -/
theorem StTo.same {s : Side} {base : Nat} {v : Value} {bs : List Nat} {S : Nat → Prop} {ds : List Dt} {i : Nat} {d : Dt} {W W' : World} (hd : ds[i]? = some d) (h : StTo s base v bs S W (ds.set i ⟨d.lru, d.room, d.l⟩) W') : StTo s base v bs S W ds W' := by
  have e : ds.set i ⟨d.lru, d.room, d.l⟩ = ds := by
    apply List.ext_getElem?
    intro j
    by_cases hj : i = j
    · subst hj
      rw [List.getElem?_set_self (List.getElem?_eq_some_iff.1 hd).1, hd]
    · rw [List.getElem?_set_ne hj]
  rw [e] at h
  exact h
section
variable {base : Nat} {v : Value} {bs : List Nat} {S : Nat → Prop} {ds : List Dt} {W : World} {i : Nat} {d : Dt}
theorem st_at (h : StAt sP base v bs S ds W) (hd : ds[i]? = some d) : Calls Try.prog 17 #[v, .int .i64 (i : Int)] W fun e w' => e = .returned (.pointer (some ⟨bs.getD i 0, 0, none⟩)) ∧ W = w' := by
  obtain ⟨sv, g, c, e1, _, e3, _, _⟩ := h.turn hd
  rw [e1]
  exact at_in g ds.length c i _ W (List.getElem?_eq_some_iff.1 hd).1 e3
theorem st_at_no (h : StAt sP base v bs S ds W) (j : Int) (hj : j < 0 ∨ (ds.length : Int) ≤ j) : Calls Try.prog 17 #[v, .int .i64 j] W fun e w' => e = .returned (.pointer none) ∧ W = w' := by
  obtain ⟨ms, h1, _, _⟩ := h
  obtain ⟨A, c, e⟩ := owns_slice h1.own
  rw [e]
  exact at_out A ds.length c j W hj
theorem st_put (h : StAt sP base v bs S ds W) (hd : ds[i]? = some d) (hok : d.ok) (hb : base ≤ W.heap.size) (x : Z.En) :
    Calls Try.prog 25 #[.pointer (some ⟨bs.getD i 0, 0, none⟩), .int .i64 x.key, .agg #[.int .i64 x.a, .int .i64 x.b, .int .i64 x.c, .int .i64 x.d]] W fun e w' => e = .returned (.int .i64 (d.code x)) ∧ StTo sP base v bs S W (ds.set i (d.put x)) w' := by
  obtain ⟨sv, g, c, _, _, _, hm, ht⟩ := h.turn hd
  exact (put_any d.lru base _ sv d.room d.l x W hm hok.1 hok.2.1 (by have := hok.2.2; omega) hb).mono fun e w' ⟨g1, sv', g2⟩ => ⟨g1, ht w' sv' _ g2⟩
theorem st_rput (h : StAt sR base v bs S ds W) (hd : ds[i]? = some d) (hok : d.ok) (hb : base ≤ W.heap.size) (x : Z.En) :
    Calls Try.prog 26 #[.pointer (some ⟨bs.getD i 0, 0, none⟩), .int .i64 x.key, .agg #[.int .i64 x.a, .int .i64 x.b, .int .i64 x.c, .int .i64 x.d]] W fun e w' => e = .returned (.int .i64 (d.code x)) ∧ StTo sR base v bs S W (ds.set i (d.put x)) w' := by
  obtain ⟨sv, g, c, _, _, _, hm, ht⟩ := h.turn hd
  exact (rput_any d.lru base _ sv d.room d.l x W hm hok.1 hok.2.1 (by have := hok.2.2; omega) hb).mono fun e w' ⟨g1, sv', g2⟩ => ⟨g1, ht w' sv' _ g2⟩
theorem st_use (h : StAt sP base v bs S ds W) (hd : ds[i]? = some d) (hok : d.ok) (hb : base ≤ W.heap.size) (k : Int) :
    Calls Try.prog 74 #[.pointer (some ⟨bs.getD i 0, 0, none⟩), .int .i64 k] W fun e w' => e = .returned (gotV (Z.getI k d.l)) ∧ StTo sP base v bs S W (ds.set i ⟨d.lru, d.room, Z.useI d.lru d.l k⟩) w' := by
  obtain ⟨sv, g, c, _, _, _, hm, ht⟩ := h.turn hd
  exact (use_any d.lru base _ sv d.room d.l k W hm (by have := hok.1; have := hok.2.2; omega) hb).mono fun e w' ⟨g1, sv', g2⟩ => ⟨g1, ht w' sv' _ g2⟩
theorem st_get (h : StAt sP base v bs S ds W) (hd : ds[i]? = some d) (hok : d.ok) (k : Int) :
    Calls Try.prog 21 #[.pointer (some ⟨bs.getD i 0, 0, none⟩), .int .i64 k] W fun e w' => e = .returned (gotV (Z.getI k d.l)) ∧ Below W.heap.size W w' := by
  obtain ⟨sv, g, c, _, _, _, hm, ht⟩ := h.turn hd
  exact get_any (kd d.lru) base _ sv d.room d.l k W hm (by have := hok.1; have := hok.2.2; omega)
theorem st_word (h : StAt sP base v bs S ds W) (hd : ds[i]? = some d) (hok : d.ok) (k n : Int) (j : Nat) (hj : j < 4) :
    Calls Try.prog 66 #[.pointer (some ⟨bs.getD i 0, 0, none⟩), .int .i64 k, .int .i64 (j : Int), .int .i64 n] W fun e w' => e = .returned (.int .i64 (if (Z.pos k d.l).isSome then 0 else 2)) ∧ StTo sP base v bs S W (ds.set i ⟨d.lru, d.room, Z.wordI d.l k j n⟩) w' := by
  obtain ⟨sv, g, c, _, _, _, hm, ht⟩ := h.turn hd
  exact (word_any (kd d.lru) base _ sv d.room d.l k n j W hm (by have := hok.1; have := hok.2.2; omega) hj).mono fun e w' ⟨g1, sv', g2⟩ => ⟨g1, ht w' sv' _ g2⟩
theorem st_drop (h : StAt sP base v bs S ds W) (hd : ds[i]? = some d) (hok : d.ok) (k : Int) :
    Calls Try.prog 75 #[.pointer (some ⟨bs.getD i 0, 0, none⟩), .int .i64 k] W fun e w' => e = .returned (.int .i64 (if (Z.pos k d.l).isSome then 0 else 2)) ∧ StTo sP base v bs S W (ds.set i ⟨d.lru, d.room, Z.dropI d.l k⟩) w' := by
  obtain ⟨sv, g, c, _, _, _, hm, ht⟩ := h.turn hd
  exact (drop_any (kd d.lru) base _ sv d.room d.l k W hm (by have := hok.1; have := hok.2.2; omega)).mono fun e w' ⟨g1, sv', g2⟩ => ⟨g1, ht w' sv' _ g2⟩
theorem st_len (h : StAt sP base v bs S ds W) (hd : ds[i]? = some d) :
    Calls Try.prog 20 #[.pointer (some ⟨bs.getD i 0, 0, none⟩)] W fun e w' => e = .returned (.int .i64 (d.l.length : Int)) ∧ Below W.heap.size W w' := by
  obtain ⟨sv, g, c, _, _, _, hm, ht⟩ := h.turn hd
  exact len_any (kd d.lru) base _ sv d.room d.l W hm
theorem st_all (h : StAt sP base v bs S ds W) (hd : ds[i]? = some d) (hok : d.ok) :
    Calls Try.prog 18 #[.pointer (some ⟨bs.getD i 0, 0, none⟩)] W fun e w' => ∃ A c, e = .returned (.slice A d.l.length c) ∧ EnsAt w' A d.l.length d.l ∧ Below W.heap.size W w' := by
  obtain ⟨sv, g, c, _, _, _, hm, ht⟩ := h.turn hd
  exact all_any (kd d.lru) base _ sv d.room d.l W hm (by have := hok.1; have := hok.2.2; omega)
theorem st_slice {s : Side} (h : StAt s base v bs S ds W) : ∃ A c, v = .slice A ds.length c := by
  obtain ⟨ms, h1, _, _⟩ := h
  exact owns_slice h1.own
set_option maxHeartbeats 1000000 in
theorem st_entries (h : StAt sP base v bs S ds W) (hok : ∀ d ∈ ds, d.ok) (hn : ds.length ≤ 4) :
    Calls Try.prog 13 #[v] W fun e w' => e = .returned (.int .i64 (sumK ds ds.length : Int)) ∧ Below W.heap.size W w' := by
  obtain ⟨A, c, hv⟩ := st_slice h
  obtain ⟨n, hl⟩ : ∃ n, ds.length = n := ⟨_, rfl⟩
  have H := Lib.hid h
  have HOK := Lib.hid hok
  have HL := Lib.hid hl
  rw [hl] at hv hn ⊢
  have HV := Lib.hid hv
  rw [hv]
  clear h hv hok hl
  go_enter Try.func13, Try.ntmps13
  go_wp2
  go_loopw [3, 5, 8] (fun s _ i wr => ∃ k : Nat, k ≤ n ∧ i = .int .i64 (k : Int) ∧ s = .int .i64 (sumK ds k : Int) ∧ Hid (Below W.heap.size W wr)) (fun _ _ i _ => n - (intOf i).toNat)
  case atStart => exact ⟨0, Nat.zero_le _, rfl, rfl, Lib.hid (Below.refl _ _)⟩
  case round =>
    obtain ⟨k, hk, rfl, rfl, HB⟩ := hrel
    by_cases hlt : k < n
    · have I2 := H.out.step HB.out
      have hd : ds[k]? = some (ds[k]'(by rw [HL.out]; exact hlt)) := List.getElem?_eq_getElem _
      generalize ds[k]'(by rw [HL.out]; exact hlt) = d at hd
      obtain ⟨sv, g, c', e1, _, hc, _, _⟩ := I2.turn hd
      rw [HV.out] at e1
      injection e1 with e1 e2 e3
      subst e1 e3
      clear e2
      have HP := Lib.hid (st_len I2 hd)
      have HS := Lib.hid (sumK_succ hd)
      have h8 := HOK.out d (List.mem_of_getElem? hd)
      have hb1 := sumK_le HOK.out k
      have hw : IntKind.i64.wrap ((sumK ds k : Int) + (d.l.length : Int)) = ((sumK ds (k + 1) : Nat) : Int) := by rw [HS.out, IntKind.wrap_i64]; have := h8.1; have := h8.2.2; omega
      have hk0 : (0 : Int) ≤ (k : Int) := by omega
      have hk1 : (k : Int) < (n : Int) := by omega
      clear hd I2 h8 hb1
      go_wp2_with (go_at_call 20; refine (HP.out).mono ?_; rintro e w2 ⟨rfl, hb⟩; replace HB := Lib.hid (HB.out.trans (hb.mono HB.out.size)); clear hb)
      go_roundw
      case rel => exact ⟨k + 1, by omega, by go_num, rfl, HB⟩
      case measure => (simp [intOf] <;> omega)
    · obtain rfl : k = n := by omega
      clear hlt
      go_wp2
      go_ret
      exact ⟨rfl, HB.out⟩
end
end Go.Proofs.Ythngbakbiocadaa

/-
  Instructions in memory.
-/
namespace Go.Proofs.Ythngbakbiocadaa.Yq
set_option maxRecDepth 100000
open Go.ChangeShapes Go.WideShapes Go.ChangeAt Go.RowKit Go.Maps

def inL (x : Y.In) : List Value := [.int .i64 x.op, .int .i64 x.dst, .int .i64 x.src, .int .i64 x.off, .int .i64 x.imm]
theorem inL_length (x : Y.In) : (inL x).length = 5 := rfl
theorem inL_one (x : Y.In) : ∀ v ∈ inL x, v.oneCell' = true := by
  intro v hv
  simp only [inL, List.mem_cons, List.not_mem_nil, or_false] at hv
  rcases hv with rfl | rfl | rfl | rfl | rfl <;> rfl
def inV (x : Y.In) : Value := .agg (inL x).toArray
theorem inV_def (x : Y.In) : Value.agg (inL x).toArray = inV x := rfl
theorem inT : RowT 64 5 := ⟨⟨_, Try.underlying64, rfl⟩, by kernel_rfl⟩
theorem cellsI : Try.prog.cellsOf 3 = 1 := by kernel_rfl
theorem cellsIn : Try.prog.cellsOf 64 = 5 := by kernel_rfl
theorem in_cells {H : Type} {enc : TypeId × Value → H} {W : World} {fuel : Nat} {base : Nat} {spare : Nat → Bool} {held : Bool} {cs : List Value} {z : DataW H × List MemPlace} (ht : DataW.trod enc Try.prog W base spare held fuel 64 cs = some z) :
    ∃ x : Y.In, cs = inL x := by
  obtain ⟨xs, n, _, rfl, hcl, hlen, hf⟩ := DataW.trod_struct Try.underlying64 ht
  rw [cellsIn] at hcl
  match xs, hlen with
  | [y0, y1, y2, y3, y4], _ =>
    obtain ⟨a0, e0, _, _⟩ := DataW.trod_int Try.underlying3 (hf 0 _ rfl)
    obtain ⟨a1, e1, _, _⟩ := DataW.trod_int Try.underlying3 (hf 1 _ rfl)
    obtain ⟨a2, e2, _, _⟩ := DataW.trod_int Try.underlying3 (hf 2 _ rfl)
    obtain ⟨a3, e3, _, _⟩ := DataW.trod_int Try.underlying3 (hf 3 _ rfl)
    obtain ⟨a4, e4, _, _⟩ := DataW.trod_int Try.underlying3 (hf 4 _ rfl)
    have c0 : (cs.drop 0).take (Try.prog.cellsOf 3) = [.int .i64 a0] := e0
    have c1 : (cs.drop 1).take (Try.prog.cellsOf 3) = [.int .i64 a1] := e1
    have c2 : (cs.drop 2).take (Try.prog.cellsOf 3) = [.int .i64 a2] := e2
    have c3 : (cs.drop 3).take (Try.prog.cellsOf 3) = [.int .i64 a3] := e3
    have c4 : (cs.drop 4).take (Try.prog.cellsOf 3) = [.int .i64 a4] := e4
    rw [cellsI] at c0 c1 c2 c3 c4
    refine ⟨⟨a0, a1, a2, a3, a4⟩, ?_⟩
    match cs, hcl with
    | [v0, v1, v2, v3, v4], _ =>
      simp at c0 c1 c2 c3 c4
      subst c0 c1 c2 c3 c4
      rfl
/-- instructions that lie in a slice -/
structure InsAt (w : World) (A : Option Addr) (n : Nat) (xs : List Y.In) : Prop where
  len : xs.length = n
  rows : ManyAt w A 5 (xs.map inL)
theorem InsAt.step {w w' : World} {A : Option Addr} {n : Nat} {xs : List Y.In} (h : InsAt w A n xs) (hb : Below w.heap.size w w') : InsAt w' A n xs := ⟨h.len, h.rows.step hb⟩
theorem InsAt.get {w : World} {A : Option Addr} {n : Nat} {xs : List Y.In} (h : InsAt w A n xs) (k : Nat) (hk : k < n) : ∃ b off x, A = some ⟨b, off, none⟩ ∧ b < w.heap.size ∧ xs[k]? = some x ∧ w.rangeAt b (off + k * 5) (inL x) := by
  obtain ⟨b, off, e, hb, hc⟩ := h.rows.cells (by rw [List.length_map, h.len]; omega)
  have hx : xs[k]? = some (xs[k]'(by rw [h.len]; exact hk)) := List.getElem?_eq_getElem _
  exact ⟨b, off, _, e, hb, hx, hc k _ (by rw [List.getElem?_map, hx]; rfl)⟩
theorem open_ins {H : Type} {enc : TypeId × Value → H} {W : World} {base : Nat} {v : Value} {d : DataW H} {p : List MemPlace} (hv : Value.okWide Try.prog W .any base 26 v)
    (h : DataW.Trod enc Try.prog W 0 (fun _ => true) true 26 v d p) : ∃ A n c xs, v = .slice A n c ∧ (n ≤ c ∧ c ≤ maxLen) ∧ InsAt W A n xs := by
  obtain ⟨A, n, c, rs, rfl, hl, hm, hg, hr⟩ := open_many (z := 5) (by decide) Try.underlying26 cellsIn (fun cs => ∃ x : Y.In, cs = inL x) (fun m k cs x ht => in_cells ht) (fun cs ⟨q, he⟩ => by rw [he]; rfl) hv h
  have : ∀ rs : List (List Value), (∀ r ∈ rs, ∃ x : Y.In, r = inL x) → ∃ xs : List Y.In, rs = xs.map inL := by
    intro rs
    induction rs with
    | nil => intro _; exact ⟨[], rfl⟩
    | cons r t ih =>
      intro hr
      obtain ⟨q, e⟩ := hr r (List.mem_cons_self ..)
      obtain ⟨ps, e2⟩ := ih (fun x hx => hr x (List.mem_cons_of_mem _ hx))
      exact ⟨q :: ps, by rw [e, e2]; rfl⟩
  obtain ⟨xs, e⟩ := this rs hg
  exact ⟨A, n, c, xs, rfl, hm, by rw [← hl, e, List.length_map], e ▸ hr⟩

/-! ### rows of ints -/
def intVals (l : List Int) : List Value := l.map (Value.int .i64)
/-- ints in a slice that starts a block -/
structure IntsAt (w : World) (b : Nat) (zs : List Int) : Prop where
  cells : ∀ j z, zs[j]? = some z → w.cell? ⟨b, j, none⟩ = some (.int .i64 z)
theorem intsAt_new (w : World) (zs : List Int) (t : TypeId) : IntsAt (w.alloc (.cells (intVals zs).toArray t)) w.heap.size zs := ⟨fun j z h => by
  have := (rowAt_new w (intVals zs) t).range j (.int .i64 z) (by unfold intVals; rw [List.getElem?_map, h]; rfl)
  rwa [Nat.zero_add] at this⟩

/-! ### a row that grows: rows of five cells, appended one by one to a slice of the call's own -/
theorem info_in : (Try.prog.info? 64).map (fun i => (i.zero, i.size, i.bytes)) = some (some (.agg #[.int .i64 0, .int .i64 0, .int .i64 0, .int .i64 0, .int .i64 0]), 5, 40) := by kernel_rfl
def cellsOf (xs : List Y.In) : List Value := xs.flatMap inL
theorem cellsOf_length (xs : List Y.In) : (cellsOf xs).length = xs.length * 5 := by
  induction xs with
  | nil => rfl
  | cons b t ih => unfold cellsOf at ih ⊢; rw [List.flatMap_cons, List.length_append, ih, inL_length, List.length_cons]; omega
theorem cellsOf_snoc (xs : List Y.In) (x : Y.In) : cellsOf (xs ++ [x]) = cellsOf xs ++ inL x := by unfold cellsOf; simp
theorem cellsOf_at : ∀ (xs : List Y.In) (i : Nat) (x : Y.In) (j : Nat) (v : Value), xs[i]? = some x → (inL x)[j]? = some v → (cellsOf xs)[i * 5 + j]? = some v
  | [], i, x, j, v, hx, _ => by simp at hx
  | y :: r, 0, x, j, v, hx, hv => by
    simp at hx
    subst hx
    have hj : j < 5 := (List.getElem?_eq_some_iff.1 hv).1
    unfold cellsOf
    rw [List.flatMap_cons, Nat.zero_mul, Nat.zero_add, List.getElem?_append_left (by rw [inL_length]; exact hj)]
    exact hv
  | y :: r, i + 1, x, j, v, hx, hv => by
    have := cellsOf_at r i x j v (by simpa using hx) hv
    unfold cellsOf at this ⊢
    rw [List.flatMap_cons, List.getElem?_append_right (by rw [inL_length]; omega), inL_length, show (i + 1) * 5 + j - 5 = i * 5 + j by omega]
    exact this
/-- what a call owns are instructions that lie there -/
theorem owns_ins {w : World} {base : Nat} {t : TypeId} {A : Option Addr} {n c : Nat} {xs : List Y.In} (h : w.ownsRow base t 5 (.slice A n c) n (cellsOf xs)) (hn : n = xs.length) : InsAt w A n xs := ⟨hn.symm, ⟨fun h0 => by
  rw [List.length_map] at h0
  obtain ⟨h1, h2⟩ := h
  rcases h2 with ⟨e, e2⟩ | ⟨g, cap, cur, e, hb, hg, _, _, hsz, htk⟩
  · exfalso; omega
  · injection e with e _ _
    refine ⟨g, 0, e, (Array.getElem?_eq_some_iff.1 hg).1, fun i x hxi j v hv => ?_⟩
    rw [List.getElem?_map] at hxi
    obtain ⟨b, hbi, rfl⟩ := Option.map_eq_some_iff.1 hxi
    have hf := cellsOf_at xs i b j v hbi hv
    rw [← htk] at hf
    have hlt : i * 5 + j < n * 5 := by
      have := (List.getElem?_eq_some_iff.1 hf).1
      rw [List.length_take] at this; omega
    rw [List.getElem?_take_of_lt hlt] at hf
    simp only [World.cell?, hg, Nat.zero_add]
    simp only [Option.isSome_none, Bool.false_eq_true, if_false]
    rw [← Array.getElem?_toList]
    exact hf⟩⟩
/-- between the rounds of a loop that appends: its own row, and nothing else that was there is changed -/
structure GrS (w0 : World) (t : TypeId) (l : Value) (xs : List Y.In) (W : World) : Prop where
  own : W.ownsRow w0.heap.size t 5 l xs.length (cellsOf xs)
  bel : Below w0.heap.size w0 W
theorem grS_start (w : World) (t : TypeId) : GrS w t (.slice none 0 0) [] w := ⟨⟨rfl, Or.inl ⟨rfl, rfl⟩⟩, Below.refl _ _⟩
theorem GrS.call {w0 : World} {t : TypeId} {l : Value} {xs : List Y.In} {W W' : World} (k : GrS w0 t l xs W) (hb : Below W.heap.size W W') : GrS w0 t l xs W' := ⟨owns_below k.own hb, k.bel.trans (hb.mono k.bel.size)⟩
theorem GrS.grow {w0 : World} {t : TypeId} {l l' : Value} {xs : List Y.In} {x : Y.In} {W W' : World} (k : GrS w0 t l xs W) (hg : W.grownBy W' l.ownBlock) (hown : W'.ownsRow w0.heap.size t 5 l' (xs.length + 1) (cellsOf xs ++ inL x)) : GrS w0 t l' (xs ++ [x]) W' where
  own := by
    rw [cellsOf_snoc, List.length_append]
    exact hown
  bel := k.bel.grown hg k.bel.size (fun j hj => (k.own.lt j hj).1)
end Go.Proofs.Ythngbakbiocadaa.Yq

/-
  The project's own usesOf, partRight, isShift, isRight, HasImm, IsJump.
-/
namespace Go.Proofs.Ythngbakbiocadaa.Yq
set_option maxRecDepth 100000
open Go.RowKit Go.Maps

theorem usesT : RowT 92 4 := ⟨⟨_, Try.underlying92, rfl⟩, by kernel_rfl⟩
def useL (o : Int) : List Value := [.bool (Y.known o && Y.useDst o), .bool (Y.known o && Y.useSrc o), .bool (Y.known o && Y.useOff o), .bool (Y.known o && Y.useImm o)]
theorem useL_one (o : Int) : ∀ v ∈ useL o, v.oneCell' = true := by
  intro v hv
  simp only [useL, List.mem_cons, List.not_mem_nil, or_false] at hv
  rcases hv with rfl | rfl | rfl | rfl <;> rfl
def useB (a b c d : Bool) : List Value := [.bool a, .bool b, .bool c, .bool d]
theorem useB_one (a b c d : Bool) : ∀ v ∈ useB a b c d, v.oneCell' = true := by
  intro v hv
  simp only [useB, List.mem_cons, List.not_mem_nil, or_false] at hv
  rcases hv with rfl | rfl | rfl | rfl <;> rfl
theorem use_not {o : Int} (h : Y.known o = false) : useL o = useB false false false false := by unfold useL useB; rw [h]; rfl
/-- all that one can be -/
theorem uses_is (o : Int) (a b c d k : Bool) (h : (Y.known o = k) ∧ (k && Y.useDst o) = a ∧ (k && Y.useSrc o) = b ∧ (k && Y.useOff o) = c ∧ (k && Y.useImm o) = d) : (.tuple #[.agg (useB a b c d).toArray, .bool k] : Value) = .tuple #[.agg (useL o).toArray, .bool (Y.known o)] := by
  obtain ⟨h1, h2, h3, h4, h5⟩ := h
  unfold useL useB
  rw [h1, h2, h3, h4, h5]
set_option maxRecDepth 100000 in
set_option maxHeartbeats 4000000 in
theorem usesOf_any (o : Int) (w : World) : Calls Try.prog 38 #[.int .i64 o] w fun e w' => e = .returned (.tuple #[.agg (useL o).toArray, .bool (Y.known o)]) ∧ Below w.heap.size w w' := by
  go_enter Try.func38, Try.ntmps38
  go_wp2
  all_goals
    first
      | (refine bodyPost_ret (results_row2 (vs := useB true true false false) usesT _ 2 3 rfl _ (rowAt_new w _ _) rfl rfl rfl) rfl ⟨congrArg _ (uses_is o true true false false true ?_), (Below.refl _ _).alloc (Nat.le_refl _) _⟩; simp only [beq_iff_eq] at *; subst_vars; decide)
      | (refine bodyPost_ret (results_row2 (vs := useB true false false true) usesT _ 2 3 rfl _ (rowAt_new w _ _) rfl rfl rfl) rfl ⟨congrArg _ (uses_is o true false false true true ?_), (Below.refl _ _).alloc (Nat.le_refl _) _⟩; simp only [beq_iff_eq] at *; subst_vars; decide)
      | (refine bodyPost_ret (results_row2 (vs := useB false false true false) usesT _ 2 3 rfl _ (rowAt_new w _ _) rfl rfl rfl) rfl ⟨congrArg _ (uses_is o false false true false true ?_), (Below.refl _ _).alloc (Nat.le_refl _) _⟩; simp only [beq_iff_eq] at *; subst_vars; decide)
      | (refine bodyPost_ret (results_row2 (vs := useB true true true false) usesT _ 2 3 rfl _ (rowAt_new w _ _) rfl rfl rfl) rfl ⟨congrArg _ (uses_is o true true true false true ?_), (Below.refl _ _).alloc (Nat.le_refl _) _⟩; simp only [beq_iff_eq] at *; subst_vars; decide)
      | (refine bodyPost_ret (results_row2 (vs := useB true false true true) usesT _ 2 3 rfl _ (rowAt_new w _ _) rfl rfl rfl) rfl ⟨congrArg _ (uses_is o true false true true true ?_), (Below.refl _ _).alloc (Nat.le_refl _) _⟩; simp only [beq_iff_eq] at *; subst_vars; decide)
      | (refine bodyPost_ret (results_row2 (vs := useB true false true false) usesT _ 2 3 rfl _ (rowAt_new w _ _) rfl rfl rfl) rfl ⟨congrArg _ (uses_is o true false true false true ?_), (Below.refl _ _).alloc (Nat.le_refl _) _⟩; simp only [beq_iff_eq] at *; subst_vars; decide)
      | (refine bodyPost_ret (results_row2 (vs := useB false true true false) usesT _ 2 3 rfl _ (rowAt_new w _ _) rfl rfl rfl) rfl ⟨congrArg _ (uses_is o false true true false true ?_), (Below.refl _ _).alloc (Nat.le_refl _) _⟩; simp only [beq_iff_eq] at *; subst_vars; decide)
      | (refine bodyPost_ret (results_row2 (vs := useB false false false true) usesT _ 2 3 rfl _ (rowAt_new w _ _) rfl rfl rfl) rfl ⟨congrArg _ (uses_is o false false false true true ?_), (Below.refl _ _).alloc (Nat.le_refl _) _⟩; simp only [beq_iff_eq] at *; subst_vars; decide)
      | (refine bodyPost_ret (results_row2 (vs := useB false false false false) usesT _ 2 3 rfl _ (rowAt_new w _ _) rfl rfl rfl) rfl ⟨congrArg _ (uses_is o false false false false true ?_), (Below.refl _ _).alloc (Nat.le_refl _) _⟩; simp only [beq_iff_eq] at *; subst_vars; decide)
      | (refine bodyPost_ret (results_row2 (vs := useB false false false false) usesT _ 2 3 rfl _ (rowAt_new w _ _) rfl rfl rfl) rfl ⟨congrArg _ (uses_is o false false false false false ⟨?_, rfl, rfl, rfl, rfl⟩), (Below.refl _ _).alloc (Nat.le_refl _) _⟩; unfold Y.known; refine decide_eq_false ?_; simp at *; omega)
end Go.Proofs.Ythngbakbiocadaa.Yq

/-
  The document's own among, Known, HasImm.
-/
namespace Go.Proofs.Ythngbakbiocadaa.Yq
set_option maxRecDepth 100000
open Go.RowKit

theorem mem_take (n : Int) (zs : List Int) (k : Nat) (z : Int) (h : zs[k]? = some z) : Y.mem n (zs.take (k + 1)) = (Y.mem n (zs.take k) || z == n) := by
  obtain ⟨hk, he⟩ := List.getElem?_eq_some_iff.1 h
  rw [List.take_succ_eq_append_getElem hk, he]
  unfold Y.mem
  rw [List.any_append]
  simp
theorem mem_there (n : Int) (zs : List Int) (k : Nat) (z : Int) (h : zs[k]? = some z) (he : (z == n) = true) : Y.mem n zs = true := by
  unfold Y.mem
  rw [List.any_eq_true]
  exact ⟨z, List.mem_of_getElem? h, he⟩
end Go.Proofs.Ythngbakbiocadaa.Yq

/-
  Two great tests of the document's Right, each region by itself.
-/
namespace Go.Proofs.Ythngbakbiocadaa.Yq
set_option maxRecDepth 100000
open Go.RowKit

/-- a region of a body, by its number -/
def findRegion (n : Nat) : Code → Option Code
  | .region i ops d => if i = n then some (.region i ops d) else none
  | .seq a b => match findRegion n a with
    | some c => some c
    | none => findRegion n b
  | .cond _ a b => match findRegion n a with
    | some c => some c
    | none => findRegion n b
  | .block _ c => findRegion n c
  | .loop c => findRegion n c
  | .scope c => findRegion n c
  | _ => none
noncomputable def regionOf (f : Func) (n : Nat) : Code := ((f.body.bind (findRegion n)).getD .skip)
end Go.Proofs.Ythngbakbiocadaa.Yq

/-
  The document's own Right.
-/
namespace Go.Proofs.Ythngbakbiocadaa.Yq
set_option maxRecDepth 100000
open Go.RowKit

/-- the instruction, boxed, and nothing else changed -/
structure BoxS (w0 : World) (B : Nat) (x : Y.In) (W : World) : Prop where
  row : RowAt W B (inL x)
  bel : Below w0.heap.size w0 W
theorem BoxS.call {w0 : World} {B : Nat} {x : Y.In} {W W' : World} (k : BoxS w0 B x W) (hb : Below W.heap.size W W') : BoxS w0 B x W' := ⟨RowAt.step k.row hb, k.bel.trans (hb.mono k.bel.size)⟩
theorem BoxS.cells {w0 : World} {B : Nat} {x : Y.In} {W : World} (k : BoxS w0 B x W) : W.cell? ⟨B, 0, none⟩ = some (.int .i64 x.op) ∧ W.cell? ⟨B, 1, none⟩ = some (.int .i64 x.dst) ∧ W.cell? ⟨B, 2, none⟩ = some (.int .i64 x.src) ∧ W.cell? ⟨B, 3, none⟩ = some (.int .i64 x.off) ∧ W.cell? ⟨B, 4, none⟩ = some (.int .i64 x.imm) :=
  ⟨k.row.cell 0 _ rfl, k.row.cell 1 _ rfl, k.row.cell 2 _ rfl, k.row.cell 3 _ rfl, k.row.cell 4 _ rfl⟩
theorem boxS_new (w : World) (x : Y.In) (t : TypeId) : BoxS w w.heap.size x (w.alloc (.cells #[.int .i64 x.op, .int .i64 x.dst, .int .i64 x.src, .int .i64 x.off, .int .i64 x.imm] t)) := ⟨rowAt_new w (inL x) t, (Below.refl _ _).alloc (Nat.le_refl _) _⟩
theorem not_not_eq (a : Bool) : (!a) = !a := rfl
theorem imp_dst (u : Bool) (x : Int) (h : u = true) : Y.inB u x 0 7 = decide (0 ≤ x ∧ x ≤ 7) := by subst h; rfl

/-- the walk's last test: a shift's Imm -/
def shiftB (o m : Int) : Bool := (!(o == 26 || o == 27)) || decide (0 ≤ m ∧ m ≤ 63)
theorem right_eq (x : Y.In) : Y.right x = (Y.known x.op && (Y.inB (Y.useDst x.op) x.dst 0 7 && Y.inB (Y.useSrc x.op) x.src 0 7) && (Y.inB (Y.useOff x.op) x.off (-32768) 32767 && Y.inB (Y.useImm x.op) x.imm (-2147483648) 2147483647) && shiftB x.op x.imm) := by
  unfold Y.right shiftB
  simp only [Bool.and_assoc]
end Go.Proofs.Ythngbakbiocadaa.Yq

/-
  Lists of instructions: the document's All and Same, the law's Plain.
-/
namespace Go.Proofs.Ythngbakbiocadaa.Yq
set_option maxRecDepth 100000
open Go.RowKit Go.Maps

theorem wpQuiet_at {ops : Array Oper} {rest : List Oper} {op : Oper} {a : Act} {Q : Act → Prop} {C : World → Prop} {t : TypeId} {n b o : Nat} {vs : List Value} (ht : RowT t n) (hl : vs.length = n) (x : Operand) (ho : op.op = .load t x) (hx : a.eval x = .pointer (some ⟨b, o, none⟩)) (hw : Region.wanted op (yielded ops a.tmps) = true)
    (hC : ∀ w, C w → w.rangeAt b o vs) (h : Wq ops C Q rest (a.put op.dst (.agg vs.toArray))) : Wq ops C Q (op :: rest) a := by
  refine wq_take (.agg vs.toArray) hw (fun w hc => ?_) h
  obtain ⟨d, hd, hr⟩ := ht.row
  unfold execOp
  have := run_loadVar_mid (P := Try.prog) w b o t vs d (hC w hc) hd hr (by rw [ht.info, hl])
  simp only [ho, hx, Instr.loadAt, Instr.sureAddr, Sem.run_bind, Sem.run_pure, Result.andThen_ok, this]

/-! ### instructions held against each other -/
theorem in_eq_iff (x y : Y.In) : x = y ↔ x.op = y.op ∧ x.dst = y.dst ∧ x.src = y.src ∧ x.off = y.off ∧ x.imm = y.imm := by
  obtain ⟨a, b, c, d, e⟩ := x
  obtain ⟨p, q, r, s, t⟩ := y
  simp
/-! ### All -/
theorem all_no (xs : List Y.In) (k : Nat) (x : Y.In) (h : xs[k]? = some x) (hx : Y.right x = false) : Y.all xs = false := by
  unfold Y.all
  rw [Bool.and_eq_false_iff]
  left
  rw [List.all_eq_false]
  exact ⟨x, List.mem_of_getElem? h, by rw [hx]; decide⟩
theorem all_more (xs : List Y.In) (k : Nat) (x : Y.In) (h : xs[k]? = some x) (hx : Y.right x = true) (ha : (xs.take k).all Y.right = true) : (xs.take (k + 1)).all Y.right = true := by
  obtain ⟨hk, he⟩ := List.getElem?_eq_some_iff.1 h
  rw [List.take_succ_eq_append_getElem hk, he, List.all_append, ha]
  simp [hx]
structure InsS (w0 : World) (A : Option Addr) (n : Nat) (xs : List Y.In) (W : World) : Prop where
  ins : InsAt W A n xs
  bel : Below w0.heap.size w0 W
theorem InsS.call {w0 : World} {A : Option Addr} {n : Nat} {xs : List Y.In} {W W' : World} (k : InsS w0 A n xs W) (hb : Below W.heap.size W W') : InsS w0 A n xs W' := ⟨k.ins.step hb, k.bel.trans (hb.mono k.bel.size)⟩
/-! ### Same -/
def SameC (w0 : World) (A B : Option Addr) (n : Nat) (xs ys : List Y.In) (W : World) : Prop := InsAt W A n xs ∧ InsAt W B n ys ∧ Below w0.heap.size w0 W
theorem SameC.call {w0 : World} {A B : Option Addr} {n : Nat} {xs ys : List Y.In} {W W' : World} (k : SameC w0 A B n xs ys W) (hb : Below W.heap.size W W') : SameC w0 A B n xs ys W' := ⟨k.1.step hb, k.2.1.step hb, k.2.2.trans (hb.mono k.2.2.size)⟩
theorem take_same (xs ys : List Y.In) (k : Nat) (x y : Y.In) (hx : xs[k]? = some x) (hy : ys[k]? = some y) (h : xs.take k = ys.take k) (e : x = y) : xs.take (k + 1) = ys.take (k + 1) := by
  obtain ⟨hk, he⟩ := List.getElem?_eq_some_iff.1 hx
  obtain ⟨hk2, he2⟩ := List.getElem?_eq_some_iff.1 hy
  rw [List.take_succ_eq_append_getElem hk, List.take_succ_eq_append_getElem hk2, he, he2, h, e]
theorem same_no (xs ys : List Y.In) (k : Nat) (x y : Y.In) (hx : xs[k]? = some x) (hy : ys[k]? = some y) (e : x ≠ y) : xs ≠ ys := fun h => by
  rw [h, hy] at hx
  injection hx with hx
  exact e hx.symm
end Go.Proofs.Ythngbakbiocadaa.Yq

/-
  The project's own partRight, isShift, isRight, HasImm, IsJump, Right.
-/
namespace Go.Proofs.Ythngbakbiocadaa.Yq
set_option maxRecDepth 100000
open Go.RowKit Go.Maps

theorem part_any (u : Bool) (n lo hi : Int) (w : World) : Calls Try.prog 39 #[.bool u, .int .i64 n, .int .i64 lo, .int .i64 hi] w fun e w' => e = .returned (.bool (Y.inB u n lo hi)) ∧ w = w' := by
  go_enter Try.func39, Try.ntmps39
  go_wp2
  all_goals
    go_ret
    refine ⟨ret_bool ?_, rfl⟩
    unfold Y.inB
    rw [Bool.eq_iff_iff]
    simp_all
    try omega
def shift (o : Int) : Bool := o == 26 || o == 27
theorem shift_any (o : Int) (w : World) : Calls Try.prog 40 #[.int .i64 o] w fun e w' => e = .returned (.bool (shift o)) ∧ w = w' := by
  go_enter Try.func40, Try.ntmps40
  go_wp2
  all_goals
    go_ret
    refine ⟨ret_bool ?_, rfl⟩
    unfold shift
    simp_all
theorem isJump_any (o : Int) (w : World) : Calls Try.prog 62 #[.int .i64 o] w fun e w' => e = .returned (.bool (Y.isJump o)) ∧ Below w.heap.size w w' := by
  have HB := Lib.hid (Below.refl w.heap.size w)
  go_enter Try.func62, Try.ntmps62
  go_wp2
  all_goals
    go_ret
    refine ⟨ret_bool ?_, HB.out⟩
    unfold Y.isJump
    rw [Bool.eq_iff_iff]
    simp
    try omega
theorem imm_eq (o : Int) : Y.hasImm o = ((Y.known o && Y.useImm o) && decide (o ≠ 64)) := by
  unfold Y.known Y.useImm Y.hasImm
  rw [Bool.eq_iff_iff]
  simp
  omega
set_option maxRecDepth 100000 in
theorem hasImm_any (o : Int) (w : World) : Calls Try.prog 77 #[.int .i64 o] w fun e w' => e = .returned (.bool (Y.hasImm o)) ∧ Below w.heap.size w w' := by
  have HU := Lib.hid (usesOf_any o w)
  have HE := Lib.hid (imm_eq o)
  unfold useL at HU
  generalize (Y.known o && Y.useDst o) = a at HU
  generalize (Y.known o && Y.useSrc o) = b at HU
  generalize (Y.known o && Y.useOff o) = c at HU
  generalize (Y.known o && Y.useImm o) = d at HU HE
  generalize Y.known o = k at HU
  go_enter Try.func77, Try.ntmps77
  cases d
  all_goals
    go_wp2_with (go_at_call 38; (with_reducible refine HU.out.mono ?_); rintro e w' ⟨rfl, hb⟩; have B := Lib.hid hb; clear hb)
    go_ret
    refine ⟨ret_bool ?_, B.out.alloc B.out.size _⟩
    rw [HE.out]
    rw [Bool.eq_iff_iff]
    simp
/-- the cells of what an Op uses, and of the instruction -/
theorem right_is (x : Y.In) : Y.right x = (Y.known x.op && Y.inB (Y.known x.op && Y.useDst x.op) x.dst 0 7 && Y.inB (Y.known x.op && Y.useSrc x.op) x.src 0 7 && Y.inB (Y.known x.op && Y.useOff x.op) x.off (-32768) 32767 && Y.inB (Y.known x.op && Y.useImm x.op) x.imm (-2147483648) 2147483647 && (!shift x.op || Y.inB true x.imm 0 63)) := by
  unfold Y.right shift
  cases Y.known x.op
  · simp
  · simp only [Bool.true_and]
    rfl
set_option maxRecDepth 100000 in
set_option maxHeartbeats 4000000 in
theorem isRight_any (x : Y.In) (w : World) : Calls Try.prog 27 #[inV x] w fun e w' => e = .returned (.bool (Y.right x)) ∧ Below w.heap.size w w' := by
  have HU := Lib.hid (fun w => usesOf_any x.op w)
  have HE := Lib.hid (right_is x)
  have HP := Lib.hid (fun u n lo hi w => part_any u n lo hi w)
  have HS := Lib.hid (fun w => shift_any x.op w)
  have S0 := Lib.hid (boxS_new w x 64)
  unfold useL at HU
  generalize (Y.known x.op && Y.useDst x.op) = a at HU HE
  generalize (Y.known x.op && Y.useSrc x.op) = b at HU HE
  generalize (Y.known x.op && Y.useOff x.op) = c at HU HE
  generalize (Y.known x.op && Y.useImm x.op) = d at HU HE
  generalize Y.known x.op = k at HU HE
  generalize shift x.op = sh at HS HE
  generalize Y.right x = r at HE ⊢
  unfold inV inL
  go_enter Try.func27, Try.ntmps27
  go_upto_region 1 with fail
  have S := S0
  clear S0
  generalize w.alloc (.cells #[.int .i64 x.op, .int .i64 x.dst, .int .i64 x.src, .int .i64 x.off, .int .i64 x.imm] 64) = W1 at S ⊢
  obtain ⟨c0, c1, c2, c3, c4⟩ := S.out.cells
  go_upto_region 2 with (go_at_call 38; (with_reducible refine (HU.out _).mono ?_); rintro e w2 ⟨rfl, hb⟩; have S2 := Lib.hid (S.out.call hb); clear hb S c0 c1 c2 c3 c4 HU)
  have S3 : Hid (BoxS w w.heap.size x (w2.alloc (.cells #[.bool a, .bool b, .bool c, .bool d] 92))) := Lib.hid (S2.out.call ((Below.refl _ _).alloc (Nat.le_refl _) _))
  have U : Hid (RowAt (w2.alloc (.cells #[.bool a, .bool b, .bool c, .bool d] 92)) w2.heap.size [.bool a, .bool b, .bool c, .bool d]) := Lib.hid (rowAt_new w2 _ _)
  generalize w2.alloc (.cells #[.bool a, .bool b, .bool c, .bool d] 92) = W3 at S3 U ⊢
  obtain ⟨c0, c1, c2, c3, c4⟩ := S3.out.cells
  have u0 := U.out.cell 0 _ rfl
  have u1 := U.out.cell 1 _ rfl
  have u2 := U.out.cell 2 _ rfl
  have u3 := U.out.cell 3 _ rfl
  generalize w2.heap.size = B2 at U u0 u1 u2 u3 ⊢
  clear U S2
  go_wp2_with (first
    | (go_at_call 39; (with_reducible refine (HP.out _ _ _ _ _).mono ?_); rintro e w' ⟨rfl, rfl⟩)
    | (go_at_call 40; (with_reducible refine (HS.out _).mono ?_); rintro e w' ⟨rfl, rfl⟩))
  all_goals
    go_ret
    refine ⟨ret_bool ?_, S3.out.bel⟩
    rw [HE.out]
    simp_all
end Go.Proofs.Ythngbakbiocadaa.Yq
