/- Texts of the proof. -/
import Derived.Test.YtagfoogfpabdfaaGreatTas
import Derived.Test.YtagfoogfpabdfaaGreatTar
import Derived.Test.YtagfoogfpabdfaaGreatTac
import Derived.Test.YtagfoogfpabdfaaGreatTao
import Derived.Test.YtagfoogfpabdfaaGreatTam
import Derived.Test.YtagfoogfpabdfaaGreatTal
import Derived.Test.YtagfoogfpabdfaaGreatTan
import Derived.Maps.AppendAt
set_option maxRecDepth 100000
set_option maxHeartbeats 16000000
namespace Go.Proofs.YtagfoogfpabdfaaGreat
end Go.Proofs.YtagfoogfpabdfaaGreat
set_option maxRecDepth 100000
namespace Go.Proofs.YtagfoogfpabdfaaGreat
open Go.RowKit Go.Maps
open Dk (av aa)
open Ii (Ino)
def yI (k a b c d:Int) (x y:ByteArray):List Value:=[.int .i64 k,.int .i64 a,.int .i64 b,.int .i64 c,.int .i64 d,.string x,.string y]
def aV (r:Int):List Value:=[.int .i64 r,.int .i64 0,.int .i64 0,.int .i64 0,.int .i64 0,.int .i64 0,.int .i64 0,.string ⟨#[]⟩,.slice none 0 0]
theorem bX (r:Int):∀ v∈aV r,v.oneCell'=true:=by
 intro v hv
 simp only [aV,List.mem_cons,List.not_mem_nil,or_false] at hv
 rcases hv with rfl | rfl | rfl | rfl | rfl | rfl | rfl | rfl | rfl <;> rfl
theorem bI:mN 36 9:=⟨⟨_,Tryz.underlying36,rfl⟩,by kernel_rfl⟩
theorem Hv:mN 31 7:=⟨⟨_,Tryz.underlying31,rfl⟩,by kernel_rfl⟩
theorem da {t:TypeId} {n:Nat} (ht:mN t n) {ops:Array Oper} {rest:List Oper} {op:Oper} {a:Act} {Q:Exit→Act→World→Prop} {w:World} {b o:Nat} {us vs:List Value} (k:au w b us) (hu:o+n≤us.length) (hl:vs.length=n) (ho1:∀ v∈vs,v.oneCell'=true) (hgd:op.guard=none) (x y:Operand) (ho:op.op=.store t x y)
  (hx:a.eval x=.pointer (some ⟨b,o,none⟩)) (hy:a.eval y=.agg vs.toArray) (hn:wpList Tryz.prog ops Q rest (a.put op.dst undef) (w.setCells b o vs)):wpList Tryz.prog ops Q (op::rest) a w:=
 wpList_store_mid hgd t x y ho b o vs.toArray hx hy (by
  rw [List.size_toArray,hl]
  intro j hj
  have:=k.free (o+j) (by omega)
  rwa [Nat.zero_add] at this) (by rw [ht.info,List.size_toArray,hl]) (all_oneCell_toArray ho1) (by simpa using hn)
theorem Lo.one {L:List Nat} {w0 w:World} {l:List (Nat × List Value)} (h:Lo L w0 l w) (k:Nat) (x:Nat × List Value) (hx:l[k]?=some x) (i:Nat) (v:Value) (us:List Value) (hi:i+1≤x.2.length) (hu:us=x.2.take i++[v]++x.2.drop (i+1)):Lo L w0 (l.set k (x.1,us)) (w.setCell ⟨x.1,i,Option.none⟩ v):=h.putAt k x hx i [v] us hi hu
theorem FQ (w:World):Calls Tryz.prog 41 #[.pointer none] w fun e w'=>e=.returned (.int .i64 5)∧Below w.heap.size w w':=(Jh w).mono fun e w' h=>⟨h.1,by rw [← h.2];exact Below.refl _ _⟩
def Me (w:World) (k a b c d:Int) (x y:ByteArray):World:=((w.alloc (.cells (yI k a b c d x y).toArray 31)).alloc (.cells (aV 0).toArray 36)).alloc (.cells (aV 0).toArray 36)
theorem dc (w:World) (k a b c d:Int) (x y:ByteArray):Lo [] w [(w.heap.size,yI k a b c d x y),(w.heap.size+1,aV 0),(w.heap.size+2,aV 0)] (Me w k a b c d x y):=((Lo.start (L:=[]) w (by simp)).alloc _ rfl (yI k a b c d x y) 31).alloc (w.heap.size+1) (by simp) (aV 0) 36 |>.alloc (w.heap.size+2) (by simp) (aV 0) 36
abbrev nM (k a b c d:Int) (x y:ByteArray):Value:=.agg #[.int .i64 k,.int .i64 a,.int .i64 b,.int .i64 c,.int .i64 d,.string x,.string y]
theorem ld0 (w:World)  (a b c d:Int) (x y:ByteArray):Calls Tryz.prog 10 #[.pointer none,nM 0 a b c d x y] w fun e w'=>e=.returned (.agg (aV 5).toArray)∧Below w.heap.size w w':=by
 have S0:=Lib.hid (dc w 0 a b c d x y)
 have c0:=(S0.out.get 0 _ rfl).cell 0 _ rfl
 have c1:=(S0.out.get 0 _ rfl).cell 1 _ rfl
 have c2:=(S0.out.get 0 _ rfl).cell 2 _ rfl
 have c3:=(S0.out.get 0 _ rfl).cell 3 _ rfl
 have c4:=(S0.out.get 0 _ rfl).cell 4 _ rfl
 have c5:=(S0.out.get 0 _ rfl).cell 5 _ rfl
 have c6:=(S0.out.get 0 _ rfl).cell 6 _ rfl
 go_enter Tryz.func10,Tryz.ntmps10
 go_wp2_with fail
 refine (CD _ _ _).mono ?_
 rintro e w1 ⟨rfl,hb⟩
 have S1:=Lib.hid (S0.out.below hb)
 clear hb
 clear S0 c0 c1 c2 c3 c4 c5 c6
 go_wp2_with (first
  | ((with_reducible refine da (o:=1) (vs:=aZ 0 Ii.zero) de (S1.out.get 2 _ rfl) ?_ ?_ (bq _ _) rfl (.tmp 20) (.tmp 18) rfl ?_ ?_ ?_);(exact (show 1+6≤9 by decide));(exact rfl);(exact rfl);(exact rfl);have S2:=Lib.hid (S1.out.putAt 2 _ rfl 1 (aZ 0 Ii.zero) (aV 0) (show 1+6≤9 by decide) rfl);have cc:=(S2.out.get 2 _ rfl).cell 0 _ rfl;have ff:=(S2.out.get 2 _ rfl).frozen 0 (show 0<9 by decide);have S3:=Lib.hid (S2.out.one 2 _ rfl 0 (.int .i64 5) (aV 5) (show 0+1≤9 by decide) rfl);clear S1)
  | (with_reducible refine af bI (S3.out.get 2 _ rfl) rfl rfl (.tmp 5) rfl rfl ?_)
  | ((with_reducible refine ak (vs:=aV 5) bI (S3.out.get 1 _ rfl) ?_ ?_ (bX _) rfl (.tmp 4) (.tmp 207) rfl ?_ ?_ ?_);(exact rfl);(exact rfl);(exact rfl);(exact rfl)))
 have S4:=Lib.hid (S3.out.put 1 _ rfl (aV 5) rfl)
 exact bodyPost_ret (aC bI _ 4 rfl _ (S4.out.get 1 _ rfl) rfl rfl) rfl ⟨rfl,S4.out.bel⟩
theorem ld1 (w:World)  (a b c d:Int) (x y:ByteArray):Calls Tryz.prog 10 #[.pointer none,nM 1 a b c d x y] w fun e w'=>e=.returned (.agg (aV 5).toArray)∧Below w.heap.size w w':=by
 have S0:=Lib.hid (dc w 1 a b c d x y)
 have c0:=(S0.out.get 0 _ rfl).cell 0 _ rfl
 have c1:=(S0.out.get 0 _ rfl).cell 1 _ rfl
 have c2:=(S0.out.get 0 _ rfl).cell 2 _ rfl
 have c3:=(S0.out.get 0 _ rfl).cell 3 _ rfl
 have c4:=(S0.out.get 0 _ rfl).cell 4 _ rfl
 have c5:=(S0.out.get 0 _ rfl).cell 5 _ rfl
 have c6:=(S0.out.get 0 _ rfl).cell 6 _ rfl
 go_enter Tryz.func10,Tryz.ntmps10
 go_wp2_with fail
 refine (zL _ _).mono ?_
 rintro e w1 ⟨rfl,hb⟩
 have S1:=Lib.hid (S0.out.below hb)
 clear hb
 clear S0 c0 c1 c2 c3 c4 c5 c6
 go_wp2_with (first
  | ((with_reducible refine da (o:=1) (vs:=aZ 0 Ii.zero) de (S1.out.get 2 _ rfl) ?_ ?_ (bq _ _) rfl (.tmp 30) (.tmp 28) rfl ?_ ?_ ?_);(exact (show 1+6≤9 by decide));(exact rfl);(exact rfl);(exact rfl);have S2:=Lib.hid (S1.out.putAt 2 _ rfl 1 (aZ 0 Ii.zero) (aV 0) (show 1+6≤9 by decide) rfl);have cc:=(S2.out.get 2 _ rfl).cell 0 _ rfl;have ff:=(S2.out.get 2 _ rfl).frozen 0 (show 0<9 by decide);have S3:=Lib.hid (S2.out.one 2 _ rfl 0 (.int .i64 5) (aV 5) (show 0+1≤9 by decide) rfl);clear S1)
  | (with_reducible refine af bI (S3.out.get 2 _ rfl) rfl rfl (.tmp 5) rfl rfl ?_)
  | ((with_reducible refine ak (vs:=aV 5) bI (S3.out.get 1 _ rfl) ?_ ?_ (bX _) rfl (.tmp 4) (.tmp 207) rfl ?_ ?_ ?_);(exact rfl);(exact rfl);(exact rfl);(exact rfl)))
 have S4:=Lib.hid (S3.out.put 1 _ rfl (aV 5) rfl)
 exact bodyPost_ret (aC bI _ 4 rfl _ (S4.out.get 1 _ rfl) rfl rfl) rfl ⟨rfl,S4.out.bel⟩
theorem ld2 (w:World)  (a b c d:Int) (x y:ByteArray):Calls Tryz.prog 10 #[.pointer none,nM 2 a b c d x y] w fun e w'=>e=.returned (.agg (aV 5).toArray)∧Below w.heap.size w w':=by
 have S0:=Lib.hid (dc w 2 a b c d x y)
 have c0:=(S0.out.get 0 _ rfl).cell 0 _ rfl
 have c1:=(S0.out.get 0 _ rfl).cell 1 _ rfl
 have c2:=(S0.out.get 0 _ rfl).cell 2 _ rfl
 have c3:=(S0.out.get 0 _ rfl).cell 3 _ rfl
 have c4:=(S0.out.get 0 _ rfl).cell 4 _ rfl
 have c5:=(S0.out.get 0 _ rfl).cell 5 _ rfl
 have c6:=(S0.out.get 0 _ rfl).cell 6 _ rfl
 go_enter Tryz.func10,Tryz.ntmps10
 go_wp2_with fail
 refine (FW _ _ _).mono ?_
 rintro e w1 ⟨rfl,hb⟩
 have S1:=Lib.hid (S0.out.below hb)
 clear hb
 clear S0 c0 c1 c2 c3 c4 c5 c6
 have S2:=Lib.hid S1.out
 have cc:=(S2.out.get 2 _ rfl).cell 0 _ rfl
 have ff:=(S2.out.get 2 _ rfl).frozen 0 (show 0<9 by decide)
 have S3:=Lib.hid (S2.out.one 2 _ rfl 0 (.int .i64 5) (aV 5) (show 0+1≤9 by decide) rfl)
 clear S1
 go_wp2_with (first
  | (with_reducible refine af bI (S3.out.get 2 _ rfl) rfl rfl (.tmp 5) rfl rfl ?_)
  | ((with_reducible refine ak (vs:=aV 5) bI (S3.out.get 1 _ rfl) ?_ ?_ (bX _) rfl (.tmp 4) (.tmp 207) rfl ?_ ?_ ?_);(exact rfl);(exact rfl);(exact rfl);(exact rfl)))
 have S4:=Lib.hid (S3.out.put 1 _ rfl (aV 5) rfl)
 exact bodyPost_ret (aC bI _ 4 rfl _ (S4.out.get 1 _ rfl) rfl rfl) rfl ⟨rfl,S4.out.bel⟩
theorem ld3 (w:World)  (a b c d:Int) (x y:ByteArray):Calls Tryz.prog 10 #[.pointer none,nM 3 a b c d x y] w fun e w'=>e=.returned (.agg (aV 5).toArray)∧Below w.heap.size w w':=by
 have S0:=Lib.hid (dc w 3 a b c d x y)
 have c0:=(S0.out.get 0 _ rfl).cell 0 _ rfl
 have c1:=(S0.out.get 0 _ rfl).cell 1 _ rfl
 have c2:=(S0.out.get 0 _ rfl).cell 2 _ rfl
 have c3:=(S0.out.get 0 _ rfl).cell 3 _ rfl
 have c4:=(S0.out.get 0 _ rfl).cell 4 _ rfl
 have c5:=(S0.out.get 0 _ rfl).cell 5 _ rfl
 have c6:=(S0.out.get 0 _ rfl).cell 6 _ rfl
 go_enter Tryz.func10,Tryz.ntmps10
 go_wp2_with fail
 refine (FV _ _ _).mono ?_
 rintro e w1 ⟨rfl,hb⟩
 have S1:=Lib.hid (S0.out.below hb)
 clear hb
 clear S0 c0 c1 c2 c3 c4 c5 c6
 have S2:=Lib.hid S1.out
 have cc:=(S2.out.get 2 _ rfl).cell 0 _ rfl
 have ff:=(S2.out.get 2 _ rfl).frozen 0 (show 0<9 by decide)
 have S3:=Lib.hid (S2.out.one 2 _ rfl 0 (.int .i64 5) (aV 5) (show 0+1≤9 by decide) rfl)
 clear S1
 go_wp2_with (first
  | (with_reducible refine af bI (S3.out.get 2 _ rfl) rfl rfl (.tmp 5) rfl rfl ?_)
  | ((with_reducible refine ak (vs:=aV 5) bI (S3.out.get 1 _ rfl) ?_ ?_ (bX _) rfl (.tmp 4) (.tmp 207) rfl ?_ ?_ ?_);(exact rfl);(exact rfl);(exact rfl);(exact rfl)))
 have S4:=Lib.hid (S3.out.put 1 _ rfl (aV 5) rfl)
 exact bodyPost_ret (aC bI _ 4 rfl _ (S4.out.get 1 _ rfl) rfl rfl) rfl ⟨rfl,S4.out.bel⟩
theorem ld4 (w:World)  (a b c d:Int) (x y:ByteArray):Calls Tryz.prog 10 #[.pointer none,nM 4 a b c d x y] w fun e w'=>e=.returned (.agg (aV 5).toArray)∧Below w.heap.size w w':=by
 have S0:=Lib.hid (dc w 4 a b c d x y)
 have c0:=(S0.out.get 0 _ rfl).cell 0 _ rfl
 have c1:=(S0.out.get 0 _ rfl).cell 1 _ rfl
 have c2:=(S0.out.get 0 _ rfl).cell 2 _ rfl
 have c3:=(S0.out.get 0 _ rfl).cell 3 _ rfl
 have c4:=(S0.out.get 0 _ rfl).cell 4 _ rfl
 have c5:=(S0.out.get 0 _ rfl).cell 5 _ rfl
 have c6:=(S0.out.get 0 _ rfl).cell 6 _ rfl
 go_enter Tryz.func10,Tryz.ntmps10
 go_wp2_with fail
 refine (CB _ _ _).mono ?_
 rintro e w1 ⟨rfl,hb⟩
 have S1:=Lib.hid (S0.out.below hb)
 clear hb
 clear S0 c0 c1 c2 c3 c4 c5 c6
 have S2:=Lib.hid S1.out
 have cc:=(S2.out.get 2 _ rfl).cell 0 _ rfl
 have ff:=(S2.out.get 2 _ rfl).frozen 0 (show 0<9 by decide)
 have S3:=Lib.hid (S2.out.one 2 _ rfl 0 (.int .i64 5) (aV 5) (show 0+1≤9 by decide) rfl)
 clear S1
 go_wp2_with (first
  | (with_reducible refine af bI (S3.out.get 2 _ rfl) rfl rfl (.tmp 5) rfl rfl ?_)
  | ((with_reducible refine ak (vs:=aV 5) bI (S3.out.get 1 _ rfl) ?_ ?_ (bX _) rfl (.tmp 4) (.tmp 207) rfl ?_ ?_ ?_);(exact rfl);(exact rfl);(exact rfl);(exact rfl)))
 have S4:=Lib.hid (S3.out.put 1 _ rfl (aV 5) rfl)
 exact bodyPost_ret (aC bI _ 4 rfl _ (S4.out.get 1 _ rfl) rfl rfl) rfl ⟨rfl,S4.out.bel⟩
theorem ld5 (w:World)  (a b c d:Int) (x y:ByteArray):Calls Tryz.prog 10 #[.pointer none,nM 5 a b c d x y] w fun e w'=>e=.returned (.agg (aV 5).toArray)∧Below w.heap.size w w':=by
 have S0:=Lib.hid (dc w 5 a b c d x y)
 have c0:=(S0.out.get 0 _ rfl).cell 0 _ rfl
 have c1:=(S0.out.get 0 _ rfl).cell 1 _ rfl
 have c2:=(S0.out.get 0 _ rfl).cell 2 _ rfl
 have c3:=(S0.out.get 0 _ rfl).cell 3 _ rfl
 have c4:=(S0.out.get 0 _ rfl).cell 4 _ rfl
 have c5:=(S0.out.get 0 _ rfl).cell 5 _ rfl
 have c6:=(S0.out.get 0 _ rfl).cell 6 _ rfl
 go_enter Tryz.func10,Tryz.ntmps10
 go_wp2_with fail
 refine (CE _ _ _ _ _).mono ?_
 rintro e w1 ⟨rfl,hb⟩
 have S1:=Lib.hid (S0.out.below hb)
 clear hb
 clear S0 c0 c1 c2 c3 c4 c5 c6
 go_wp2_with (first
  | ((with_reducible refine da (o:=1) (vs:=aZ 0 Ii.zero) de (S1.out.get 2 _ rfl) ?_ ?_ (bq _ _) rfl (.tmp 70) (.tmp 68) rfl ?_ ?_ ?_);(exact (show 1+6≤9 by decide));(exact rfl);(exact rfl);(exact rfl);have S2:=Lib.hid (S1.out.putAt 2 _ rfl 1 (aZ 0 Ii.zero) (aV 0) (show 1+6≤9 by decide) rfl);have cc:=(S2.out.get 2 _ rfl).cell 0 _ rfl;have ff:=(S2.out.get 2 _ rfl).frozen 0 (show 0<9 by decide);have S3:=Lib.hid (S2.out.one 2 _ rfl 0 (.int .i64 5) (aV 5) (show 0+1≤9 by decide) rfl);clear S1)
  | (with_reducible refine af bI (S3.out.get 2 _ rfl) rfl rfl (.tmp 5) rfl rfl ?_)
  | ((with_reducible refine ak (vs:=aV 5) bI (S3.out.get 1 _ rfl) ?_ ?_ (bX _) rfl (.tmp 4) (.tmp 207) rfl ?_ ?_ ?_);(exact rfl);(exact rfl);(exact rfl);(exact rfl)))
 have S4:=Lib.hid (S3.out.put 1 _ rfl (aV 5) rfl)
 exact bodyPost_ret (aC bI _ 4 rfl _ (S4.out.get 1 _ rfl) rfl rfl) rfl ⟨rfl,S4.out.bel⟩
theorem ld6 (w:World)  (a b c d:Int) (x y:ByteArray):Calls Tryz.prog 10 #[.pointer none,nM 6 a b c d x y] w fun e w'=>e=.returned (.agg (aV 5).toArray)∧Below w.heap.size w w':=by
 have S0:=Lib.hid (dc w 6 a b c d x y)
 have c0:=(S0.out.get 0 _ rfl).cell 0 _ rfl
 have c1:=(S0.out.get 0 _ rfl).cell 1 _ rfl
 have c2:=(S0.out.get 0 _ rfl).cell 2 _ rfl
 have c3:=(S0.out.get 0 _ rfl).cell 3 _ rfl
 have c4:=(S0.out.get 0 _ rfl).cell 4 _ rfl
 have c5:=(S0.out.get 0 _ rfl).cell 5 _ rfl
 have c6:=(S0.out.get 0 _ rfl).cell 6 _ rfl
 go_enter Tryz.func10,Tryz.ntmps10
 go_wp2_with fail
 refine (FT _ _ _ _ _).mono ?_
 rintro e w1 ⟨rfl,hb⟩
 have S1:=Lib.hid (S0.out.below hb)
 clear hb
 clear S0 c0 c1 c2 c3 c4 c5 c6
 go_wp2_with (first
  | ((with_reducible refine da (o:=1) (vs:=aZ 0 Ii.zero) de (S1.out.get 2 _ rfl) ?_ ?_ (bq _ _) rfl (.tmp 86) (.tmp 84) rfl ?_ ?_ ?_);(exact (show 1+6≤9 by decide));(exact rfl);(exact rfl);(exact rfl);have S2:=Lib.hid (S1.out.putAt 2 _ rfl 1 (aZ 0 Ii.zero) (aV 0) (show 1+6≤9 by decide) rfl);have cc:=(S2.out.get 2 _ rfl).cell 0 _ rfl;have ff:=(S2.out.get 2 _ rfl).frozen 0 (show 0<9 by decide);have S3:=Lib.hid (S2.out.one 2 _ rfl 0 (.int .i64 5) (aV 5) (show 0+1≤9 by decide) rfl);clear S1)
  | (with_reducible refine af bI (S3.out.get 2 _ rfl) rfl rfl (.tmp 5) rfl rfl ?_)
  | ((with_reducible refine ak (vs:=aV 5) bI (S3.out.get 1 _ rfl) ?_ ?_ (bX _) rfl (.tmp 4) (.tmp 207) rfl ?_ ?_ ?_);(exact rfl);(exact rfl);(exact rfl);(exact rfl)))
 have S4:=Lib.hid (S3.out.put 1 _ rfl (aV 5) rfl)
 exact bodyPost_ret (aC bI _ 4 rfl _ (S4.out.get 1 _ rfl) rfl rfl) rfl ⟨rfl,S4.out.bel⟩
theorem ld7 (w:World)  (a b c d:Int) (x y:ByteArray):Calls Tryz.prog 10 #[.pointer none,nM 7 a b c d x y] w fun e w'=>e=.returned (.agg (aV 5).toArray)∧Below w.heap.size w w':=by
 have S0:=Lib.hid (dc w 7 a b c d x y)
 have c0:=(S0.out.get 0 _ rfl).cell 0 _ rfl
 have c1:=(S0.out.get 0 _ rfl).cell 1 _ rfl
 have c2:=(S0.out.get 0 _ rfl).cell 2 _ rfl
 have c3:=(S0.out.get 0 _ rfl).cell 3 _ rfl
 have c4:=(S0.out.get 0 _ rfl).cell 4 _ rfl
 have c5:=(S0.out.get 0 _ rfl).cell 5 _ rfl
 have c6:=(S0.out.get 0 _ rfl).cell 6 _ rfl
 go_enter Tryz.func10,Tryz.ntmps10
 go_wp2_with fail
 refine (zK _ _ _ _ _).mono ?_
 rintro e w1 ⟨rfl,hb⟩
 have S1:=Lib.hid (S0.out.below hb)
 clear hb
 clear S0 c0 c1 c2 c3 c4 c5 c6
 go_wp2_with (first
  | ((with_reducible refine da (o:=1) (vs:=aZ 0 Ii.zero) de (S1.out.get 2 _ rfl) ?_ ?_ (bq _ _) rfl (.tmp 102) (.tmp 100) rfl ?_ ?_ ?_);(exact (show 1+6≤9 by decide));(exact rfl);(exact rfl);(exact rfl);have S2:=Lib.hid (S1.out.putAt 2 _ rfl 1 (aZ 0 Ii.zero) (aV 0) (show 1+6≤9 by decide) rfl);have cc:=(S2.out.get 2 _ rfl).cell 0 _ rfl;have ff:=(S2.out.get 2 _ rfl).frozen 0 (show 0<9 by decide);have S3:=Lib.hid (S2.out.one 2 _ rfl 0 (.int .i64 5) (aV 5) (show 0+1≤9 by decide) rfl);clear S1)
  | (with_reducible refine af bI (S3.out.get 2 _ rfl) rfl rfl (.tmp 5) rfl rfl ?_)
  | ((with_reducible refine ak (vs:=aV 5) bI (S3.out.get 1 _ rfl) ?_ ?_ (bX _) rfl (.tmp 4) (.tmp 207) rfl ?_ ?_ ?_);(exact rfl);(exact rfl);(exact rfl);(exact rfl)))
 have S4:=Lib.hid (S3.out.put 1 _ rfl (aV 5) rfl)
 exact bodyPost_ret (aC bI _ 4 rfl _ (S4.out.get 1 _ rfl) rfl rfl) rfl ⟨rfl,S4.out.bel⟩
theorem ld8 (w:World)  (a b c d:Int) (x y:ByteArray):Calls Tryz.prog 10 #[.pointer none,nM 8 a b c d x y] w fun e w'=>e=.returned (.agg (aV 5).toArray)∧Below w.heap.size w w':=by
 have S0:=Lib.hid (dc w 8 a b c d x y)
 have c0:=(S0.out.get 0 _ rfl).cell 0 _ rfl
 have c1:=(S0.out.get 0 _ rfl).cell 1 _ rfl
 have c2:=(S0.out.get 0 _ rfl).cell 2 _ rfl
 have c3:=(S0.out.get 0 _ rfl).cell 3 _ rfl
 have c4:=(S0.out.get 0 _ rfl).cell 4 _ rfl
 have c5:=(S0.out.get 0 _ rfl).cell 5 _ rfl
 have c6:=(S0.out.get 0 _ rfl).cell 6 _ rfl
 go_enter Tryz.func10,Tryz.ntmps10
 go_wp2_with fail
 refine (vU _ _).mono ?_
 rintro e w1 ⟨rfl,hb⟩
 have S1:=Lib.hid (S0.out.below hb)
 clear hb
 clear S0 c0 c1 c2 c3 c4 c5 c6
 have c1:=(S1.out.get 2 _ rfl).cell 7 _ rfl
 have f1:=(S1.out.get 2 _ rfl).frozen 7 (show 7<9 by decide)
 have S2:=Lib.hid (S1.out.one 2 _ rfl 7 (.string ⟨#[]⟩) (aV 0) (show 7+1≤9 by decide) rfl)
 have cc:=(S2.out.get 2 _ rfl).cell 0 _ rfl
 have ff:=(S2.out.get 2 _ rfl).frozen 0 (show 0<9 by decide)
 have S3:=Lib.hid (S2.out.one 2 _ rfl 0 (.int .i64 5) (aV 5) (show 0+1≤9 by decide) rfl)
 clear S1
 go_wp2_with (first
  | (with_reducible refine af bI (S3.out.get 2 _ rfl) rfl rfl (.tmp 5) rfl rfl ?_)
  | ((with_reducible refine ak (vs:=aV 5) bI (S3.out.get 1 _ rfl) ?_ ?_ (bX _) rfl (.tmp 4) (.tmp 207) rfl ?_ ?_ ?_);(exact rfl);(exact rfl);(exact rfl);(exact rfl)))
 have S4:=Lib.hid (S3.out.put 1 _ rfl (aV 5) rfl)
 exact bodyPost_ret (aC bI _ 4 rfl _ (S4.out.get 1 _ rfl) rfl rfl) rfl ⟨rfl,S4.out.bel⟩
theorem ld9 (w:World)  (a b c d:Int) (x y:ByteArray):Calls Tryz.prog 10 #[.pointer none,nM 9 a b c d x y] w fun e w'=>e=.returned (.agg (aV 5).toArray)∧Below w.heap.size w w':=by
 have S0:=Lib.hid (dc w 9 a b c d x y)
 have c0:=(S0.out.get 0 _ rfl).cell 0 _ rfl
 have c1:=(S0.out.get 0 _ rfl).cell 1 _ rfl
 have c2:=(S0.out.get 0 _ rfl).cell 2 _ rfl
 have c3:=(S0.out.get 0 _ rfl).cell 3 _ rfl
 have c4:=(S0.out.get 0 _ rfl).cell 4 _ rfl
 have c5:=(S0.out.get 0 _ rfl).cell 5 _ rfl
 have c6:=(S0.out.get 0 _ rfl).cell 6 _ rfl
 go_enter Tryz.func10,Tryz.ntmps10
 go_wp2_with fail
 refine (Jk _ _ _ _).mono ?_
 rintro e w1 ⟨rfl,hb⟩
 have S1:=Lib.hid (S0.out.below hb)
 clear hb
 clear S0 c0 c1 c2 c3 c4 c5 c6
 go_wp2_with (first
  | ((with_reducible refine da (o:=1) (vs:=aZ 0 Ii.zero) de (S1.out.get 2 _ rfl) ?_ ?_ (bq _ _) rfl (.tmp 126) (.tmp 124) rfl ?_ ?_ ?_);(exact (show 1+6≤9 by decide));(exact rfl);(exact rfl);(exact rfl);have S2:=Lib.hid (S1.out.putAt 2 _ rfl 1 (aZ 0 Ii.zero) (aV 0) (show 1+6≤9 by decide) rfl);have cc:=(S2.out.get 2 _ rfl).cell 0 _ rfl;have ff:=(S2.out.get 2 _ rfl).frozen 0 (show 0<9 by decide);have S3:=Lib.hid (S2.out.one 2 _ rfl 0 (.int .i64 5) (aV 5) (show 0+1≤9 by decide) rfl);clear S1)
  | (with_reducible refine af bI (S3.out.get 2 _ rfl) rfl rfl (.tmp 5) rfl rfl ?_)
  | ((with_reducible refine ak (vs:=aV 5) bI (S3.out.get 1 _ rfl) ?_ ?_ (bX _) rfl (.tmp 4) (.tmp 207) rfl ?_ ?_ ?_);(exact rfl);(exact rfl);(exact rfl);(exact rfl)))
 have S4:=Lib.hid (S3.out.put 1 _ rfl (aV 5) rfl)
 exact bodyPost_ret (aC bI _ 4 rfl _ (S4.out.get 1 _ rfl) rfl rfl) rfl ⟨rfl,S4.out.bel⟩
theorem MQ (w:World)  (a b c d:Int) (x y:ByteArray):Calls Tryz.prog 10 #[.pointer none,nM 10 a b c d x y] w fun e w'=>e=.returned (.agg (aV 5).toArray)∧Below w.heap.size w w':=by
 have S0:=Lib.hid (dc w 10 a b c d x y)
 have c0:=(S0.out.get 0 _ rfl).cell 0 _ rfl
 have c1:=(S0.out.get 0 _ rfl).cell 1 _ rfl
 have c2:=(S0.out.get 0 _ rfl).cell 2 _ rfl
 have c3:=(S0.out.get 0 _ rfl).cell 3 _ rfl
 have c4:=(S0.out.get 0 _ rfl).cell 4 _ rfl
 have c5:=(S0.out.get 0 _ rfl).cell 5 _ rfl
 have c6:=(S0.out.get 0 _ rfl).cell 6 _ rfl
 go_enter Tryz.func10,Tryz.ntmps10
 go_wp2_with fail
 refine (CA _ _ _).mono ?_
 rintro e w1 ⟨rfl,hb⟩
 have S1:=Lib.hid (S0.out.below hb)
 clear hb
 clear S0 c0 c1 c2 c3 c4 c5 c6
 have S2:=Lib.hid S1.out
 have cc:=(S2.out.get 2 _ rfl).cell 0 _ rfl
 have ff:=(S2.out.get 2 _ rfl).frozen 0 (show 0<9 by decide)
 have S3:=Lib.hid (S2.out.one 2 _ rfl 0 (.int .i64 5) (aV 5) (show 0+1≤9 by decide) rfl)
 clear S1
 go_wp2_with (first
  | (with_reducible refine af bI (S3.out.get 2 _ rfl) rfl rfl (.tmp 5) rfl rfl ?_)
  | ((with_reducible refine ak (vs:=aV 5) bI (S3.out.get 1 _ rfl) ?_ ?_ (bX _) rfl (.tmp 4) (.tmp 207) rfl ?_ ?_ ?_);(exact rfl);(exact rfl);(exact rfl);(exact rfl)))
 have S4:=Lib.hid (S3.out.put 1 _ rfl (aV 5) rfl)
 exact bodyPost_ret (aC bI _ 4 rfl _ (S4.out.get 1 _ rfl) rfl rfl) rfl ⟨rfl,S4.out.bel⟩
theorem MP (w:World)  (a b c d:Int) (x y:ByteArray):Calls Tryz.prog 10 #[.pointer none,nM 11 a b c d x y] w fun e w'=>e=.returned (.agg (aV 5).toArray)∧Below w.heap.size w w':=by
 have S0:=Lib.hid (dc w 11 a b c d x y)
 have c0:=(S0.out.get 0 _ rfl).cell 0 _ rfl
 have c1:=(S0.out.get 0 _ rfl).cell 1 _ rfl
 have c2:=(S0.out.get 0 _ rfl).cell 2 _ rfl
 have c3:=(S0.out.get 0 _ rfl).cell 3 _ rfl
 have c4:=(S0.out.get 0 _ rfl).cell 4 _ rfl
 have c5:=(S0.out.get 0 _ rfl).cell 5 _ rfl
 have c6:=(S0.out.get 0 _ rfl).cell 6 _ rfl
 go_enter Tryz.func10,Tryz.ntmps10
 go_wp2_with fail
 refine (FR _ _ _).mono ?_
 rintro e w1 ⟨rfl,hb⟩
 have S1:=Lib.hid (S0.out.below hb)
 clear hb
 clear S0 c0 c1 c2 c3 c4 c5 c6
 have S2:=Lib.hid S1.out
 have cc:=(S2.out.get 2 _ rfl).cell 0 _ rfl
 have ff:=(S2.out.get 2 _ rfl).frozen 0 (show 0<9 by decide)
 have S3:=Lib.hid (S2.out.one 2 _ rfl 0 (.int .i64 5) (aV 5) (show 0+1≤9 by decide) rfl)
 clear S1
 go_wp2_with (first
  | (with_reducible refine af bI (S3.out.get 2 _ rfl) rfl rfl (.tmp 5) rfl rfl ?_)
  | ((with_reducible refine ak (vs:=aV 5) bI (S3.out.get 1 _ rfl) ?_ ?_ (bX _) rfl (.tmp 4) (.tmp 207) rfl ?_ ?_ ?_);(exact rfl);(exact rfl);(exact rfl);(exact rfl)))
 have S4:=Lib.hid (S3.out.put 1 _ rfl (aV 5) rfl)
 exact bodyPost_ret (aC bI _ 4 rfl _ (S4.out.get 1 _ rfl) rfl rfl) rfl ⟨rfl,S4.out.bel⟩
theorem MO (w:World)  (a b c d:Int) (x y:ByteArray):Calls Tryz.prog 10 #[.pointer none,nM 12 a b c d x y] w fun e w'=>e=.returned (.agg (aV 5).toArray)∧Below w.heap.size w w':=by
 have S0:=Lib.hid (dc w 12 a b c d x y)
 have c0:=(S0.out.get 0 _ rfl).cell 0 _ rfl
 have c1:=(S0.out.get 0 _ rfl).cell 1 _ rfl
 have c2:=(S0.out.get 0 _ rfl).cell 2 _ rfl
 have c3:=(S0.out.get 0 _ rfl).cell 3 _ rfl
 have c4:=(S0.out.get 0 _ rfl).cell 4 _ rfl
 have c5:=(S0.out.get 0 _ rfl).cell 5 _ rfl
 have c6:=(S0.out.get 0 _ rfl).cell 6 _ rfl
 go_enter Tryz.func10,Tryz.ntmps10
 go_wp2_with fail
 refine (CC _ _ _ _ _).mono ?_
 rintro e w1 ⟨rfl,hb⟩
 have S1:=Lib.hid (S0.out.below hb)
 clear hb
 clear S0 c0 c1 c2 c3 c4 c5 c6
 have S2:=Lib.hid S1.out
 have cc:=(S2.out.get 2 _ rfl).cell 0 _ rfl
 have ff:=(S2.out.get 2 _ rfl).frozen 0 (show 0<9 by decide)
 have S3:=Lib.hid (S2.out.one 2 _ rfl 0 (.int .i64 5) (aV 5) (show 0+1≤9 by decide) rfl)
 clear S1
 go_wp2_with (first
  | (with_reducible refine af bI (S3.out.get 2 _ rfl) rfl rfl (.tmp 5) rfl rfl ?_)
  | ((with_reducible refine ak (vs:=aV 5) bI (S3.out.get 1 _ rfl) ?_ ?_ (bX _) rfl (.tmp 4) (.tmp 207) rfl ?_ ?_ ?_);(exact rfl);(exact rfl);(exact rfl);(exact rfl)))
 have S4:=Lib.hid (S3.out.put 1 _ rfl (aV 5) rfl)
 exact bodyPost_ret (aC bI _ 4 rfl _ (S4.out.get 1 _ rfl) rfl rfl) rfl ⟨rfl,S4.out.bel⟩
theorem MN (w:World)  (a b c d:Int) (x y:ByteArray):Calls Tryz.prog 10 #[.pointer none,nM 13 a b c d x y] w fun e w'=>e=.returned (.agg (aV 5).toArray)∧Below w.heap.size w w':=by
 have S0:=Lib.hid (dc w 13 a b c d x y)
 have c0:=(S0.out.get 0 _ rfl).cell 0 _ rfl
 have c1:=(S0.out.get 0 _ rfl).cell 1 _ rfl
 have c2:=(S0.out.get 0 _ rfl).cell 2 _ rfl
 have c3:=(S0.out.get 0 _ rfl).cell 3 _ rfl
 have c4:=(S0.out.get 0 _ rfl).cell 4 _ rfl
 have c5:=(S0.out.get 0 _ rfl).cell 5 _ rfl
 have c6:=(S0.out.get 0 _ rfl).cell 6 _ rfl
 go_enter Tryz.func10,Tryz.ntmps10
 go_wp2_with fail
 refine (Lg _ _ _ _).mono ?_
 rintro e w1 ⟨rfl,hb⟩
 have S1:=Lib.hid (S0.out.below hb)
 clear hb
 clear S0 c0 c1 c2 c3 c4 c5 c6
 have c1:=(S1.out.get 2 _ rfl).cell 7 _ rfl
 have f1:=(S1.out.get 2 _ rfl).frozen 7 (show 7<9 by decide)
 have S2:=Lib.hid (S1.out.one 2 _ rfl 7 (.string ⟨#[]⟩) (aV 0) (show 7+1≤9 by decide) rfl)
 have cc:=(S2.out.get 2 _ rfl).cell 0 _ rfl
 have ff:=(S2.out.get 2 _ rfl).frozen 0 (show 0<9 by decide)
 have S3:=Lib.hid (S2.out.one 2 _ rfl 0 (.int .i64 5) (aV 5) (show 0+1≤9 by decide) rfl)
 clear S1
 go_wp2_with (first
  | (with_reducible refine af bI (S3.out.get 2 _ rfl) rfl rfl (.tmp 5) rfl rfl ?_)
  | ((with_reducible refine ak (vs:=aV 5) bI (S3.out.get 1 _ rfl) ?_ ?_ (bX _) rfl (.tmp 4) (.tmp 207) rfl ?_ ?_ ?_);(exact rfl);(exact rfl);(exact rfl);(exact rfl)))
 have S4:=Lib.hid (S3.out.put 1 _ rfl (aV 5) rfl)
 exact bodyPost_ret (aC bI _ 4 rfl _ (S4.out.get 1 _ rfl) rfl rfl) rfl ⟨rfl,S4.out.bel⟩
theorem MM (w:World)  (a b c d:Int) (x y:ByteArray):Calls Tryz.prog 10 #[.pointer none,nM 14 a b c d x y] w fun e w'=>e=.returned (.agg (aV 5).toArray)∧Below w.heap.size w w':=by
 have S0:=Lib.hid (dc w 14 a b c d x y)
 have c0:=(S0.out.get 0 _ rfl).cell 0 _ rfl
 have c1:=(S0.out.get 0 _ rfl).cell 1 _ rfl
 have c2:=(S0.out.get 0 _ rfl).cell 2 _ rfl
 have c3:=(S0.out.get 0 _ rfl).cell 3 _ rfl
 have c4:=(S0.out.get 0 _ rfl).cell 4 _ rfl
 have c5:=(S0.out.get 0 _ rfl).cell 5 _ rfl
 have c6:=(S0.out.get 0 _ rfl).cell 6 _ rfl
 go_enter Tryz.func10,Tryz.ntmps10
 go_wp2_with fail
 refine (Lf _ _ _ _).mono ?_
 rintro e w1 ⟨rfl,hb⟩
 have S1:=Lib.hid (S0.out.below hb)
 clear hb
 clear S0 c0 c1 c2 c3 c4 c5 c6
 have S2:=Lib.hid S1.out
 have cc:=(S2.out.get 2 _ rfl).cell 0 _ rfl
 have ff:=(S2.out.get 2 _ rfl).frozen 0 (show 0<9 by decide)
 have S3:=Lib.hid (S2.out.one 2 _ rfl 0 (.int .i64 5) (aV 5) (show 0+1≤9 by decide) rfl)
 clear S1
 go_wp2_with (first
  | (with_reducible refine af bI (S3.out.get 2 _ rfl) rfl rfl (.tmp 5) rfl rfl ?_)
  | ((with_reducible refine ak (vs:=aV 5) bI (S3.out.get 1 _ rfl) ?_ ?_ (bX _) rfl (.tmp 4) (.tmp 207) rfl ?_ ?_ ?_);(exact rfl);(exact rfl);(exact rfl);(exact rfl)))
 have S4:=Lib.hid (S3.out.put 1 _ rfl (aV 5) rfl)
 exact bodyPost_ret (aC bI _ 4 rfl _ (S4.out.get 1 _ rfl) rfl rfl) rfl ⟨rfl,S4.out.bel⟩
theorem ML (w:World)  (a b c d:Int) (x y:ByteArray):Calls Tryz.prog 10 #[.pointer none,nM 15 a b c d x y] w fun e w'=>e=.returned (.agg (aV 5).toArray)∧Below w.heap.size w w':=by
 have S0:=Lib.hid (dc w 15 a b c d x y)
 have c0:=(S0.out.get 0 _ rfl).cell 0 _ rfl
 have c1:=(S0.out.get 0 _ rfl).cell 1 _ rfl
 have c2:=(S0.out.get 0 _ rfl).cell 2 _ rfl
 have c3:=(S0.out.get 0 _ rfl).cell 3 _ rfl
 have c4:=(S0.out.get 0 _ rfl).cell 4 _ rfl
 have c5:=(S0.out.get 0 _ rfl).cell 5 _ rfl
 have c6:=(S0.out.get 0 _ rfl).cell 6 _ rfl
 go_enter Tryz.func10,Tryz.ntmps10
 go_wp2_with fail
 refine (Jj _ _).mono ?_
 rintro e w1 ⟨rfl,hb⟩
 have S1:=Lib.hid (S0.out.below hb)
 clear hb
 clear S0 c0 c1 c2 c3 c4 c5 c6
 have c1:=(S1.out.get 2 _ rfl).cell 8 _ rfl
 have f1:=(S1.out.get 2 _ rfl).frozen 8 (show 8<9 by decide)
 have S2:=Lib.hid (S1.out.one 2 _ rfl 8 (.slice none 0 0) (aV 0) (show 8+1≤9 by decide) rfl)
 have cc:=(S2.out.get 2 _ rfl).cell 0 _ rfl
 have ff:=(S2.out.get 2 _ rfl).frozen 0 (show 0<9 by decide)
 have S3:=Lib.hid (S2.out.one 2 _ rfl 0 (.int .i64 5) (aV 5) (show 0+1≤9 by decide) rfl)
 clear S1
 go_wp2_with (first
  | (with_reducible refine af bI (S3.out.get 2 _ rfl) rfl rfl (.tmp 5) rfl rfl ?_)
  | ((with_reducible refine ak (vs:=aV 5) bI (S3.out.get 1 _ rfl) ?_ ?_ (bX _) rfl (.tmp 4) (.tmp 207) rfl ?_ ?_ ?_);(exact rfl);(exact rfl);(exact rfl);(exact rfl)))
 have S4:=Lib.hid (S3.out.put 1 _ rfl (aV 5) rfl)
 exact bodyPost_ret (aC bI _ 4 rfl _ (S4.out.get 1 _ rfl) rfl rfl) rfl ⟨rfl,S4.out.bel⟩
theorem MK (w:World)  (a b c d:Int) (x y:ByteArray):Calls Tryz.prog 10 #[.pointer none,nM 16 a b c d x y] w fun e w'=>e=.returned (.agg (aV 5).toArray)∧Below w.heap.size w w':=by
 have S0:=Lib.hid (dc w 16 a b c d x y)
 have c0:=(S0.out.get 0 _ rfl).cell 0 _ rfl
 have c1:=(S0.out.get 0 _ rfl).cell 1 _ rfl
 have c2:=(S0.out.get 0 _ rfl).cell 2 _ rfl
 have c3:=(S0.out.get 0 _ rfl).cell 3 _ rfl
 have c4:=(S0.out.get 0 _ rfl).cell 4 _ rfl
 have c5:=(S0.out.get 0 _ rfl).cell 5 _ rfl
 have c6:=(S0.out.get 0 _ rfl).cell 6 _ rfl
 go_enter Tryz.func10,Tryz.ntmps10
 go_wp2_with fail
 refine (Ji _ _).mono ?_
 rintro e w1 ⟨rfl,hb⟩
 have S1:=Lib.hid (S0.out.below hb)
 clear hb
 clear S0 c0 c1 c2 c3 c4 c5 c6
 have S2:=Lib.hid S1.out
 have cc:=(S2.out.get 2 _ rfl).cell 0 _ rfl
 have ff:=(S2.out.get 2 _ rfl).frozen 0 (show 0<9 by decide)
 have S3:=Lib.hid (S2.out.one 2 _ rfl 0 (.int .i64 5) (aV 5) (show 0+1≤9 by decide) rfl)
 clear S1
 go_wp2_with (first
  | (with_reducible refine af bI (S3.out.get 2 _ rfl) rfl rfl (.tmp 5) rfl rfl ?_)
  | ((with_reducible refine ak (vs:=aV 5) bI (S3.out.get 1 _ rfl) ?_ ?_ (bX _) rfl (.tmp 4) (.tmp 207) rfl ?_ ?_ ?_);(exact rfl);(exact rfl);(exact rfl);(exact rfl)))
 have S4:=Lib.hid (S3.out.put 1 _ rfl (aV 5) rfl)
 exact bodyPost_ret (aC bI _ 4 rfl _ (S4.out.get 1 _ rfl) rfl rfl) rfl ⟨rfl,S4.out.bel⟩
theorem MJ (w:World)  (a b c d:Int) (x y:ByteArray):Calls Tryz.prog 10 #[.pointer none,nM 17 a b c d x y] w fun e w'=>e=.returned (.agg (aV 5).toArray)∧Below w.heap.size w w':=by
 have S0:=Lib.hid (dc w 17 a b c d x y)
 have c0:=(S0.out.get 0 _ rfl).cell 0 _ rfl
 have c1:=(S0.out.get 0 _ rfl).cell 1 _ rfl
 have c2:=(S0.out.get 0 _ rfl).cell 2 _ rfl
 have c3:=(S0.out.get 0 _ rfl).cell 3 _ rfl
 have c4:=(S0.out.get 0 _ rfl).cell 4 _ rfl
 have c5:=(S0.out.get 0 _ rfl).cell 5 _ rfl
 have c6:=(S0.out.get 0 _ rfl).cell 6 _ rfl
 go_enter Tryz.func10,Tryz.ntmps10
 go_wp2_with fail
 refine (FU _ _).mono ?_
 rintro e w1 ⟨rfl,hb⟩
 have S1:=Lib.hid (S0.out.below hb)
 clear hb
 clear S0 c0 c1 c2 c3 c4 c5 c6
 have S2:=Lib.hid S1.out
 have cc:=(S2.out.get 2 _ rfl).cell 0 _ rfl
 have ff:=(S2.out.get 2 _ rfl).frozen 0 (show 0<9 by decide)
 have S3:=Lib.hid (S2.out.one 2 _ rfl 0 (.int .i64 5) (aV 5) (show 0+1≤9 by decide) rfl)
 clear S1
 go_wp2_with (first
  | (with_reducible refine af bI (S3.out.get 2 _ rfl) rfl rfl (.tmp 5) rfl rfl ?_)
  | ((with_reducible refine ak (vs:=aV 5) bI (S3.out.get 1 _ rfl) ?_ ?_ (bX _) rfl (.tmp 4) (.tmp 207) rfl ?_ ?_ ?_);(exact rfl);(exact rfl);(exact rfl);(exact rfl)))
 have S4:=Lib.hid (S3.out.put 1 _ rfl (aV 5) rfl)
 exact bodyPost_ret (aC bI _ 4 rfl _ (S4.out.get 1 _ rfl) rfl rfl) rfl ⟨rfl,S4.out.bel⟩
theorem MI (w:World)  (a b c d:Int) (x y:ByteArray):Calls Tryz.prog 10 #[.pointer none,nM 18 a b c d x y] w fun e w'=>e=.returned (.agg (aV 5).toArray)∧Below w.heap.size w w':=by
 have S0:=Lib.hid (dc w 18 a b c d x y)
 have c0:=(S0.out.get 0 _ rfl).cell 0 _ rfl
 have c1:=(S0.out.get 0 _ rfl).cell 1 _ rfl
 have c2:=(S0.out.get 0 _ rfl).cell 2 _ rfl
 have c3:=(S0.out.get 0 _ rfl).cell 3 _ rfl
 have c4:=(S0.out.get 0 _ rfl).cell 4 _ rfl
 have c5:=(S0.out.get 0 _ rfl).cell 5 _ rfl
 have c6:=(S0.out.get 0 _ rfl).cell 6 _ rfl
 go_enter Tryz.func10,Tryz.ntmps10
 go_wp2_with fail
 refine (FQ _).mono ?_
 rintro e w1 ⟨rfl,hb⟩
 have S1:=Lib.hid (S0.out.below hb)
 clear hb
 clear S0 c0 c1 c2 c3 c4 c5 c6
 have S2:=Lib.hid S1.out
 have cc:=(S2.out.get 2 _ rfl).cell 0 _ rfl
 have ff:=(S2.out.get 2 _ rfl).frozen 0 (show 0<9 by decide)
 have S3:=Lib.hid (S2.out.one 2 _ rfl 0 (.int .i64 5) (aV 5) (show 0+1≤9 by decide) rfl)
 clear S1
 go_wp2_with (first
  | (with_reducible refine af bI (S3.out.get 2 _ rfl) rfl rfl (.tmp 5) rfl rfl ?_)
  | ((with_reducible refine ak (vs:=aV 5) bI (S3.out.get 1 _ rfl) ?_ ?_ (bX _) rfl (.tmp 4) (.tmp 207) rfl ?_ ?_ ?_);(exact rfl);(exact rfl);(exact rfl);(exact rfl)))
 have S4:=Lib.hid (S3.out.put 1 _ rfl (aV 5) rfl)
 exact bodyPost_ret (aC bI _ 4 rfl _ (S4.out.get 1 _ rfl) rfl rfl) rfl ⟨rfl,S4.out.bel⟩
theorem Lm (w:World) (k a b c d:Int) (E:Hid (¬ (0≤k∧k≤18))) (x y:ByteArray):Calls Tryz.prog 10 #[.pointer none,nM k a b c d x y] w fun e w'=>e=.returned (.agg (aV 0).toArray)∧Below w.heap.size w w':=by
 have S0:=Lib.hid (dc w k a b c d x y)
 go_enter Tryz.func10,Tryz.ntmps10
 go_wp2_with fail
 ·exact absurd ‹(k == 0)=true› (fun h=>E.out (by have:=eq_of_beq h;omega))
 ·exact absurd ‹(k == 1)=true› (fun h=>E.out (by have:=eq_of_beq h;omega))
 ·exact absurd ‹(k == 2)=true› (fun h=>E.out (by have:=eq_of_beq h;omega))
 ·exact absurd ‹(k == 3)=true› (fun h=>E.out (by have:=eq_of_beq h;omega))
 ·exact absurd ‹(k == 4)=true› (fun h=>E.out (by have:=eq_of_beq h;omega))
 ·exact absurd ‹(k == 5)=true› (fun h=>E.out (by have:=eq_of_beq h;omega))
 ·exact absurd ‹(k == 6)=true› (fun h=>E.out (by have:=eq_of_beq h;omega))
 ·exact absurd ‹(k == 7)=true› (fun h=>E.out (by have:=eq_of_beq h;omega))
 ·exact absurd ‹(k == 8)=true› (fun h=>E.out (by have:=eq_of_beq h;omega))
 ·exact absurd ‹(k == 9)=true› (fun h=>E.out (by have:=eq_of_beq h;omega))
 ·exact absurd ‹(k == 10)=true› (fun h=>E.out (by have:=eq_of_beq h;omega))
 ·exact absurd ‹(k == 11)=true› (fun h=>E.out (by have:=eq_of_beq h;omega))
 ·exact absurd ‹(k == 12)=true› (fun h=>E.out (by have:=eq_of_beq h;omega))
 ·exact absurd ‹(k == 13)=true› (fun h=>E.out (by have:=eq_of_beq h;omega))
 ·exact absurd ‹(k == 14)=true› (fun h=>E.out (by have:=eq_of_beq h;omega))
 ·exact absurd ‹(k == 15)=true› (fun h=>E.out (by have:=eq_of_beq h;omega))
 ·exact absurd ‹(k == 16)=true› (fun h=>E.out (by have:=eq_of_beq h;omega))
 ·exact absurd ‹(k == 17)=true› (fun h=>E.out (by have:=eq_of_beq h;omega))
 ·exact absurd ‹(k == 18)=true› (fun h=>E.out (by have:=eq_of_beq h;omega))
 exact bodyPost_ret (aC bI _ 4 rfl _ (S0.out.get 1 _ rfl) rfl rfl) rfl ⟨rfl,S0.out.bel⟩
theorem ldo (w:World) (k a b c d:Int) (x y:ByteArray):Calls Tryz.prog 10 #[.pointer none,nM k a b c d x y] w fun e w'=>e=.returned (.agg (aV (if 0≤k∧k≤18 then 5 else 0)).toArray)∧Below w.heap.size w w':=by
 by_cases h:0≤k∧k≤18
 ·rw [if_pos h]
  have hk:k=0∨k=1∨k=2∨k=3∨k=4∨k=5∨k=6∨k=7∨k=8∨k=9∨k=10∨k=11∨k=12∨k=13∨k=14∨k=15∨k=16∨k=17∨k=18:=by omega
  rcases hk with rfl | rfl | rfl | rfl | rfl | rfl | rfl | rfl | rfl | rfl | rfl | rfl | rfl | rfl | rfl | rfl | rfl | rfl | rfl
  ·exact ld0 w a b c d x y
  ·exact ld1 w a b c d x y
  ·exact ld2 w a b c d x y
  ·exact ld3 w a b c d x y
  ·exact ld4 w a b c d x y
  ·exact ld5 w a b c d x y
  ·exact ld6 w a b c d x y
  ·exact ld7 w a b c d x y
  ·exact ld8 w a b c d x y
  ·exact ld9 w a b c d x y
  ·exact MQ w a b c d x y
  ·exact MP w a b c d x y
  ·exact MO w a b c d x y
  ·exact MN w a b c d x y
  ·exact MM w a b c d x y
  ·exact ML w a b c d x y
  ·exact MK w a b c d x y
  ·exact MJ w a b c d x y
  ·exact MI w a b c d x y
 ·rw [if_neg h]
  exact Lm w k a b c d (Lib.hid h) x y
end Go.Proofs.YtagfoogfpabdfaaGreat

namespace Go.Proofs.YtagfoogfpabdfaaGreat

end Go.Proofs.YtagfoogfpabdfaaGreat
set_option maxRecDepth 100000
namespace Go.Proofs.YtagfoogfpabdfaaGreat
open Go.RowKit Go.Maps
open Dk (av aa)
theorem vm (k a b c d:Int) (x y:ByteArray):∀ v∈yI k a b c d x y,v.oneCell'=true:=by
 intro v hv
 simp only [yI,List.mem_cons,List.not_mem_nil,or_false] at hv
 rcases hv with rfl | rfl | rfl | rfl | rfl | rfl | rfl <;> rfl
def LR (w:World) (e:Ending) (w':World):Prop:=∃ g:Bool,e=.returned (.bool g)∧Below w.heap.size w w'
theorem yN {w:World} {R cp:Nat} {k a b c d:Int} {x y:ByteArray} (h:au w R (yI k a b c d x y)):Calls Tryz.prog 8 #[.slice (some ⟨R,0,none⟩) 1 cp,.int .i64 1] w (LR w):=by
 have HR:=Lib.hid h
 have S0:=Lib.hid (Lo.start (L:=[]) w (by simp))
 clear h
 go_enter Tryz.func8,Tryz.ntmps8
 go_wp2_with fail
 go_loopw [13] (fun i wr=>(i=.int .i64 0∨i=.int .i64 1)∧Lo [] w [] wr) (fun i _=>1 - (intOf i).toNat)
 case atStart=>exact ⟨Or.inl rfl,S0.out⟩
 case round=>
  clear S0
  obtain ⟨hi,hS⟩:=hrel
  have S:=Lib.hid hS
  have HR2:=Lib.hid (HR.out.step hS.bel)
  clear hS
  rcases hi with rfl | rfl
  ·by_cases hq:(100:Int)<(x.size:Int)
   ·go_wp2_with (first
     | (with_reducible refine af Hv HR2.out rfl rfl (.tmp 15) rfl rfl ?_)
     | ((with_reducible refine ai (vs:=yI k a b c d x y) Hv ?_ (vm _ _ _ _ _ _ _) rfl (.tmp 6) (.tmp 16) rfl rfl ?_ ?_ ?_);(exact rfl);(exact rfl);(exact rfl);intro W4 hP hB2 hz2;have S2:=Lib.hid (S.out.made hP hB2 hz2);clear hP hB2 hz2;have c5:=(S2.out.get 0 _ rfl).cell 5 _ rfl;have c6:=(S2.out.get 0 _ rfl).cell 6 _ rfl))
    go_ret
    exact ⟨true,rfl,S2.out.bel⟩
   ·by_cases hq2:(600:Int)<(y.size:Int)
    ·go_wp2_with (first
      | (with_reducible refine af Hv HR2.out rfl rfl (.tmp 15) rfl rfl ?_)
      | ((with_reducible refine ai (vs:=yI k a b c d x y) Hv ?_ (vm _ _ _ _ _ _ _) rfl (.tmp 6) (.tmp 16) rfl rfl ?_ ?_ ?_);(exact rfl);(exact rfl);(exact rfl);intro W4 hP hB2 hz2;have S2:=Lib.hid (S.out.made hP hB2 hz2);clear hP hB2 hz2;have c5:=(S2.out.get 0 _ rfl).cell 5 _ rfl;have c6:=(S2.out.get 0 _ rfl).cell 6 _ rfl))
     go_ret
     exact ⟨true,rfl,S2.out.bel⟩
    ·go_wp2_with (first
      | (with_reducible refine af Hv HR2.out rfl rfl (.tmp 15) rfl rfl ?_)
      | ((with_reducible refine ai (vs:=yI k a b c d x y) Hv ?_ (vm _ _ _ _ _ _ _) rfl (.tmp 6) (.tmp 16) rfl rfl ?_ ?_ ?_);(exact rfl);(exact rfl);(exact rfl);intro W4 hP hB2 hz2;have S2:=Lib.hid (S.out.made hP hB2 hz2);clear hP hB2 hz2;have c5:=(S2.out.get 0 _ rfl).cell 5 _ rfl;have c6:=(S2.out.get 0 _ rfl).cell 6 _ rfl))
     go_roundw
     case rel=>exact ⟨Or.inr rfl,S2.out.cut 0⟩
     case measure=>simp [intOf]
  ·go_wp2_with fail
   go_ret
   exact ⟨false,rfl,S.out.bel⟩
end Go.Proofs.YtagfoogfpabdfaaGreat

namespace Go.Proofs.YtagfoogfpabdfaaGreat

section
open Go.RowKit Go.Maps
open Dk (av aa)
open Ii (Ino)
open Jn (Chg Cl)
theorem zf {w:World} {V:Nat} {b:Blk} {s:Sto} {n I k:Int} (h:bu w V b s n I k) (v:Vs s n I) (h1:(Fs.bJ (nv s) 1).k=2) (h2:(Fs.bJ (nv s) 1).l≠0):Calls Tryz.prog 100 #[.pointer (some ⟨V,0,none⟩)] w fun e w'=>e=.returned (.int .i64 0)∧Below w.heap.size w w':=by
 have HI:=Lib.hid (fM h.store v 1 (by decide) v.bd.1)
 have HR:=Lib.hid h.row
 generalize Fs.bJ (nv s) 1=x at h1 h2 HI
 have g2:(x.l == 0)=false:=by simpa using h2
 have g1:(x.k != 2)=false:=by rw [h1];rfl
 have g3:(x.k == 2)=true:=by rw [h1];rfl
 have S0:=Lib.hid (Lo.start (L:=[]) w (by simp))
 clear h v
 unfold bW at HI
 go_enter Tryz.func100,Tryz.ntmps100
 go_wp2_with (first
  | (with_reducible refine wpList_load_mid rfl 134 (.tmp 8) rfl V 0 rfl [.pointer (some ⟨b.s,0,none⟩),.int .i64 n,.int .i64 I] _ HR.out.base Tryz.underlying134 rfl (by kernel_rfl) ?_)
  | (go_at_call 159;refine HI.out.mono ?_;rintro e w1 ⟨rfl,hb⟩;replace S0:=Lib.hid (S0.out.below hb);clear hb)
  | ((with_reducible refine ai (vs:=aH x) cz ?_ (aJ _) rfl (.tmp 3) (.tmp 11) rfl rfl ?_ ?_ ?_);(exact rfl);(exact rfl);(exact rfl);intro W4 hP hB2 hz2;have S1:=Lib.hid (S0.out.made hP hB2 hz2);clear hP hB2 hz2;have ck:=(S1.out.get 0 _ rfl).cell 0 _ rfl;have cl:=(S1.out.get 0 _ rfl).cell 3 _ rfl))
 go_ret
 exact ⟨rfl,S1.out.bel⟩
def TdS (w:World) (V:Nat) (b:Blk) (n I:Int) (s:Sto) (C:Nat) (i:Int) (x:Ino):Option (Bool × Nat)→World→Prop
 | none,W=>Lo (V::b.all) w [(C,[.int .i64 i])] W∧bu W V b s n I 0
 | some (z,a),W=>Lo (V::b.all) w [(C,[.int .i64 i]),(a,if z=true then aH x else aH Ii.zero)] W∧bu W V b s n I 0
section
variable {w W W':World} {V:Nat} {b:Blk} {n I:Int} {s:Sto} {C:Nat} {i:Int} {x:Ino}
theorem TdS.below:∀ {k:Option (Bool × Nat)},TdS w V b n I s C i x k W→Below W.heap.size W W'→TdS w V b n I s C i x k W'
 | none,h,hb=>⟨h.1.below hb,h.2.below hb⟩
 | some _,h,hb=>⟨h.1.below hb,h.2.below hb⟩
theorem TdS.vol:∀ {k:Option (Bool × Nat)},TdS w V b n I s C i x k W→bu W V b s n I 0
 | none,h=>h.2
 | some _,h=>h.2
theorem TdS.cell:∀ {k:Option (Bool × Nat)},TdS w V b n I s C i x k W→W.cell? ⟨C,0,none⟩=some (.int .i64 i)
 | none,h=>(h.1.get 0 _ rfl).cell 0 _ rfl
 | some _,h=>(h.1.get 0 _ rfl).cell 0 _ rfl
end
def nN (I:Int) (p:Value) (w:World):Nat:=match p with
 |
  .pointer (some a)=>match w.cell? a with
  | some (.int _ i)=>(I+1 - i).toNat
  | _=>0
 | _=>0
structure LQ (n I:Int) (J:Nat→Sto→Prop):Prop where
 vs:∀ k s,J k s→Vs s n I∧s.q<4294967290
 skip:∀ k s,J k s→(k:Int)+1≤I→((Fs.bJ (nv s) ((k:Int)+1)).k=0∨0<(Fs.bJ (nv s) ((k:Int)+1)).l)→J (k+1) s
 none:∀ k s,J k s→(k:Int)+1≤I→((Fs.bJ (nv s) ((k:Int)+1)).k=0∨0<(Fs.bJ (nv s) ((k:Int)+1)).l)
theorem xd {w W wr:World} {V:Nat} {b:Blk} {n I:Int} {J:Nat→Sto→Prop} {l:List (Nat × List Value)} {s2:Sto} {k C:Nat} (S:Lo (V::b.all) w l W) (HV:bu W V b s2 n I 0) (hJ:J (k+1) s2) (hk:(k:Int)+1≤I) (hC:wr.cell? ⟨C,0,none⟩=some (.int .i64 ((k:Int)+1))):
  (∃ (C2 k2:Nat) (s':Sto),(k2:Int)≤I∧Value.pointer (some ⟨W.heap.size,0,none⟩)=.pointer (some ⟨C2,0,none⟩)∧Hid (Lo (V::b.all) w [(C2,[.int .i64 ((k2:Int)+1)])] (W.alloc (.cells #[.int .i64 ((k:Int)+1+1)] 3)))∧Hid (bu (W.alloc (.cells #[.int .i64 ((k:Int)+1+1)] 3)) V b s' n I 0)∧Hid (J k2 s')) ∧
  nN I (.pointer (some ⟨W.heap.size,0,none⟩)) (W.alloc (.cells #[.int .i64 ((k:Int)+1+1)] 3))<nN I (.pointer (some ⟨C,0,none⟩)) wr:=by
 have S9:=(S.cut 0).alloc W.heap.size rfl [.int .i64 ((k:Int)+1+1)] 3
 have c9:=(S9.get 0 _ rfl).cell 0 _ rfl
 refine ⟨⟨W.heap.size,k+1,s2,by omega,rfl,Lib.hid (by rw [show ((k+1:Nat):Int)+1=(k:Int)+1+1 by omega];exact S9),Lib.hid (HV.alloc _),Lib.hid hJ⟩,?_⟩
 have e1:nN I (.pointer (some ⟨C,0,none⟩)) wr=(I+1 - ((k:Int)+1)).toNat:=by unfold nN;simp only [hC]
 have e2:nN I (.pointer (some ⟨W.heap.size,0,none⟩)) (W.alloc (.cells #[.int .i64 ((k:Int)+1+1)] 3))=(I+1 - ((k:Int)+1+1)).toNat:=by
  have:(W.alloc (.cells #[.int .i64 ((k:Int)+1+1)] 3)).cell? ⟨W.heap.size,0,none⟩=some (.int .i64 ((k:Int)+1+1)):=c9
  unfold nN;simp only [this]
 rw [e1,e2]
 omega
theorem EU {w:World} {V:Nat} {b:Blk} {s:Sto} {n I:Int} (h:bu w V b s n I 0) (J:Nat→Sto→Prop) (hJ:LQ n I J) (h0:J 0 s):Calls Tryz.prog 101 #[.pointer (some ⟨V,0,none⟩)] w fun e w'=>∃ s2,J I.toNat s2∧e=.returned (.int .i64 (bY s2))∧bu w' V b (cN s2) n I 0∧aB (V::b.all) w w':=by
 have hI:=(hJ.vs _ _ h0).1.bd
 have hlt:=h.row.lt
 have HJ:=Lib.hid hJ
 have S0:=Lib.hid ((Lo.start (L:=V::b.all) w (fun k hk=>by
  rcases List.mem_cons.1 hk with rfl | hk
  ·exact hlt
  ·exact h.store.lt k hk)).alloc _ rfl [.int .i64 1] 3)
 have HV0:=Lib.hid (h.alloc (.cells [.int .i64 1].toArray 3))
 have HNB:=Lib.hid h.nb
 have HBL:Hid (∀ k∈b.all,k<w.heap.size):=Lib.hid (fun k hk=>h.store.lt k hk)
 go_enter Tryz.func101,Tryz.ntmps101
 go_wp2_with fail
 go_loopw [3] (fun p wr=>∃ (C k:Nat) (s':Sto),(k:Int)≤I∧p=.pointer (some ⟨C,0,none⟩)∧Hid (Lo (V::b.all) w [(C,[.int .i64 ((k:Int)+1)])] wr)∧Hid (bu wr V b s' n I 0)∧Hid (J k s')) (fun p wr=>nN I p wr)
 case atStart=>exact ⟨_,0,s,by omega,rfl,Lib.hid (by exact S0.out),Lib.hid (by exact HV0.out),Lib.hid h0⟩
 case round=>
  clear S0 HV0 h0 h
  obtain ⟨C,k,s',hk,rfl,S,HV,HJk⟩:=hrel
  have cC:=(S.out.get 0 _ rfl).cell 0 _ rfl
  have cI:wr.cell? ⟨V,2,none⟩=some (.int .i64 I):=HV.out.row.cell 2 _ rfl
  have HCW:=Lib.hid cC
  by_cases hlt2:(k:Int)+1≤I
  ·go_wp2_with fail
   go_quiet (fail)
   replace S:=Lib.hid (S.out.drewN nq)
   replace HV:=Lib.hid (HV.out.below (below_drewN _ nq))
   clear cC cI
   generalize World.drewN _ _=w1 at S HV ⊢
   have HI:Hid (∀ kk W,TdS w V b n I s' C ((k:Int)+1) (Fs.bJ (nv s') ((k:Int)+1)) kk W→Calls Tryz.prog 159 #[.agg #[.pointer (some ⟨b.s,0,none⟩),.int .i64 n,.int .i64 I],.int .i64 ((k:Int)+1)] W fun e w'=>e=.returned (.tuple #[bH (Fs.bJ (nv s') ((k:Int)+1)),.int .i64 0])∧TdS w V b n I s' C ((k:Int)+1) (Fs.bJ (nv s') ((k:Int)+1)) kk w'):=Lib.hid (fun kk W hS=>by
    have:=fM hS.vol.store (HJ.out.vs _ _ HJk.out).1 ((k:Int)+1) (by omega) hlt2
    exact this.mono fun e w' hh=>⟨hh.1,hS.below hh.2⟩)
   have HSK:=Lib.hid (HJ.out.skip k s' HJk.out hlt2)
   have HST:=Lib.hid (HJ.out.none k s' HJk.out hlt2)
   have hvs:=(HJ.out.vs _ _ HJk.out)
   generalize Fs.bJ (nv s') ((k:Int)+1)=x at HI HSK HST
   go_wp2_with fail
   refine aO (TdS w V b n I s' C ((k:Int)+1) x) (fun _ _=>False) (fun i=>i == 9 || i == 10) (fun i=>[.pointer (some ⟨V,0,none⟩),.pointer (some ⟨V,0,none⟩),.pointer (some ⟨V,0,none⟩),.agg #[.pointer (some ⟨b.s,0,none⟩),.int .i64 n,.int .i64 I],.int .i64 ((k:Int)+1),.tuple #[bH x,.int .i64 0],.tuple #[bH x,.int .i64 0],bH x,.int .i64 0,undef,undef,.int .i64 0].getD i undef) none (by kernel_rfl) (by kernel_rfl) (fun _ _ _ _ h=>h.elim) (show TdS w V b n I s' C ((k:Int)+1) x none _ from TdS.below (k:=none) ⟨S.out,HV.out⟩ ((Below.refl _ _).drew)) ?_
   refine ag (i:=0) (d:=some 18) (v:=(.pointer (some ⟨V,0,none⟩))) rfl rfl (by kernel_rfl) (by kernel_rfl) rfl rfl (ae (by kernel_rfl) ?_) ?_
   ·((intro _ _ _;go_simp) <;> kernel_rfl)
   try simp only [Act.put,puA,puB,puC]
   refine ag (i:=1) (d:=some 19) (v:=(.pointer (some ⟨V,0,none⟩))) rfl rfl (by kernel_rfl) (by kernel_rfl) rfl rfl (ae (by kernel_rfl) ?_) ?_
   ·((intro _ _ _;go_simp) <;> kernel_rfl)
   try simp only [Act.put,puA,puB,puC]
   refine ag (i:=2) (d:=some 20) (v:=(.pointer (some ⟨V,0,none⟩))) rfl rfl (by kernel_rfl) (by kernel_rfl) rfl rfl (ae (by kernel_rfl) ?_) ?_
   ·((intro _ _ _;go_simp) <;> kernel_rfl)
   try simp only [Act.put,puA,puB,puC]
   refine ag (i:=3) (d:=some 21) (v:=(.agg #[.pointer (some ⟨b.s,0,none⟩),.int .i64 n,.int .i64 I])) rfl rfl (by kernel_rfl) (by kernel_rfl) rfl rfl (bM zV (by kernel_rfl) (.tmp 20) rfl rfl (fun kk W hS=>(TdS.vol hS).row.base)) ?_
   try simp only [Act.put,puA,puB,puC]
   refine ag (i:=4) (d:=some 22) (v:=(.int .i64 ((k:Int)+1))) rfl rfl (by kernel_rfl) (by kernel_rfl) rfl rfl (ae (by kernel_rfl) ?_) ?_
   ·(intro sZ wZ hZ;have cZ:=(fun kk W hS=>TdS.cell hS) sZ wZ hZ;go_simp)
   try simp only [Act.put,puA,puB,puC]
   refine ag (i:=5) (d:=some 23) (v:=(.tuple #[bH x,.int .i64 0])) rfl rfl (by kernel_rfl) (by kernel_rfl) rfl rfl (aR (f:=159) (args:=#[.agg #[.pointer (some ⟨b.s,0,none⟩),.int .i64 n,.int .i64 I],.int .i64 ((k:Int)+1)]) (by kernel_rfl) ?_ (fun kk W hS=>HI.out kk W hS)) ?_
   ·(intro _;go_simp)
   try simp only [Act.put,puA,puB,puC]
   refine ag (i:=6) (d:=some 17) (v:=(.tuple #[bH x,.int .i64 0])) rfl rfl (by kernel_rfl) (by kernel_rfl) rfl rfl (ae (by kernel_rfl) ?_) ?_
   ·((intro _ _ _;go_simp) <;> kernel_rfl)
   try simp only [Act.put,puA,puB,puC]
   refine ag (i:=7) (d:=some 24) (v:=(bH x)) rfl rfl (by kernel_rfl) (by kernel_rfl) rfl rfl (ae (by kernel_rfl) ?_) ?_
   ·((intro _ _ _;go_simp) <;> kernel_rfl)
   try simp only [Act.put,puA,puB,puC]
   refine ag (i:=8) (d:=some 25) (v:=(.int .i64 0)) rfl rfl (by kernel_rfl) (by kernel_rfl) rfl rfl (ae (by kernel_rfl) ?_) ?_
   ·((intro _ _ _;go_simp) <;> kernel_rfl)
   try simp only [Act.put,puA,puB,puC]
   refine cO (i:=9) (d:=some 4) [10] (fun u kk=>∃ a,u=.pointer (some ⟨a,0,none⟩)∧kk=some (false,a)) rfl rfl (by kernel_rfl) (by kernel_rfl) rfl (by kernel_rfl) ⟨_,_,0,rfl,rfl⟩ (by kernel_rfl) (fun W hS=>?_) ?_
   ·unfold eK
    go_simp
    exact ⟨hS.1.alloc W.heap.size rfl (aH Ii.zero) _,hS.2.alloc _⟩
   rintro _ _ ⟨a,rfl,rfl⟩
   try simp only [Act.put,puA,puB,puC]
   refine cO (i:=10) (d:=none) [] (fun u kk=>u=undef∧kk=some (true,a)) rfl rfl (by kernel_rfl) (by kernel_rfl) rfl (by kernel_rfl) ⟨_,_,rfl,rfl⟩ (by kernel_rfl) (fun W hS=>cJ (bA cz (hS.1.get 1 _ rfl) rfl rfl (aJ x) (.tmp 4) (.tmp 24) rfl rfl rfl ⟨_,⟨rfl,rfl⟩,hS.1.put 1 _ rfl (aH x) rfl,?_⟩)) ?_
   ·have hge:=(hS.1.row _ (List.mem_cons_of_mem _ (List.mem_cons_self ..))).2.1
    have hge2:w.heap.size≤a:=hge
    exact hS.2.only (L:=[a]) ((aB.refl [a] W).setCells a (by simp) _ 0 W) (by simp;omega) (fun i hi q=>by
     rw [List.mem_singleton] at q
     have:=HBL.out i hi
     omega)
   rintro _ _ ⟨rfl,rfl⟩
   try simp only [Act.put,puA,puB,puC]
   refine ag (i:=11) (d:=some 5) (v:=(.int .i64 0)) rfl rfl (by kernel_rfl) (by kernel_rfl) rfl rfl (ae (by kernel_rfl) ?_) ?_
   ·((intro _ _ _;go_simp) <;> kernel_rfl)
   try simp only [Act.put,puA,puB,puC]
   refine cH (by kernel_rfl) fun W hS=>?_
   clear S HV
   obtain ⟨S1,HV1⟩:=hS
   have S:Hid (Lo (V::b.all) w [(C,[.int .i64 ((k:Int)+1)]),(a,aH x)] W):=Lib.hid S1
   have HV:=Lib.hid HV1
   clear S1 HV1 HI
   have ck:=(S.out.get 1 _ rfl).cell 0 _ rfl
   have cl:=(S.out.get 1 _ rfl).cell 3 _ rfl
   by_cases hx:x.k=0∨0<x.l
   ·have HJ2:=Lib.hid (HSK.out hx)
    have cC:=(S.out.get 0 _ rfl).cell 0 _ rfl
    have gx:((x.k == 0)=true)∨((x.k == 0)=false∧0<x.l):=by
     by_cases q:x.k=0
     ·left;rw [q];rfl
     ·right;exact ⟨by simpa using q,by rcases hx with h | h;exact absurd h q;exact h⟩
    clear hx
    rcases gx with g1 | ⟨g1,g2⟩
    ·go_wp2_with fail
     exact xd S.out HV.out HJ2.out hlt2 HCW.out
    ·go_wp2_with fail
     exact xd S.out HV.out HJ2.out hlt2 HCW.out
   ·exact absurd HST.out hx
  ·go_wp2_with fail
   go_quiet (fail)
   replace S:=Lib.hid (S.out.drewN nq)
   replace HV:=Lib.hid (HV.out.below (below_drewN _ nq))
   clear cC cI
   generalize World.drewN _ _=w1 at S HV ⊢
   have hkk:k=I.toNat:=by omega
   have hvs:=HJ.out.vs _ _ HJk.out
   have HSY:=Lib.hid (AN HV.out hvs.1.snd.up hvs.1.snd.q0 hvs.2)
   go_wp2_with (go_at_call 94;(with_reducible refine HSY.out.mono ?_);rintro e w2 ⟨rfl,hv2,ho2⟩)
   go_ret
   exact ⟨s',hkk ▸ HJk.out,rfl,hv2,S.out.only.trans (ho2.mono (fun i hi=>List.mem_cons_of_mem _ (by simp only [Fb,Blk.all,List.mem_cons,List.not_mem_nil,or_false] at hi ⊢;rcases hi with h | h | h | h | h <;> simp [h])))⟩
end

section
open Go.RowKit Go.Maps
open Dk (av aa)
open Ii (Ino)
open Jn (Chg Cl)
def LS (w:World) (d l m:Nat) (K:Sto→Prop) (e:Ending) (w':World):Prop:=
 ∃ (b:Blk) (s:Sto),b.d=d∧b.l=l∧b.m=m∧w.heap.size≤b.s∧w.heap.size≤b.j∧w.heap.size≤b.t∧w.heap.size≤b.g∧e=.returned (.tuple #[.pointer (some ⟨b.s,0,none⟩),.int .i64 0])∧ay w' b s∧K s∧aB [d,l,m] w w'
def Kl (w:World) (d l m:Nat) (n I:Int) (K:Sto→Prop) (e:Ending) (w':World):Prop:=
 ∃ (V:Nat) (b:Blk) (s:Sto),b.d=d∧b.l=l∧b.m=m∧w.heap.size≤V∧w.heap.size≤b.s∧w.heap.size≤b.j∧w.heap.size≤b.t∧w.heap.size≤b.g∧e=.returned (.tuple #[.pointer (some ⟨V,0,none⟩),.int .i64 0])∧bu w' V b s n I 0∧K s∧aB [d,l,m] w w'
theorem CI {w:World} {d l m:Nat} {s:Dk.St} {n I:Int} (h:aG w d l m s) (hc:Cl s) (hn:(s.last.length:Int)=n) (hp:s.last.getD 0 []=Pl.bP n I) (hpl:Pl.aA n I=true) (K K2:Sto→Prop)
  (hO:∀ W,aG W d l m s→Calls Tryz.prog 98 #[.pointer (some ⟨d,0,none⟩),.int .i64 1,.int .i64 40] W (LS W d l m K))
  (hK:∀ s1,K s1→Vs s1 n I∧(Fs.bJ (nv s1) 1).k=2∧(Fs.bJ (nv s1) 1).l≠0∧∃ J,LQ n I J∧J 0 s1∧∀ s2,J I.toNat s2→bY s2=0∧K2 (cN s2)):
  Calls Tryz.prog 44 #[.pointer (some ⟨d,0,none⟩)] w (Kl w d l m n I K2):=by
 have HDN:=Lib.hid (lz h)
 rw [hc.up] at HDN
 have HLD:Hid (d<w.heap.size∧l<w.heap.size∧m<w.heap.size):=Lib.hid ⟨h.dlt,h.llt,h.mlt⟩
 have HP:Hid (Calls Tryz.prog 97 #[.pointer (some ⟨d,0,none⟩)] w fun e w'=>e=.returned (.tuple #[.agg #[.int .i64 n,.int .i64 I],.int .i64 0])∧Below w.heap.size w w'):=Lib.hid (zA h hc hn hp hpl)
 have HJN:Hid (∀ W,Calls Tryz.prog 99 #[.agg #[.int .i64 n,.int .i64 I]] W fun e w'=>e=.returned (.int .i64 1)∧Below W.heap.size W w'):=Lib.hid (fun W=>by
  have:=rH n I W
  rw [if_pos hpl] at this
  exact this)
 have HO:=Lib.hid hO
 have HK:=Lib.hid hK
 have HD:=Lib.hid h
 clear h hc hn hp hpl hO hK
 have S0:=Lib.hid (Lo.start (L:=[d,l,m]) w (by have:=HLD.out;simp;omega))
 go_enter Tryz.func44,Tryz.ntmps44
 go_wp2_with (first
  | (go_at_call 96;(with_reducible refine HDN.out.mono ?_);rintro e w1 ⟨rfl,rfl⟩)
  | (go_at_call 97;(with_reducible refine HP.out.mono ?_);rintro e w1 ⟨rfl,hb⟩;have S1:=Lib.hid (S0.out.below hb);have HD1:=Lib.hid (HD.out.below hb);clear hb S0 HD)
  | ((with_reducible refine ai (vs:=[.int .i64 n,.int .i64 I]) qt ?_ (jP n I) rfl (.tmp 4) (.tmp 15) rfl rfl ?_ ?_ ?_);(exact rfl);(exact rfl);(exact rfl);intro W2 hP hB2 hz2;have S2:=Lib.hid (S1.out.made hP hB2 hz2);have HD2:=Lib.hid (HD1.out.below hB2);clear hP hB2 hz2 S1 HD1)
  | (with_reducible refine wpList_load_mid rfl 132 (.tmp 4) rfl _ 0 rfl [.int .i64 n,.int .i64 I] _ (S2.out.get 0 _ rfl).range Tryz.underlying132 rfl (by kernel_rfl) ?_)
  | (go_at_call 99;(with_reducible refine (HJN.out _).mono ?_);rintro e w3 ⟨rfl,hb⟩;replace S2:=Lib.hid (S2.out.below hb);replace HD2:=Lib.hid (HD2.out.below hb);clear hb))
 have hge2:=S2.out.only.size
 refine (HO.out _ HD2.out).mono ?_
 rintro e w4 ⟨b,s1,b1,b2,b3,g1,g2,g3,g4,rfl,hst,hk,ho⟩
 have S4:=Lib.hid (S2.out.call ho (fun k hk=>hk))
 have HST:=Lib.hid hst
 obtain ⟨hvs,hr1,hr2,J,hJ,hJ0,hJe⟩:=HK.out s1 hk
 clear S2 HD2 hst hk ho HO HK
 go_wp2_with (first
  | (with_reducible refine wpList_load_mid rfl 132 (.tmp 4) rfl _ 0 rfl [.int .i64 n,.int .i64 I] _ (S4.out.get 0 _ rfl).range Tryz.underlying132 rfl (by kernel_rfl) ?_))
 have HV5:bu (w4.alloc (.cells (Hu b.s n I 0).toArray 136)) w4.heap.size b s1 n I 0:=⟨bh w4 (Hu b.s n I 0) _,HST.out.alloc _,fun q=>by have:=HST.out.lt _ q;omega⟩
 have S5:=Lib.hid (S4.out.below (bK w4 (.cells (Hu b.s n I 0).toArray 136)))
 have hV4:=S4.out.only.size
 change Calls _ _ _ (w4.alloc (.cells (Hu b.s n I 0).toArray 136)) _
 generalize w4.heap.size=V at HV5 hV4 ⊢
 generalize World.alloc _ _=w5 at HV5 S5 ⊢
 refine (zf HV5 hvs hr1 hr2).mono ?_
 rintro e w6 ⟨rfl,hb⟩
 have HV6:=HV5.below hb
 have S6:=Lib.hid (S5.out.below hb)
 clear HV5 S5 hb S4 HST
 go_wp2_with fail
 refine (EU HV6 J hJ hJ0).mono ?_
 rintro e w7 ⟨s2,hJ2,rfl,HV7,ho⟩
 obtain ⟨hE,hK2⟩:=hJe s2 hJ2
 rw [hE]
 go_wp2_with fail
 go_ret2
 refine ⟨V,b,cN s2,b1,b2,b3,hV4,by omega,by omega,by omega,by omega,rfl,HV7,hK2,S6.out.only.via ho (fun i hi=>?_)⟩
 simp only [Blk.all,List.mem_cons,List.not_mem_nil,or_false] at hi ⊢
 rcases hi with rfl | rfl | rfl | rfl | rfl | rfl | rfl | rfl
 ·right;exact hV4
 ·right;omega
 ·right;omega
 ·left;exact Or.inl b1
 ·left;exact Or.inr (Or.inl b2)
 ·left;exact Or.inr (Or.inr b3)
 ·right;omega
 ·right;omega
end

section
open Go.RowKit Go.Maps
open Dk (av aa)
open Ii (Ino)
open Hd (aM)
open Jn (Chg Cl Quiet bk)
structure sw (s:Sto) (n I:Int):Prop where
 st:s=Kp s.dk 1 40 37 1
 cl:Cl s.dk
 lim:s.dk.lim=false
 len:(s.dk.last.length:Int)=n
 head:s.dk.last.getD 1 []=aM (bk 1)
 dJ:∀ i,i<s.dk.last.length→i≠1→s.dk.last.getD i []=AF n I i
theorem sw.vs {s:Sto} {n I:Int} (h:sw s n I) (hpl:Pl.aA n I=true):Vs s n I:=by
 obtain ⟨h1,h2,h3,h4⟩:=Pl.aW hpl
 have hd:=Pl.dZ h1 h2
 have hlen:=h.len
 have hok:s.Ok:=by
  rw [h.st]
  exact Bn (by decide) (by decide) BK (by decide) (by decide) (by decide) (by omega)
 exact ⟨⟨hok,by rw [h.st];rfl,h.cl,by rw [h.st];show (0:Int)≤1;decide,by rw [h.st];exact h.head⟩,by rw [h.st];rfl,by rw [h.st];rfl,by rw [h.st];rfl,h.len,hpl⟩
theorem sw.pg {s:Sto} {n I:Int} (h:sw s n I) (i:Nat) (hi:(i:Int)<n) (h1:i≠1):nv s i=AF n I i:=by
 have hlen:=h.len
 rw [← h.dJ i (by omega) h1]
 unfold Go.Proofs.YtagfoogfpabdfaaGreat.nv jZ
 have e1:s.step=en s.dk.last.length:=by rw [h.st];rfl
 have e2:s.group=en s.dk.last.length:=by rw [h.st];rfl
 rw [e1,e2,jS];rfl
theorem sw.q {s:Sto} {n I:Int} (h:sw s n I):s.q=1∧ey s.group=0:=by
 constructor
 ·rw [h.st];rfl
 ·have e2:s.group=en s.dk.last.length:=by rw [h.st];rfl
  rw [e2,kz]
theorem sw.sync {s:Sto} {n I:Int} (h:sw s n I):bY s=0∧cN s=s:=by
 have hup:¬ s.over=true:=by rw [h.st];simp [Kp]
 constructor
 ·unfold bY;rw [if_neg hup,if_pos h.q.2]
 ·unfold cN;rw [if_neg hup,if_pos h.q.2]
theorem Fw:Ii.sB mU 0=zh:=by kernel_rfl
theorem zg:(Ii.sB mU 32).k=0:=by decide
theorem wX:(Ii.sB av 0).k=0∧(Ii.sB av 32).k=0:=by decide
theorem sw.Lt {s:Sto} {n I:Int} (h:sw s n I) (hpl:Pl.aA n I=true) (i:Int) (h1:1≤i) (h2:i≤I):Fs.bJ (nv s) i=if i=1 then zh else Ii.zero:=by
 obtain ⟨r1,r2,r3,r4⟩:=Pl.aW hpl
 have hd:=Pl.dZ r1 r2
 have hdn:Pl.aS I=43+(I+1) / 2:=rfl
 have ht:Fs.tbl i=43+((i - 1) / 2).toNat:=by unfold Fs.tbl;omega
 have hp:nv s (Fs.tbl i)=if (i - 1) / 2=0 then mU else av:=by
  rw [h.pg (Fs.tbl i) (by rw [ht];omega) (by rw [ht];omega)]
  unfold AF
  rw [if_neg (by rw [ht];omega),if_neg (by rw [ht];omega)]
  by_cases c:(i - 1) / 2=0
  ·rw [if_pos (by rw [ht];omega),if_pos c]
  ·rw [if_neg (by rw [ht];omega),if_neg c]
 have hh:Fs.dd i=0∨Fs.dd i=32:=by unfold Fs.dd;omega
 unfold Fs.bJ
 rw [hp]
 by_cases c1:i=1
 ·subst c1
  have hz0:((1:Int) - 1) / 2=0:=by decide
  have e:Fs.dd 1=0:=by decide
  rw [if_pos hz0,e,Fw,if_neg (show ¬ zh.k=0 by decide),if_pos rfl]
 ·rw [if_neg c1]
  by_cases c:(i - 1) / 2=0
  ·rw [if_pos c]
   have e:Fs.dd i=32:=by unfold Fs.dd;omega
   rw [e,if_pos zg]
  ·rw [if_neg c]
   rcases hh with e | e <;> rw [e]
   ·rw [if_pos wX.1]
   ·rw [if_pos wX.2]
theorem Gw {w:World} {d l m:Nat} {s:Dk.St} {n I:Int} (h:aG w d l m s) (hf:Fmt s n I) (hpl:Pl.aA n I=true):Calls Tryz.prog 98 #[.pointer (some ⟨d,0,none⟩),.int .i64 1,.int .i64 40] w (LS w d l m (fun s1=>sw s1 n I)):=by
 obtain ⟨r1,r2,r3,r4⟩:=Pl.aW hpl
 have hd:=Pl.dZ r1 r2
 have hlen:=hf.len
 have hp1:s.last.getD 1 []=av:=by rw [hf.dJ 1 (by omega)];rfl
 have hq:Quiet 1 40 0 s.last s.last:=by
  refine ⟨rfl,?_,?_,fun i hi=>rfl⟩
  ·rw [hp1];exact ⟨aa,by rw [vc];exact Int.le_refl _,by rw [yx];exact Int.le_refl _⟩
  ·rw [hp1];exact vb
 have ho:=Cw (a:=1) (z:=40) (r:=37) h hf.cl hq (Int.le_refl 0) (by omega) (by omega) (by omega) (by omega) BK (by omega) (by omega)
 have hn:Hd.dy [s.last.getD 1 []]=1:=by rw [hp1];exact yv
 rcases Jn.Mj (a:=1) (z:=40) hf.cl hq (by omega) (by omega) (Int.le_refl 0) (by omega) with ⟨e1,e2,e3,e4,e5⟩ | ⟨_,e,_⟩
 ·rw [hn] at ho e1 e2 e4 e5
  have hl2:(Jn.runs s [[⟨((1:Nat):Int),aM (bk 1)⟩]]).1.last.length=s.last.length:=by rw [e4,List.length_set]
  refine (Bx (r:=37) ⟨h.dlt,h.llt,h.mlt⟩ (by rw [hl2];omega) (by omega) (by omega) BK (by omega) (by omega) (by decide) ho).mono ?_
  rintro e w' ⟨k1,k2,k3⟩
  rcases k3 with ⟨_,b,cnt,q,b1,b2,b3,b4,b5,b6,b7,k4,⟨rfl,rfl⟩,k6⟩ | ⟨k4,_⟩
  ·refine ⟨b,_,b1,b2,b3,b4,b5,b6,b7,k4,k6,⟨rfl,e2,?_,?_,?_,?_⟩,k2⟩
   ·exact e5.trans hf.lim
   ·show ((Jn.runs s _).1.last.length:Int)=n
    rw [hl2,hlen]
   ·show (Jn.runs s _).1.last.getD 1 []=_
    rw [e4,List.getD_eq_getElem?_getD,List.getElem?_set_self (by omega)];rfl
   ·intro i hi h1
    show (Jn.runs s _).1.last.getD i []=_
    have hi2:i<s.last.length:=by rw [← hl2];exact hi
    rw [e4,List.getD_eq_getElem?_getD,List.getElem?_set_ne (fun q=>h1 q.symm),← List.getD_eq_getElem?_getD]
    exact hf.dJ i hi2
  ·exact absurd e1 k4
 ·rw [hf.lim] at e;cases e
theorem DF {w:World} {d l m:Nat} {s:Dk.St} {n I:Int} (h:aG w d l m s) (hf:Fmt s n I) (hpl:Pl.aA n I=true):Calls Tryz.prog 44 #[.pointer (some ⟨d,0,none⟩)] w (Kl w d l m n I (fun s1=>sw s1 n I)):=by
 obtain ⟨r1,r2,r3,r4⟩:=Pl.aW hpl
 have hd:=Pl.dZ r1 r2
 have hlen:=hf.len
 refine CI h hf.cl hf.len (by rw [hf.dJ 0 (by omega)];rfl) hpl (fun s1=>sw s1 n I) (fun s1=>sw s1 n I) (fun W hW=>Gw hW hf hpl) (fun s1 h1=>?_)
 have hi1:=h1.Lt hpl 1 (by omega) r1
 rw [if_pos rfl] at hi1
 refine ⟨h1.vs hpl,by rw [hi1];rfl,by rw [hi1];decide,fun _ s2=>s2=s1,⟨fun k s2 hs=>?_,fun k s2 hs _ _=>hs,fun k s2 hs hk=>?_⟩,rfl,fun s2 hs=>?_⟩
 ·subst hs
  exact ⟨h1.vs hpl,by rw [h1.q.1];decide⟩
 ·subst hs
  have hi:=h1.Lt hpl ((k:Int)+1) (by omega) hk
  rw [hi]
  by_cases c:(k:Int)+1=1
  ·rw [if_pos c]
   exact Or.inr (by decide)
  ·rw [if_neg c]
   exact Or.inl rfl
 ·subst hs
  obtain ⟨e1,e2⟩:=h1.sync
  rw [e2]
  exact ⟨e1,h1⟩
end

section
open Go.RowKit Go.Maps
open Dk (av aa)
open Hd (Head aA aM)
open Jn (Chg bk fy Cl Quiet uS May Same upd)
theorem Iw (cs:List Chg):∀ (L:List (List UInt8)) (c:Chg),cs.Pairwise (fun x y=>x.no<y.no)→(∀ x∈cs,0≤x.no)→c∈cs→c.no.toNat<L.length→(upd L cs).getD c.no.toNat []=c.aK:=by
 induction cs with
 | nil=>intro L c _ _ hc;cases hc
 |
  cons x r ih=>
  intro L c hp h0 hc hl
  obtain ⟨p1,p2⟩:=List.pairwise_cons.1 hp
  show (upd (L.set x.no.toNat x.aK) r).getD c.no.toNat []=_
  rcases List.mem_cons.1 hc with rfl | hc
  ·rw [Jn.db _ _ _ (fun y hy=>by have:=p1 y hy;have:=h0 c (by simp);have:=h0 y (by simp [hy]);omega),List.getD_eq_getElem?_getD,List.getElem?_set_self hl];rfl
  ·exact ih _ c p2 (fun y hy=>h0 y (by simp [hy])) hc (by rw [List.length_set];exact hl)
def gv (s:Sto) (i:Nat):List UInt8:=(s.group.getD i none).getD (s.dk.last.getD i [])
theorem Ky (s:Sto) (h:s.Ok) (i:Nat):(upd s.dk.last (lF s.group)).getD i []=gv s i:=by
 unfold gv
 cases e:s.group.getD i none with
 |
  some p=>
  have hm:(⟨(i:Int),p⟩:Chg)∈lF s.group:=gD.2 ⟨i,rfl,e⟩
  have:=Iw (lF s.group) s.dk.last ⟨(i:Int),p⟩ (wN _) (fun x hx=>by obtain ⟨k,hk,_⟩:=gD.1 hx;omega) hm (by
   show ((i:Int)).toNat<_
   rw [Int.toNat_natCast,← h.uY];exact xB e)
  exact this
 |
  none=>
  refine Jn.db _ _ _ (fun c hc q=>?_)
  obtain ⟨k,hk,hk2⟩:=gD.1 hc
  rw [hk,Int.toNat_natCast] at q
  rw [q,e] at hk2
  cases hk2
theorem Di {s:Sto} (h:s.Ok) {i:Nat}:gv (ri s) i=nv s i:=by
 unfold gv nv
 show ((jw s.group s.step).getD i none).getD (s.dk.last.getD i [])=_
 by_cases hi:i<s.group.length
 ·rw [sd _ _ _ hi];rfl
 ·have e1:(jw s.group s.step).getD i none=none:=by
   rw [List.getD_eq_getElem?_getD,List.getElem?_eq_none (by rw [dK];omega)];rfl
  have e2:jZ s i=none:=by
   unfold jZ
   rw [List.getD_eq_getElem?_getD,List.getElem?_eq_none (by rw [h.AD,← h.uY];omega),List.getD_eq_getElem?_getD,List.getElem?_eq_none (l:=s.group) (by omega)];rfl
  rw [e1,e2]
def Idle (s:Sto):Prop:=s.step=en s.dk.last.length
theorem Jy {s:Sto} (h:Idle s) (i:Nat):nv s i=gv s i:=by
 unfold nv gv jZ
 rw [h,jS];rfl
theorem Ds {s:Sto} (h:Idle s):oc s=s:=by
 unfold oc
 rw [← h]
def Out (n:Int) (i:Nat):Prop:=(i:Int)<n∧(i=0∨41≤i)
structure Calm (s:Sto) (n I:Int) (k:Nat):Prop where
 vs:Vs s n I
 idle:Idle s
 q:s.q≤1+2*(k:Int)
 lim:s.dk.lim=false
theorem nh.keeps {s s':Sto} {L:List Nat} (g:nh s s' L):s'.dk=s.dk∧s'.group=s.group∧s'.q=s.q∧s'.over=s.over∧s'.r=s.r:=by
 rw [g.same]
 exact ⟨rfl,rfl,rfl,rfl,rfl⟩
theorem sw.calm {s:Sto} {n I:Int} (h:sw s n I) (hpl:Pl.aA n I=true):Calm s n I 0:=
 ⟨h.vs hpl,by unfold Idle;rw [h.st];rfl,by rw [h.q.1];decide,h.lim⟩
theorem yj {α:Type} (p q:α→Bool):∀ l:List α,l.countP (fun i=>p i || q i)≤l.countP p+l.countP q
 | []=>by simp
 |
  x::r=>by
  have:=yj p q r
  rw [List.countP_cons,List.countP_cons,List.countP_cons]
  cases p x <;> cases q x <;> simp <;> omega
theorem uz (x:Nat):∀ N,(List.range N).countP (fun i=>i == x)≤(if x<N then 1 else 0)
 | 0=>by simp
 |
  N+1=>by
  have:=uz x N
  rw [List.range_succ,List.countP_append,List.countP_singleton]
  by_cases c:N=x
  ·subst c
   rw [if_neg (by omega)] at this
   simp;omega
  ·have e:(N == x)=false:=by simpa using c
   rw [e]
   simp only [Bool.false_eq_true,if_false]
   by_cases d:x<N
   ·rw [if_pos d] at this;rw [if_pos (show x<N+1 by omega)];omega
   ·rw [if_neg d] at this;rw [if_neg (show ¬ x<N+1 by omega)];omega
theorem uA (N:Nat):∀ L:List Nat,(List.range N).countP (fun i=>L.contains i)≤L.length
 | []=>by simp
 |
  x::L=>by
  have h1:=uA N L
  have h2:=yj (fun i=>i == x) (fun i=>L.contains i) (List.range N)
  have h3:=uz x N
  have e:(fun i=>(x::L).contains i)=fun i=>(i == x) || L.contains i:=by
   funext i
   rw [List.contains_cons]
  rw [e,List.length_cons]
  split at h3 <;> omega
theorem JY (N:Nat) (L:List Nat):Fs.uZ (en N) L≤L.length:=by
 unfold Fs.uZ
 have e:(en N).length=N:=by unfold en;simp
 rw [e]
 have h1:(List.range N).countP (fun i=>((en N).getD i none).isSome || L.contains i)=(List.range N).countP (fun i=>L.contains i):=by
  congr 1
  funext i
  rw [jS];rfl
 rw [h1]
 exact uA N L
end

namespace Fs
open Dk (av aa)
open Ii (Ino)
def Eqv (n:Int) (V V':View):Prop:=∀ i:Nat,41≤i→(i:Int)<n→V i=V' i
def Hr {α:Type} (n:Int) (m:M α) (V V':View):Prop:=Eqv n V V'→(m V).1=(m V').1∧Eqv n (m V).2.1 (m V').2.1∧(m V).2.2=(m V').2.2
def Loc {α:Type} (n:Int) (m:M α):Prop:=∀ V V',Hr n m V V'
def uR {α:Type} (n:Int) (f:View→α):Prop:=∀ V V',Eqv n V V'→f V=f V'
section
variable {α β:Type} {n:Int}
theorem bt (a:α):Loc n (ret a):=fun _ _ h=>⟨rfl,h,rfl⟩
theorem dn (e:Int):Loc n (fail e:M α):=fun _ _ h=>⟨rfl,h,rfl⟩
theorem CR {f:View→α} (hf:uR n f):Loc n (see f):=fun V V' h=>⟨by unfold see;rw [hf V V' h],h,rfl⟩
theorem cX {f:View→Except Int α} (hf:uR n f):Loc n (tell f):=fun V V' h=>⟨hf V V' h,h,rfl⟩
theorem qB (i:Nat) (p:List UInt8):Loc n (wr i p):=fun V V' h=>⟨rfl,fun j h1 h2=>by unfold wr upd;simp only;split;rfl;exact h j h1 h2,rfl⟩
theorem lr {m:M α} {f:α→M β} {V V':View} (hm:Hr n m V V') (hf:∀ a,(m V).1=.ok a→Hr n (f a) (m V).2.1 (m V').2.1):Hr n (andThen m f) V V':=by
 intro h
 obtain ⟨h1,h2,h3⟩:=hm h
 unfold andThen
 rcases e:m V with ⟨r,V1,L1⟩
 rcases e':m V' with ⟨r',V1',L1'⟩
 rw [e,e'] at h1 h2 h3
 simp only at h1 h2 h3
 subst h1 h3
 cases r with
 | error er=>exact ⟨rfl,h2,rfl⟩
 |
  ok a=>
  have hfa:=hf a (by rw [e])
  rw [e,e'] at hfa
  obtain ⟨k1,k2,k3⟩:=hfa h2
  exact ⟨k1,k2,by simp only;rw [k3]⟩
theorem aw {m:M α} {f:α→M β} (hm:Loc n m) (hf:∀ a,Loc n (f a)):Loc n (andThen m f):=fun V V'=>lr (hm V V') fun a _=>hf a _ _
theorem bQ {c:Prop} [Decidable c] {m m':M α} (h1:c→Loc n m) (h2:¬ c→Loc n m'):Loc n (if c then m else m'):=by
 split
 ·exact h1 ‹_›
 ·exact h2 ‹_›
theorem vZ {f:View→Except Int α} {g:α→M β} {e:Int} (h:∀ V,f V=.error e):Loc n (andThen (tell f) g):=by
 intro V V' hE
 rw [kC (show tell f V=(.error e,V,[]) by unfold tell;rw [h]),kC (show tell f V'=(.error e,V',[]) by unfold tell;rw [h])]
 exact ⟨rfl,hE,rfl⟩
end
section
variable {n I:Int} (hpl:Pl.aA n I=true)
include hpl
theorem tJ:1≤I∧I≤128∧n≤512∧Pl.aS I<n∧44≤Pl.aS I∧Pl.aS I≤107∧Pl.aS I=43+(I+1) / 2:=by
 obtain ⟨h1,h2,h3,h4⟩:=Pl.aW hpl
 have hd:=Pl.dZ h1 h2
 exact ⟨h1,h2,h3,h4,hd.1,hd.2,rfl⟩
theorem Hy {i:Int} (h1:1≤i) (h2:i≤I):43≤tbl i∧(tbl i:Int)<Pl.aS I:=by
 obtain ⟨b1,b2,b3,b4,b5,b6,b7⟩:=tJ hpl
 unfold tbl
 omega
theorem oS {i:Int} (h1:1≤i) (h2:i≤I):uR n (fun V=>bJ V i):=fun V V' h=>by
 obtain ⟨b1,b2,b3,b4,b5,b6,b7⟩:=tJ hpl
 have ht:=Hy hpl h1 h2
 simp only
 unfold bJ
 rw [h (tbl i) (by omega) (by omega)]
theorem zS (i:Int):uR n (lv I i):=fun V V' h=>by
 unfold lv
 by_cases c:1≤i∧i≤I
 ·have:=oS hpl c.1 c.2 V V' h
  simp only at this
  rw [if_pos c,if_pos c,this]
 ·rw [if_neg c,if_neg c]
theorem jV (i:Int):uR n (cV I i):=fun V V' h=>by
 unfold cV
 by_cases c:1≤i∧i≤I
 ·have:=oS hpl c.1 c.2 V V' h
  simp only at this
  rw [if_pos c,if_pos c,this]
 ·rw [if_neg c,if_neg c]
theorem tU:∀ (c:Nat) (i:Int),1≤i→i+c≤I+1→uR n (fun V=>fx V c i)
 | 0,_,_,_=>fun _ _ _=>rfl
 |
  c+1,i,h1,h2=>fun V V' h=>by
  have e:=oS hpl h1 (by omega) V V' h
  have r:=tU c (i+1) (by omega) (by omega) V V' h
  simp only at e r ⊢
  rw [fx,fx,e,r]
theorem nx {i:Int} (h1:1≤i) (h2:i≤I) (x:Ino):Loc n (sy i x):=fun V V' h=>by
 obtain ⟨b1,b2,b3,b4,b5,b6,b7⟩:=tJ hpl
 have ht:=Hy hpl h1 h2
 unfold sy
 rw [← h (tbl i) (by omega) (by omega)]
 split
 ·exact bt () V V' h
 ·exact qB _ _ V V' h
theorem ll {at1:Nat} (h1:41≤at1) (h2:at1≤42) (bit:Int) (on1:Bool):Loc n (lj at1 bit on1):=fun V V' h=>by
 obtain ⟨b1,b2,b3,b4,b5,b6,b7⟩:=tJ hpl
 unfold lj
 rw [← h at1 h1 (by omega)]
 exact qB _ _ V V' h
theorem ny (m:Int):uR n (dL n I m):=fun V V' h=>by
 obtain ⟨b1,b2,b3,b4,b5,b6,b7⟩:=tJ hpl
 unfold dL
 by_cases c:m=0
 ·rw [if_pos c,if_pos c]
 ·rw [if_neg c,if_neg c]
  by_cases d:bZ n I m
  ·have d2:=d
   unfold bZ at d2
   rw [if_pos d,if_pos d,h m.toNat (by omega) (by omega)]
  ·rw [if_neg d,if_neg d]
theorem Gc {m:Int} (hd:bZ n I m):uR n (fun V=>V m.toNat):=fun V V' h=>by
 obtain ⟨b1,b2,b3,b4,b5,b6,b7⟩:=tJ hpl
 unfold bZ at hd
 exact h m.toNat (by omega) (by omega)
theorem xO:Loc n (sV n I):=by
 obtain ⟨b1,b2,b3,b4,b5,b6,b7⟩:=tJ hpl
 unfold sV
 refine aw (CR fun V V' h=>by rw [h 42 (by omega) (by omega)]) fun b=>bQ (fun _=>dn _) fun _=>?_
 exact aw (ll hpl (by omega) (by omega) _ _) fun _=>aw (qB _ _) fun _=>bt _
theorem CY:∀ (ks:List Int) (m:Int),uR n (fun V=>goF n I V ks m)
 | [],_=>fun _ _ _=>rfl
 |
  k::ks,m=>fun V V' h=>by
  have e:=ny hpl m V V' h
  simp only
  rw [goF,goF,e]
  cases dL n I m V' with
  | ok p=>exact CY ks _ V V' h
  | error er=>rfl
theorem Gf (x:Ino) (i:Int):uR n (findF n I x i):=fun V V' h=>CY hpl _ _ V V' h
theorem CV (x:Ino) (i:Int):uR n (gK n I x i):=fun V V' h=>by
 unfold gK
 rw [Gf hpl x i V V' h]
 cases findF n I x i V' with
 | ok m=>exact ny hpl m V V' h
 | error e=>rfl
theorem tT (x:Ino):∀ cs:List Pc,uR n (fun V=>fb n I x V cs)
 | []=>fun V V' _=>(gQ n I x V).trans (gQ n I x V').symm
 |
  c::cs=>fun V V' h=>by
  have e:fb n I x V cs=fb n I x V' cs:=tT x cs V V' h
  have e2:=CV hpl x c.idx V V' h
  show fb n I x V (c::cs)=fb n I x V' (c::cs)
  exact (jO n I x V c cs).trans ((congrArg (zl Bc c · _) e).trans ((congrArg (zl Bc c _) e2).trans (jO n I x V' c cs).symm))
theorem CT (i off cnt:Int):uR n (jb n I i off cnt):=fun V V' h=>by
 unfold jb
 rw [jV hpl i V V' h]
 cases cV I i V' with
 | error e=>rfl
 |
  ok x=>
  simp only
  split
  ·rfl
  ·exact tT hpl x _ V V' h
theorem sa:∀ (ks:List Int) (m:Int),Loc n (goR n I ks m)
 | [],m=>bt m
 |
  k::ks,m=>by
  rw [goR]
  refine aw (cX (ny hpl m)) fun p=>bQ (fun _=>?_) fun _=>sa ks _
  exact aw (xO hpl) fun t=>aw (qB _ _) fun _=>sa ks t
theorem CU (x:Ino) (i:Int):Loc n (mC n I x i):=by
 unfold mC
 refine bQ (fun _=>?_) fun _=>?_
 ·exact aw (xO hpl) fun m=>aw (sa hpl _ _) fun t=>bt _
 ·exact aw (sa hpl _ _) fun t=>bt _
theorem tR:∀ (cs:List Pc) (x:Ino) (t:List UInt8),Loc n (mS n I cs x t)
 | [],x,_=>bt x
 |
  c::cs,x,t=>by
  rw [mS]
  exact aw (CU hpl x _) fun z=>aw (cX (ny hpl _)) fun p=>aw (qB _ _) fun _=>tR cs _ _
omit hpl in
theorem oT {sub:Int→Int→M Int} (hs:∀ a b,Loc n (sub a b)) (q frm:Int) (was:List UInt8):∀ (c k:Nat) (p:List UInt8),Loc n (jE sub q frm was k c p)
 | 0,_,p=>bt p
 |
  c+1,k,p=>by
  rw [jE]
  exact aw (hs _ _) fun y=>oT hs q frm was c (k+1) _
theorem wa {sub:Int→Int→M Int} (hs:∀ a b,Loc n (sub a b)) (q m frm:Int) (hm:bZ n I m):Loc n (mi sub q m frm):=by
 unfold mi
 refine aw (CR (Gc hpl hm)) fun was=>aw (oT hs q frm was 32 0 was) fun p=>?_
 refine bQ (fun _=>bt _) fun _=>bQ (fun _=>bt _) fun _=>?_
 exact aw (qB _ _) fun _=>bt _
theorem ku:∀ (d:Nat) (m frm:Int),Loc n (kE n I d m frm)
 |
  0,m,frm=>by
  rw [kE]
  refine bQ (fun _=>bt _) fun _=>bQ (fun _=>?_) fun _=>bt _
  exact aw (ll hpl (by decide) (by decide) _ _) fun _=>bt _
 |
  d+1,m,frm=>by
  rw [kE]
  refine bQ (fun _=>bt _) fun _=>bQ (fun hm=>?_) fun _=>bt _
  refine aw (wa hpl (fun a b=>ku d a b) _ _ _ hm) fun left=>bQ (fun _=>bt _) fun _=>?_
  exact aw (ll hpl (by decide) (by decide) _ _) fun _=>bt _
theorem wc (x:Ino) (frm:Int):Loc n (pt n I x frm):=by
 unfold pt
 exact aw (ku hpl 0 _ _) fun _=>aw (ku hpl 0 _ _) fun _=>aw (ku hpl 0 _ _) fun _=>aw (ku hpl 0 _ _) fun _=>aw (ku hpl 1 _ _) fun _=>aw (ku hpl 2 _ _) fun _=>bt _
omit hpl in
theorem tS (x:Ino):Loc n (kV n I x):=by
 unfold kV
 exact bQ (fun _=>dn _) fun _=>bt _
theorem Jq (x:Ino):Loc n (Ik n I x):=by
 obtain ⟨b1,b2,b3,b4,b5,b6,b7⟩:=tJ hpl
 unfold Ik xV
 refine aw (tS _) fun y=>fun V V'=>?_
 refine lr (cX (tU hpl I.toNat 1 (by omega) (by omega)) V V') fun i hi=>?_
 have hb:=sb _ _ (show fx V I.toNat 1=.ok i from hi)
 exact (aw (nx hpl (by omega) (by omega) y) fun _=>aw (ll hpl (by decide) (by decide) _ _) fun _=>bt _) _ _
omit hpl in
theorem nO {i:Int} (c:¬ (1≤i∧i≤I)) (V:View):cV I i V=.error 22:=by unfold cV;rw [if_neg c]
theorem zU (i:Int) (x:Ino):Loc n (mn n I i x):=by
 unfold mn
 by_cases c:1≤i∧i≤I
 ·exact aw (cX (jV hpl i)) fun was=>aw (tS _) fun y=>nx hpl c.1 c.2 y
 ·exact vZ (nO c)
theorem vY (i:Int):Loc n (jN n I i):=by
 unfold jN
 by_cases c:1≤i∧i≤I
 ·exact aw (cX (jV hpl i)) fun x=>aw (wc hpl x 0) fun _=>aw (nx hpl c.1 c.2 _) fun _=>ll hpl (by decide) (by decide) _ _
 ·exact vZ (nO c)
theorem CP (i off:Int) (t:List UInt8):Loc n (iN n I i off t):=by
 unfold iN
 by_cases c:1≤i∧i≤I
 ·refine aw (cX (jV hpl i)) fun x=>bQ (fun _=>dn _) fun _=>bQ (fun _=>bt _) fun _=>bQ (fun _=>dn _) fun _=>?_
  exact aw (tR hpl _ _ _) fun y=>nx hpl c.1 c.2 y
 ·exact vZ (nO c)
end
end Fs

section
open Go.RowKit Go.Maps
open Dk (av aa)
open Ii (Ino)
theorem sw.eqv {s:Sto} {n I:Int} (h:sw s n I):Fs.Eqv n (nv s) (AF n I):=fun i h1 h2=>h.pg i h2 (by omega)
end

section
open Go.RowKit Go.Maps
open Dk (av aa)
open Ii (Ino)
end

section
open Go.ChangeShapes Go.WideShapes Go.ChangeAt Go.RowKit
open Dk (av aa)
open Ii (Ino)
end

section
open Go.RowKit Go.Maps
open Dk (av aa)
open Ii (Ino)
namespace Fs
end Fs
end

namespace Fs
open Dk (av aa)
open Ii (Ino)
section
variable {α β:Type} {V:View}
end
section
variable {n I:Int} {V:View}
end
def Z (p:List UInt8) (k:Nat):Prop:=p.length=64∧∀ j,j<2*k→p[j]?=some 0
section
variable {n I:Int} (hd:44≤Pl.aS I)
include hd
end
end Fs

namespace Fs
open Dk (av aa)
open Ii (Ino)
def Frame {α:Type} (m:M α):Prop:=∀ V j,j∉(m V).2.2→(m V).2.1 j=V j
section
variable {n I:Int} (hpl:Pl.aA n I=true)
include hpl
end
section
variable {n I:Int} (hpl:Pl.aA n I=true)
include hpl
end
end Fs

namespace Fs
open Dk (av aa)
open Ii (Ino)
section
variable {n I:Int} (hpl:Pl.aA n I=true)
include hpl
end
section
variable {n I:Int} (hpl:Pl.aA n I=true)
include hpl
end
end Fs
section
open Dk (av aa)
open Ii (Ino)
end

section
open Go.RowKit Go.Maps
open Dk (av aa)
open Ii (Ino)
namespace Fs
end Fs
namespace Fs
end Fs
end

section
open Dk (av aa)
open Ii (Ino)
namespace Fs
section
variable {n I:Int} (hpl:Pl.aA n I=true)
include hpl
end
end Fs
section
variable {α:Type} {s u:Sto} {n I:Int} {k k':Nat} {m:Fs.M α}
end
section
variable {n I:Int} {fl:Bool} {os:List Fop} {V0 U:Fs.View} {k:Nat} {o:Fop}
end
end
end Go.Proofs.YtagfoogfpabdfaaGreat
