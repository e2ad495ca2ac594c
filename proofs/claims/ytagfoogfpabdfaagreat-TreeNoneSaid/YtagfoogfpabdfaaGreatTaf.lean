/- Texts of the proof. -/
import Derived.Test.YtagfoogfpabdfaaGreatTae
import Derived.Test.YtagfoogfpabdfaaGreatTaa
import Derived.IntWalk
import Derived.OwnWalk
import Derived.Shelf.SlIterI.Nil
import Derived.Shelf.SortM.Plain
import Derived.Shelf.SortM.SortNone
set_option maxRecDepth 100000
set_option maxHeartbeats 16000000
namespace Go.Proofs.YtagfoogfpabdfaaGreat
section
open Dk (av aa)
open Go.RowKit
open Ii (Ino)
theorem cz:mN 103 11:=⟨⟨_,Tryz.underlying103,rfl⟩,by kernel_rfl⟩
def aH (x:Ino):List Value:=[.int .i64 x.k,.int .i64 x.p,.int .i64 x.u,.int .i64 x.l,.int .i64 x.s,.int .i64 x.a,.int .i64 x.b,.int .i64 x.c,.int .i64 x.d,.int .i64 x.e,.int .i64 x.f]
theorem aJ (x:Ino):∀ v∈aH x,v.oneCell'=true:=by
 intro v hv
 simp only [aH,List.mem_cons,List.not_mem_nil,or_false] at hv
 rcases hv with rfl | rfl | rfl | rfl | rfl | rfl | rfl | rfl | rfl | rfl | rfl <;> rfl
def bH (x:Ino):Value:=.agg #[.int .i64 x.k,.int .i64 x.p,.int .i64 x.u,.int .i64 x.l,.int .i64 x.s,.int .i64 x.a,.int .i64 x.b,.int .i64 x.c,.int .i64 x.d,.int .i64 x.e,.int .i64 x.f]
def aZ (n:Int) (x:Ino):List Value:=[.int .i64 n,.int .i64 x.k,.int .i64 x.p,.int .i64 x.u,.int .i64 x.l,.int .i64 x.s]
theorem bq (n:Int) (x:Ino):∀ v∈aZ n x,v.oneCell'=true:=by
 intro v hv
 simp only [aZ,List.mem_cons,List.not_mem_nil,or_false] at hv
 rcases hv with rfl | rfl | rfl | rfl | rfl | rfl <;> rfl
def fH (n:Int) (x:Ino):Value:=.agg #[.int .i64 n,.int .i64 x.k,.int .i64 x.p,.int .i64 x.u,.int .i64 x.l,.int .i64 x.s]
theorem Mr:∃ i,Tryz.prog.info? 3=some i:=by
 cases h:Tryz.prog.info? 3 with
 | none=>
      have e:(Tryz.prog.info? 3).isSome=true:=by kernel_rfl
      rw [h] at e;cases e
 | some i=>exact ⟨i,rfl⟩
theorem Ir:Tryz.prog.cellsOf 3=1:=by kernel_rfl
def kv (l:List Int):List Value:=l.map fun n=>Value.int .i64 n
theorem tn (w:World) (p:List Int) (i:Nat) (h:i<p.length):(part 3 (kv p).toArray i).run Tryz.prog w=.ok (.int .i64 p[i]) w:=by
 have e:((kv p).toArray)[i]?=some (.int .i64 p[i]):=by
  rw [List.getElem?_toArray]
  unfold kv
  rw [List.getElem?_map,List.getElem?_eq_getElem h];rfl
 have ha:(isAgg 3).run Tryz.prog w=.ok false w:=by
  unfold isAgg
  rw [Sem.run_bind,run_underlying Tryz.underlying3 w];rfl
 unfold part
 rw [Sem.run_bind,ha]
 simp only [Result.andThen_ok,e]
 rfl
theorem ql (w:World) (p q:List Int) (hl:p.length=q.length) (d:Nat):∀ (n i:Nat),i+n=p.length →
  (Op.eqItems (d+1) 3 1 (kv p).toArray (kv q).toArray (List.range' i n)).run Tryz.prog w=.ok (decide (p.drop i=q.drop i)) w
 |
  0,i,h=>by
  rw [List.range'_zero,Op.eqItems,List.drop_of_length_le (by omega),List.drop_of_length_le (by omega)];rfl
 |
  n+1,i,h=>by
  have hp:i<p.length:=by omega
  have hq:i<q.length:=by omega
  have e1:=tn w p i hp
  have e2:=tn w q i hq
  have e3:=run_equalIn_int (P:=Tryz.prog) w d 3 .i64 .i64 p[i] q[i] Tryz.underlying3
  have ih:=ql w p q hl d n (i+1) (by omega)
  rw [List.range'_succ,Op.eqItems,Nat.mul_one]
  simp only [Sem.run_bind,e1,e2,e3,Result.andThen_ok]
  have dp:p.drop i=p[i]::p.drop (i+1):=List.drop_eq_getElem_cons hp
  have dq:q.drop i=q[i]::q.drop (i+1):=List.drop_eq_getElem_cons hq
  by_cases c:p[i]=q[i]
  ·have c1:(p[i] == q[i])=true:=by rw [c];exact beq_self_eq_true _
   rw [c1]
   simp only [Bool.not_true,Bool.false_eq_true,if_false]
   rw [ih]
   congr 1
   rw [dp,dq,decide_eq_decide,c,List.cons.injEq]
   exact ⟨fun h=>⟨rfl,h⟩,fun h=>h.2⟩
  ·have c1:(p[i] == q[i])=false:=beq_eq_false_iff_ne.2 c
   rw [c1]
   simp only [Bool.not_false,if_true]
   rw [Sem.run_pure]
   congr 1
   rw [dp,dq]
   symm
   rw [decide_eq_false_iff_not]
   intro e
   exact c (by injection e)
theorem ze (w:World) (a b c d a' b' c' d':Int):(Op.equalIn 9999 101 (.agg #[.int .i64 a,.int .i64 b,.int .i64 c,.int .i64 d]) (.agg #[.int .i64 a',.int .i64 b',.int .i64 c',.int .i64 d'])).run Tryz.prog w=.ok (decide ([a,b,c,d]=[a',b',c',d'])) w:=by
 obtain ⟨i,hi⟩:=Mr
 rw [run_equalIn_array w 9998 _ _ Tryz.underlying101 hi,Ir,List.range_eq_range']
 exact ql w [a,b,c,d] [a',b',c',d'] rfl 9997 4 0 rfl
theorem og (w:World) (a b:Operand) (x y:Ino):(eqGuard .eql 103 a b (bH x) (bH y)).run Tryz.prog w=.ok () w:=
 run_eqGuard_agg w .eql 103 a b _ _ (by kernel_rfl)
theorem tm (w:World) (x:Ino):(binOp .eql 103 (bH x) (bH Ii.zero)).run Tryz.prog w=.ok (.bool (Ii.iZ x)) w:=by
 unfold bH
 have h4:=ze w x.a x.b x.c x.d 0 0 0 0
 unfold Ii.zero
 go_simp
 unfold Ii.iZ
 clear h4
 repeat' split
 all_goals
  congr 2
  symm
  first
   | (rw [decide_eq_true_iff];omega)
   | (rw [decide_eq_false_iff_not];omega)
structure nE (w0:World) (q z:List UInt8) (x:Ino) (W:World):Prop where
 aK:aD W w0.heap.size q
 ino:au W (w0.heap.size+1) (aH x)
 out:aD W (w0.heap.size+2) z
 below:Below w0.heap.size w0 W
theorem nE.call {w0:World} {q z:List UInt8} {x:Ino} {W W':World} (k:nE w0 q z x W) (hb:Below W.heap.size W W'):nE w0 q z x W':=
 ⟨k.aK.step hb,au.step k.ino hb,k.out.step hb,k.below.trans (hb.mono k.below.size)⟩
theorem nE.store {w0:World} {q z p:List UInt8} {x:Ino} {W:World} (k:nE w0 q z x W) (hp:p.length=64):nE w0 p z x (W.setCells w0.heap.size 0 (ab p)):=
 ⟨k.aK.put p hp,k.ino.bl _ _ _ (by omega),k.out.bl _ _ _ (by omega),below_setCells _ (Nat.le_refl _) _ _ _ k.below⟩
theorem nE.back {w0:World} {q z p:List UInt8} {x:Ino} {W:World} (k:nE w0 q z x W) (hp:p.length=64):aD (W.setCells (w0.heap.size+2) 0 (ab p)) (w0.heap.size+2) p∧Below w0.heap.size w0 (W.setCells (w0.heap.size+2) 0 (ab p)):=
 ⟨k.out.put p hp,below_setCells _ (by omega) _ _ _ k.below⟩
theorem xA (w:World) (p:List UInt8) (x:Ino) (t:TypeId) (hp:p.length=64):
  nE w p av x (((w.alloc (.cells (ab p).toArray 87)).alloc (.cells (aH x).toArray t)).alloc (.cells zeroCells 87)) where
 aK:=((bF w p _ hp).alloc _).alloc _
 ino:=by
  have h:=(bh (w.alloc (.cells (ab p).toArray 87)) (aH x) t).alloc (.cells zeroCells 87)
  rw [World.size_alloc] at h
  exact h
 out:=by
  have h:=di ((w.alloc (.cells (ab p).toArray 87)).alloc (.cells (aH x).toArray t)) 87
  rw [World.size_alloc,World.size_alloc] at h
  exact h
 below:=(((Below.refl _ _).alloc (Nat.le_refl _) _).alloc (by simp) _).alloc (by simp;omega) _
theorem aI {ops:Array Oper} {rest:List Oper} {op:Oper} {a:Act} {Q:Exit→Act→World→Prop} {w0 W:World} {q z p:List UInt8} {x:Ino} (k:nE w0 q z x W) (hp:p.length=64) (hgd:op.guard=none) (u v:Operand) (ho:op.op=.store 87 u v)
  (hx:a.eval u=.pointer (some ⟨w0.heap.size,0,none⟩)) (hy:a.eval v=an p) (h:∀ W2,nE w0 p z x W2→wpList Tryz.prog ops Q rest (a.put op.dst undef) W2):wpList Tryz.prog ops Q (op::rest) a W:=
 ax k.aK hp hgd u v ho hx hy (h _ (k.store hp))
end

section
open Dk (av aa)
open Go.RowKit
end

section
open Dk (av aa)
open Go.RowKit
def nt (p:List UInt8) (i:Int):Int:=if 0≤i∧i<32 then Pg.ba p (2*i) 2 else 0
def fa (p:List UInt8) (i n:Int):List UInt8:=if 0≤i∧i<32 then Pg.eV p (2*i) 2 n else p
theorem dQ (p:List UInt8) (i n:Int) (h:p.length=64):(fa p i n).length=64:=by
 unfold fa
 split
 ·exact Pg.aP _ _ _ _ h
 ·exact h
theorem jR (p:List UInt8) (i:Int) (w:World) (hp:p.length=64):
  Calls Tryz.prog 176 #[an p,.int .i64 i] w fun e w'=>e=.returned (.int .i64 (nt p i))∧Below w.heap.size w w':=by
 have HP:=Lib.hid (bF w p 87 hp)
 have HB:Hid (Below w.heap.size w (w.alloc (.cells (ab p).toArray 87))):=Lib.hid ((Below.refl _ _).alloc (Nat.le_refl _) _)
 by_cases c:0≤i∧i<32
 ·have HG:Hid (∀ w,Calls Tryz.prog 205 #[an p,.int .i64 (i*2),.int .i64 2] w fun e w'=>e=.returned (.int .i64 (nt p i))∧Below w.heap.size w w'):=Lib.hid (fun w=>by
   have:=bx p (i*2) 2 w hp (by omega) (by omega)
   unfold nt
   rw [if_pos c,Int.mul_comm 2 i]
   exact this)
  generalize nt p i=x at HG ⊢
  have HA:=Lib.hid (fun w=>uN 32 i w c.1 c.2)
  obtain ⟨c1,c2⟩:=c
  clear hp
  have w1:IntKind.i64.wrap (i*2)=i*2:=IntWalk.i64_in _ (by omega)
  unfold an
  go_enter Tryz.func176,Tryz.ntmps176
  go_wp2_with fail
  generalize w.alloc (.cells (ab p).toArray 87)=w0 at HP HB ⊢
  generalize w.heap.size=D at HP ⊢
  refine (HA.out _).mono ?_
  rintro e w' ⟨rfl,rfl⟩
  go_wp2_with (first
   | (with_reducible refine ah HP.out rfl (.tmp 2) rfl rfl ?_)
   | (go_at_call 205;(with_reducible refine (HG.out _).mono ?_);rintro e w2 ⟨rfl,hb⟩))
  go_ret
  exact ⟨rfl,HB.out.trans (hb.mono HB.out.size)⟩
 ·have HE:Hid (nt p i=0):=Lib.hid (by unfold nt;rw [if_neg c])
  have HA:=Lib.hid (fun w=>yr 32 i w c)
  rw [HE.out]
  clear hp c HE
  unfold an
  go_enter Tryz.func176,Tryz.ntmps176
  go_wp2_with (go_at_call 223;(with_reducible refine (HA.out _).mono ?_);rintro e w' ⟨rfl,rfl⟩)
  go_ret
  exact ⟨rfl,HB.out⟩
theorem ir (p:List UInt8) (i n:Int) (w:World) (hp:p.length=64):
  Calls Tryz.prog 177 #[an p,.int .i64 i,.int .i64 n] w fun e w'=>e=.returned (an (fa p i n))∧Below w.heap.size w w':=by
 have HS:=Lib.hid (jj w p hp)
 by_cases c:0≤i∧i<32
 ·have hq:=dQ p i n hp
  have HG:Hid (∀ w,Calls Tryz.prog 195 #[an p,.int .i64 (i*2),.int .i64 2,.int .i64 n] w fun e w'=>e=.returned (an (fa p i n))∧Below w.heap.size w w'):=Lib.hid (fun w=>by
   have:=ek p (i*2) 2 n w hp (by omega) (by omega)
   unfold fa
   rw [if_pos c,Int.mul_comm 2 i]
   exact this)
  generalize fa p i n=q at HG hq ⊢
  have HQ:=Lib.hid hq
  have HA:=Lib.hid (fun w=>uN 32 i w c.1 c.2)
  obtain ⟨c1,c2⟩:=c
  clear hp hq
  have w1:IntKind.i64.wrap (i*2)=i*2:=IntWalk.i64_in _ (by omega)
  unfold an
  go_enter Tryz.func177,Tryz.ntmps177
  go_wp2_with fail
  refine (HA.out _).mono ?_
  rintro e w' ⟨rfl,rfl⟩
  rw [← az]
  generalize (w.alloc (.cells (ab p).toArray 87)).alloc (.cells zeroCells 87)=w1 at HS ⊢
  go_wp2_with (first
   | (with_reducible refine ah HS.out.1 rfl (.tmp 3) rfl rfl ?_)
   | (go_at_call 195;(with_reducible refine (HG.out _).mono ?_);rintro e w2 ⟨rfl,hb⟩;have Z:=Lib.hid (HS.out.2.1.step hb);have B:=Lib.hid (HS.out.2.2.trans (hb.mono HS.out.2.2.size));clear hb)
   | (with_reducible refine ax Z.out HQ.out rfl (.tmp 6) (.tmp 15) rfl rfl rfl ?_))
  exact bodyPost_ret (bE _ 6 rfl _ (Z.out.put _ HQ.out) rfl) rfl ⟨rfl,below_setCells _ (by omega) _ _ _ B.out⟩
 ·have HE:Hid (fa p i n=p):=Lib.hid (by unfold fa;rw [if_neg c])
  have HA:=Lib.hid (fun w=>yr 32 i w c)
  have HL:=Lib.hid hp
  rw [HE.out]
  clear hp c HE
  unfold an
  go_enter Tryz.func177,Tryz.ntmps177
  go_wp2_with fail
  refine (HA.out _).mono ?_
  rintro e w' ⟨rfl,rfl⟩
  rw [← az]
  generalize (w.alloc (.cells (ab p).toArray 87)).alloc (.cells zeroCells 87)=w1 at HS ⊢
  go_wp2_with (first
   | (with_reducible refine ah HS.out.1 rfl (.tmp 3) rfl rfl ?_)
   | (with_reducible refine ax HS.out.2.1 HL.out rfl (.tmp 6) (.tmp 10) rfl rfl rfl ?_))
  exact bodyPost_ret (bE _ 6 rfl _ (HS.out.2.1.put _ HL.out) rfl) rfl ⟨rfl,below_setCells _ (by omega) _ _ _ HS.out.2.2⟩
theorem Lu:(Tryz.prog.info? 3).map (fun i=>(i.zero,i.size,i.bytes))=some (some (.int .i64 0),1,8):=by kernel_rfl
theorem CM (n:Nat):madeCells (Value.int .i64 0).cells n=Array.replicate n (.int .i64 0):=by
 apply Array.ext'
 unfold madeCells
 have hs:(Value.int .i64 0).cells=#[.int .i64 0]:=rfl
 rw [hs,Array.toList_map,Array.toList_range,Array.toList_replicate]
 apply List.ext_getElem
 ·simp
 ·intro i h1 h2
  simp [Nat.mod_one]
def ub:Array Value:=Array.replicate 32 (.int .i64 0)
theorem zb (w:World):(Instr.makeSlice 78 (.int .i64 32) (.int .i64 32)).run Tryz.prog w=.ok (.slice (some ⟨w.heap.size,0,none⟩) 32 32) (w.alloc (.cells ub 3)):=by
 obtain ⟨i,hi,hz,hs,hb⟩:=info_parts Lu
 have:=run_make (P:=Tryz.prog) w 78 3 i (.int .i64 0) Tryz.underlying78 hi hz .i64 .i64 32 32 (by omega) (by omega) (by rw [hb];decide) (by decide)
 rw [hs,CM] at this
 exact this
structure ng (w:World) (B:Nat) (zs:List Int):Prop where
 cell:∀ j,j<32→w.cell? ⟨B,j,none⟩=some (.int .i64 (zs.getD j 0))
 free:∀ j,j<32→w.frozen? ⟨B,j,none⟩=false
theorem Cz (w:World) (t:TypeId):ng (w.alloc (.cells ub t)) w.heap.size [] where
 cell:=fun j hj=>by
  rw [World.cell?_alloc_mark]
  unfold ub
  rw [Array.getElem?_replicate,if_pos hj];rfl
 free:=fun j _=>by rw [World.frozen?_alloc_mark];simp
theorem ng.lt {w:World} {B:Nat} {zs:List Int} (h:ng w B zs):B<w.heap.size:=World.block_lt_of_cell? w _ (h.cell 0 (by omega))
theorem ng.step {w w':World} {B:Nat} {zs:List Int} (h:ng w B zs) (hb:Below w.heap.size w w'):ng w' B zs where
 cell:=fun j hj=>(hb.cell (p:=⟨B,j,none⟩) h.lt).trans (h.cell j hj)
 free:=fun j hj=>(hb.frozen (p:=⟨B,j,none⟩) h.lt).trans (h.free j hj)
theorem ng.snoc {w:World} {B:Nat} {zs:List Int} (h:ng w B zs) (k:Nat) (hk:k<32) (hl:zs.length=k) (x:Int):ng (w.setCell ⟨B,k,none⟩ (.int .i64 x)) B (zs++[x]) where
 cell:=fun j hj=>by
  rw [List.getD_eq_getElem?_getD]
  by_cases e:k=j
  ·subst e
   rw [World.cell?_setCell_same' _ _ _ (by rw [h.cell _ hk];rfl),List.getElem?_append_right (by omega),hl,Nat.sub_self];rfl
  ·rw [World.cell?_setCell_other _ _ _ _ (fun q=>e (by injection q)),h.cell j hj,List.getD_eq_getElem?_getD]
   by_cases f:j<k
   ·rw [List.getElem?_append_left (by omega)]
   ·rw [List.getElem?_append_right (by omega),List.getElem?_eq_none (l:=zs) (by omega),List.getElem?_eq_none (by simp;omega)]
 free:=fun j hj=>by rw [World.frozen?_setCell];exact h.free j hj
theorem ng.row {w:World} {B:Nat} {zs:List Int} (h:ng w B zs) (hl:zs.length=32):fk w (some ⟨B,0,none⟩) 32 zs where
 len:=hl
 small:=by unfold maxLen;omega
 cells:=fun _=>⟨B,0,rfl,h.lt,fun i x hx=>by
  have hi:i<32:=by have:=(List.getElem?_eq_some_iff.1 hx).1;omega
  rw [Nat.zero_add,h.cell i hi,List.getD_eq_getElem?_getD,hx];rfl⟩
def dR (p:List UInt8) (k:Nat):List Int:=(List.range k).map fun (j:Nat)=>nt p (j:Int)
theorem jo (p:List UInt8) (k:Nat):(dR p k).length=k:=by simp [dR]
theorem rM (p:List UInt8) (k:Nat):dR p (k+1)=dR p k++[nt p (k:Int)]:=by simp [dR,List.range_succ]
structure uQ (w wr:World) (p:List UInt8) (D B:Nat) (zs:List Int):Prop where
 aK:aD wr D p
 nums:ng wr B zs
 bel:Below w.heap.size w wr
theorem uQ.step {w wr wr':World} {p:List UInt8} {D B:Nat} {zs:List Int} (h:uQ w wr p D B zs) (hb:Below wr.heap.size wr wr'):uQ w wr' p D B zs:=
 ⟨h.aK.step hb,h.nums.step hb,h.bel.trans (hb.mono h.bel.size)⟩
theorem uQ.snoc {w wr:World} {p:List UInt8} {D B:Nat} {zs:List Int} (h:uQ w wr p D B zs) (hDB:D≠B) (hwB:w.heap.size≤B) (k:Nat) (hk:k<32) (hl:zs.length=k) (x:Int):uQ w (wr.setCell ⟨B,k,none⟩ (.int .i64 x)) p D B (zs++[x]):=
 ⟨h.aK.kR _ _ _ hDB,h.nums.snoc k hk hl x,h.bel.setCell hwB _⟩
theorem sF (p:List UInt8) (w:World) (hp:p.length=64):
  Calls Tryz.prog 257 #[an p] w fun e w'=>∃ B,e=.returned (.slice (some ⟨B,0,none⟩) 32 32)∧fk w' (some ⟨B,0,none⟩) 32 (dR p 32)∧Below w.heap.size w w'∧w.heap.size≤B:=by
 have HP:=Lib.hid (bF w p 87 hp)
 have HB:Hid (Below w.heap.size w (w.alloc (.cells (ab p).toArray 87))):=Lib.hid ((Below.refl _ _).alloc (Nat.le_refl _) _)
 have HSZ:Hid ((w.alloc (.cells (ab p).toArray 87)).heap.size=w.heap.size+1):=Lib.hid (by simp)
 have HN:=Lib.hid (fun i w=>jR p i w hp)
 have hmk:=zb
 clear hp
 unfold an
 go_enter Tryz.func257,Tryz.ntmps257
 go_wp2_with fail
 have K0:Hid (uQ w ((w.alloc (.cells (ab p).toArray 87)).alloc (.cells ub 3)) p w.heap.size (w.heap.size+1) (dR p 0)):=Lib.hid (by
  refine ⟨HP.out.alloc _,?_,HB.out.alloc HB.out.size _⟩
  have:=Cz (w.alloc (.cells (ab p).toArray 87)) 3
  rw [HSZ.out] at this
  exact this)
 generalize (w.alloc (.cells (ab p).toArray 87)).alloc (.cells ub 3)=w1 at K0 ⊢
 obtain ⟨B,hBe⟩:∃ B,w.heap.size+1=B:=⟨_,rfl⟩
 rw [hBe] at K0 ⊢
 have hDB:Hid (w.heap.size≠B∧w.heap.size≤B):=Lib.hid (by omega)
 clear HP HB HSZ hmk hBe
 obtain ⟨D,hDe⟩:∃ D,w.heap.size=D:=⟨_,rfl⟩
 have HD:=Lib.hid hDe
 rw [hDe] at K0 ⊢
 clear hDe
 go_loopw [8] (fun i wr=>∃ k:Nat,k≤32∧i=.int .i64 (k:Int)∧uQ w wr p D B (dR p k)) (fun i _=>32 - (intOf i).toNat)
 case atStart=>exact ⟨0,Nat.zero_le _,rfl,K0.out⟩
 case round=>
  obtain ⟨k,hk,rfl,hK⟩:=hrel
  have KK:=Lib.hid hK;clear hK K0
  by_cases hlt:k<32
  ·have HU:=Lib.hid (rM p k)
   have HL:=Lib.hid (jo p k)
   have HK:Hid (∀ w,Calls Tryz.prog 176 #[an p,.int .i64 (k:Int)] w fun e w'=>e=.returned (.int .i64 (nt p (k:Int)))∧Below w.heap.size w w'):=Lib.hid (fun w=>HN.out (k:Int) w)
   generalize nt p (k:Int)=x at HU HK
   generalize dR p k=zs at KK HU HL
   go_wp2_with (first
    | (with_reducible refine ah KK.out.aK rfl (.tmp 1) rfl rfl ?_)
    | (go_at_call 176;(with_reducible refine (HK.out _).mono ?_);rintro e w2 ⟨rfl,hb⟩;replace KK:=Lib.hid (KK.out.step hb);clear hb;have hc:=KK.out.nums.cell k hlt;have hf:=KK.out.nums.free k hlt))
   go_roundw
   case rel=>
    have hq:=hDB.out
    rw [HD.out] at hq
    exact ⟨k+1,by omega,by go_num,by rw [HU.out];exact KK.out.snoc hq.1 (by rw [HD.out];exact hq.2) k hlt HL.out x⟩
   case measure=>simp [intOf];omega
  ·obtain rfl:k=32:=by omega
   have HL:=Lib.hid (jo p 32)
   go_wp2_with fail
   go_ret
   rw [← HD.out]
   exact ⟨B,rfl,KK.out.nums.row HL.out,KK.out.bel,by have:=hDB.out.2;rw [HD.out] at this ⊢;exact this⟩
end

namespace Bt
def bit (bs:List UInt8) (i:Nat):Bool:=(bs.getD (i / 8) 0).toNat.testBit (i % 8)
theorem Ke (bs:List UInt8) (i:Nat) (h:8*bs.length≤i):bit bs i=false:=by
 unfold bit
 rw [List.getD_eq_getElem?_getD,List.getElem?_eq_none (by omega)]
 exact Nat.zero_testBit _
def Ks (bs:List UInt8) (i:Int):Bool:=if 0≤i then bit bs i.toNat else false
theorem yb (bs:List UInt8) (i:Nat):Ks bs (i:Int)=bit bs i:=by
 unfold Ks;rw [if_pos (by omega),Int.toNat_natCast]
theorem JG (bs:List UInt8) (n:Nat) (hl:bs.length=64*n) (i:Int) (h:¬ (0≤i∧i<(n:Int)*512)):Ks bs i=false:=by
 unfold Ks
 split
 ·exact Ke bs _ (by omega)
 ·rfl
theorem MB (k:Nat) (h:k<8):2 ^ k<256:=by
 have:=Nat.pow_lt_pow_right (a:=2) (by omega) h
 simpa using this
def pw (k:Nat):Nat:=2 ^ k
theorem xy (k:Nat):pw k=2 ^ k:=rfl
theorem IX (k:Nat) (h:k<8):pw k<256:=MB k h
theorem Kj (x k:Nat):(x &&& 2 ^ k=0)↔x.testBit k=false:=by
 constructor
 ·intro h
  have e:(x &&& 2 ^ k).testBit k=false:=by rw [h];exact Nat.zero_testBit _
  rw [Nat.testBit_and,Nat.testBit_two_pow] at e
  simpa using e
 ·intro h
  refine Nat.eq_of_testBit_eq fun j=>?_
  rw [Nat.testBit_and,Nat.testBit_two_pow,Nat.zero_testBit]
  by_cases e:k=j
  ·rw [← e,h];rfl
  ·simp [e]
def iM (c:UInt8) (k:Nat) (on:Bool):UInt8:=UInt8.ofNat (if on=true then c.toNat ||| 2 ^ k else c.toNat &&& (255 - 2 ^ k))
theorem Aw (c:UInt8) (k:Nat) (h:k<8):((iM c k true).toNat)=c.toNat ||| 2 ^ k:=by
 unfold iM
 rw [if_pos rfl,UInt8.toNat_ofNat']
 have:=c.toNat_lt
 exact Nat.mod_eq_of_lt (Nat.or_lt_two_pow (n:=8) (by omega) (MB k h))
theorem wO (c:UInt8) (k:Nat):((iM c k false).toNat)=c.toNat &&& (255 - 2 ^ k):=by
 unfold iM
 rw [if_neg (by simp),UInt8.toNat_ofNat']
 exact Nat.mod_eq_of_lt (Nat.and_lt_two_pow (n:=8) _ (by have:=Nat.two_pow_pos k;omega))
def qk (bs:List UInt8) (i:Nat) (on:Bool):List UInt8:=bs.set (i / 8) (iM (bs.getD (i / 8) 0) (i % 8) on)
theorem rj (bs:List UInt8) (i:Nat) (on:Bool):(qk bs i on).length=bs.length:=List.length_set
def za (bs:List UInt8) (i:Int) (on:Bool):List UInt8:=if 0≤i∧i<(8*bs.length:Nat) then qk bs i.toNat on else bs
theorem ko (bs:List UInt8) (i:Int) (on:Bool):(za bs i on).length=bs.length:=by
 unfold za;split
 ·exact rj ..
 ·rfl
theorem Fo (bs:List UInt8) (i:Nat) (on:Bool) (h:i<8*bs.length):za bs (i:Int) on=qk bs i on:=by
 unfold za;rw [if_pos ⟨by omega,by omega⟩,Int.toNat_natCast]
theorem IN (bs:List UInt8) (i:Int) (on:Bool) (h:¬ (0≤i∧i<(8*bs.length:Nat))):za bs i on=bs:=by
 unfold za;rw [if_neg h]
def ka (bs:List UInt8) (on:Bool) (a b:Int) (i:Nat):Bool:=decide (a≤(i:Int)) && decide ((i:Int)<b) && (bit bs i == on)
def upto (bs:List UInt8) (on:Bool) (a b:Int) (k:Nat):List Nat:=(List.range k).filter (ka bs on a b)
theorem xa (bs:List UInt8) (on:Bool) (a b:Int) (k:Nat) (h:ka bs on a b k=true):upto bs on a b (k+1)=upto bs on a b k++[k]:=by
 unfold upto
 rw [List.range_succ,List.filter_append]
 simp [List.filter_cons,h]
theorem vi (bs:List UInt8) (on:Bool) (a b:Int) (k:Nat) (h:ka bs on a b k=false):upto bs on a b (k+1)=upto bs on a b k:=by
 unfold upto
 rw [List.range_succ,List.filter_append]
 simp [List.filter_cons,h]
theorem xb (bs:List UInt8) (on:Bool) (a b:Int) (k:Nat) (h:∀ i,i<k→ka bs on a b i=false):upto bs on a b k=[]:=by
 unfold upto
 rw [List.filter_eq_nil_iff]
 intro i hi
 rw [h i (List.mem_range.1 hi)]
 simp
theorem sJ (bs:List UInt8) (on:Bool) (a b:Int) (k:Nat):∀ d,(∀ i,k≤i→i<k+d→ka bs on a b i=false)→upto bs on a b (k+d)=upto bs on a b k
 | 0,_=>rfl
 |
  d+1,h=>by
  rw [← Nat.add_assoc,vi _ _ _ _ _ (h (k+d) (by omega) (by omega)),sJ bs on a b k d (fun i h1 h2=>h i h1 (by omega))]
theorem vj (bs:List UInt8) (on:Bool) (a b:Int) (k:Nat):(upto bs on a b k).length≤k:=by
 have:=List.length_filter_le (ka bs on a b) (List.range k)
 rwa [List.length_range] at this
theorem qa (bs:List UInt8) (on:Bool) (a b:Int) (k:Nat):∀ d,upto bs on a b k <+: upto bs on a b (k+d)
 | 0=>List.prefix_rfl
 |
  d+1=>by
  refine (qa bs on a b k d).trans ?_
  rw [← Nat.add_assoc]
  cases h:ka bs on a b (k+d) with
  | true=>rw [xa _ _ _ _ _ h];exact List.prefix_append _ _
  | false=>rw [vi _ _ _ _ _ h];exact List.prefix_rfl
theorem uO (bs:List UInt8) (on:Bool) (a b:Int) (i:Nat) (h:(i:Int)<a):ka bs on a b i=false:=by
 unfold ka;rw [decide_eq_false (show ¬ a≤(i:Int) by omega)];rfl
theorem AA (bs:List UInt8) (on:Bool) (a b:Int) (i:Nat) (h:b≤(i:Int)):ka bs on a b i=false:=by
 unfold ka;rw [decide_eq_false (show ¬ (i:Int)<b by omega),Bool.and_false];rfl
theorem Ho (bs:List UInt8) (on:Bool) (a b:Int) (i:Nat) (h1:a≤(i:Int)) (h2:(i:Int)<b):ka bs on a b i=(bit bs i == on):=by
 unfold ka;rw [decide_eq_true h1,decide_eq_true h2];rfl
def all (bs:List UInt8) (on:Bool) (a b:Int):List Nat:=upto bs on a b (8*bs.length)
def lo (a:Int):Nat:=(max a 0).toNat
def hi (bs:List UInt8) (b:Int):Int:=min b (8*bs.length:Nat)
theorem pZ (bs:List UInt8) (on:Bool) (a b:Int):upto bs on a b (lo a)=[]:=by
 refine xb _ _ _ _ _ fun i hi=>uO _ _ _ _ _ ?_
 unfold lo at hi
 omega
theorem ET (bs:List UInt8) (on:Bool) (a b:Int) (k:Nat) (h1:lo a≤k) (h2:hi bs b≤(k:Int)) (h3:k≤8*bs.length∨k=lo a):upto bs on a b k=all bs on a b:=by
 unfold all
 rcases Nat.le_total k (8*bs.length) with h | h
 ·obtain ⟨d,hd⟩:=Nat.exists_eq_add_of_le h
  rw [hd,sJ]
  intro i e1 e2
  refine AA _ _ _ _ _ ?_
  unfold hi at h2
  omega
 ·rcases h3 with h3 | h3
  ·rw [Nat.le_antisymm h3 h]
  ·rw [h3,pZ]
   symm
   refine xb _ _ _ _ _ fun i hi=>uO _ _ _ _ _ ?_
   rw [h3] at h
   unfold lo at h
   omega
theorem AR (bs:List UInt8) (on:Bool) (a b:Int) (k:Nat) (h1:lo a≤k) (h2:(k:Int)<hi bs b):ka bs on a b k=(bit bs k == on):=by
 refine Ho _ _ _ _ _ ?_ ?_
 ·unfold lo at h1;omega
 ·unfold hi at h2;omega
theorem ES (bs:List UInt8) (on:Bool) (a b:Int) (k:Nat) (h:k≤8*bs.length):upto bs on a b k <+: all bs on a b:=by
 obtain ⟨d,hd⟩:=Nat.exists_eq_add_of_le h
 unfold all
 rw [hd]
 exact qa ..
def first (bs:List UInt8) (a b:Int):Int:=match all bs false a b with
 | []=>-1
 | i::_=>(i:Int)
theorem Ah (bs:List UInt8) (a b:Int) (h:all bs false a b=[]):first bs a b=-1:=by unfold first;rw [h]
theorem Ag (bs:List UInt8) (a b:Int) (i:Nat) (h:[i] <+: all bs false a b):first bs a b=(i:Int):=by
 obtain ⟨r,hr⟩:=h
 unfold first
 rw [← hr];rfl
end Bt

namespace Fs
open Dk (av aa)
open Ii (Ino)
abbrev View:Type:=Nat→List UInt8
abbrev Out (α:Type):Type:=Except Int α × View × List Nat
def M (α:Type):Type:=View→Out α
def ret {α:Type} (a:α):M α:=fun V=>(.ok a,V,[])
def fail {α:Type} (e:Int):M α:=fun V=>(.error e,V,[])
def see {α:Type} (f:View→α):M α:=fun V=>(.ok (f V),V,[])
def tell {α:Type} (f:View→Except Int α):M α:=fun V=>(f V,V,[])
def upd (V:View) (i:Nat) (p:List UInt8):View:=fun j=>if j=i then p else V j
def wr (i:Nat) (p:List UInt8):M Unit:=fun V=>(.ok (),upd V i p,[i])
def andThen {α β:Type} (m:M α) (f:α→M β):M β:=fun V=>
 match m V with
 | (.ok a,V1,L1)=>((f a V1).1,(f a V1).2.1,L1++(f a V1).2.2)
 | (.error e,V1,L1)=>(.error e,V1,L1)
theorem andThen_ok {α β:Type} {m:M α} {f:α→M β} {V V1:View} {a:α} {L1:List Nat} (h:m V=(.ok a,V1,L1)):andThen m f V=((f a V1).1,(f a V1).2.1,L1++(f a V1).2.2):=by
 unfold andThen;rw [h]
theorem kC {α β:Type} {m:M α} {f:α→M β} {V V1:View} {e:Int} {L1:List Nat} (h:m V=(.error e,V1,L1)):andThen m f V=(.error e,V1,L1):=by
 unfold andThen;rw [h]
theorem wT {α β:Type} (m:M α) (f:α→M β) (V:View):∃ L,(andThen m f V).2.2=(m V).2.2++L:=by
 unfold andThen
 rcases h:m V with ⟨r,V1,L1⟩
 cases r with
 | ok a=>exact ⟨_,rfl⟩
 | error e=>exact ⟨[],by simp⟩
theorem wS {α:Type} (m:M α):andThen m ret=m:=by
 funext V
 unfold andThen
 rcases h:m V with ⟨r,V1,L1⟩
 cases r with
 | ok a=>simp [ret]
 | error e=>rfl
theorem du {α β γ:Type} (m:M α) (f:α→M β) (g:β→M γ):andThen (andThen m f) g=andThen m fun a=>andThen (f a) g:=by
 funext V
 unfold andThen
 rcases h:m V with ⟨r,V1,L1⟩
 cases r with
 | error e=>rfl
 |
  ok a=>
  simp only
  rcases h2:f a V1 with ⟨r2,V2,L2⟩
  cases r2 with
  | error e=>rfl
  | ok b=>simp
theorem oq {α β:Type} (a:α) (f:α→M β):andThen (ret a) f=f a:=by
 funext V
 unfold andThen ret
 simp
def tbl (i:Int):Nat:=(43+(i - 1) / 2).toNat
def dd (i:Int):Int:=32*((i - 1) % 2)
def bJ (V:View) (i:Int):Ino:=if (Ii.sB (V (tbl i)) (dd i)).k=0 then Ii.zero else Ii.sB (V (tbl i)) (dd i)
def lv (I i:Int) (V:View):Except Int Ino:=if 1≤i∧i≤I then .ok (bJ V i) else .error 22
def cV (I i:Int) (V:View):Except Int Ino:=if 1≤i∧i≤I then (if (bJ V i).k=0 then .error 22 else .ok (bJ V i)) else .error 22
def sy (i:Int) (x:Ino):M Unit:=fun V=>if Ii.uW (V (tbl i)) (dd i) x=V (tbl i) then ret () V else wr (tbl i) (Ii.uW (V (tbl i)) (dd i) x) V
def lH (x o:Ino):Ino:={ x with s:=o.s,a:=o.a,b:=o.b,c:=o.c,d:=o.d,e:=o.e,f:=o.f }
def kV (n I:Int) (x:Ino):M Ino:=if x.k=0∨Ii.kd n I x=false then fail 22 else ret x
def fx (V:View):Nat→Int→Except Int Int
 | 0,_=>.error 28
 | c+1,i=>if (bJ V i).k=0 then .ok i else fx V c (i+1)
def xV (I:Int):M Int:=tell fun V=>fx V I.toNat 1
def bZ (n I m:Int):Prop:=Pl.aS I≤m∧m<n
instance (n I m:Int):Decidable (bZ n I m):=inferInstanceAs (Decidable (_∧_))
def dL (n I m:Int) (V:View):Except Int (List UInt8):=if m=0 then .ok av else if bZ n I m then .ok (V m.toNat) else .error 5
def lj (at1:Nat) (bit:Int) (on1:Bool):M Unit:=fun V=>wr at1 (Bt.za (V at1) bit on1) V
def sV (n I:Int):M Int:=andThen (see fun V=>Bt.first (V 42) 0 (n - Pl.aS I)) fun b=>
 if b<0 then fail 28 else andThen (lj 42 b true) fun _=>andThen (wr (Pl.aS I+b).toNat av) fun _=>ret (Pl.aS I+b)
def iW (x:Ino) (i:Int):Int:=if Sp.okB i=true then (if Sp.dep i=0 then x.dir (Sp.inn i).toNat else if Sp.dep i=1 then x.e else x.f) else 0
def dI (i:Int):List Int:=if Sp.okB i=true then (if Sp.dep i=0 then [] else if Sp.dep i=1 then [Sp.inn i] else [Sp.out i,Sp.inn i]) else []
def KI (x:Ino) (k:Nat) (m:Int):Ino:=match k with
 | 0=>{ x with a:=m } | 1=>{ x with b:=m } | 2=>{ x with c:=m } | _=>{ x with d:=m }
def jL (x:Ino) (i m:Int):Ino:=if Sp.dep i=0 then KI x (Sp.inn i).toNat m else if Sp.dep i=1 then { x with e:=m } else { x with f:=m }
def goF (n I:Int) (V:View):List Int→Int→Except Int Int
 | [],m=>.ok m
 |
  k::ks,m=>match dL n I m V with
  | .ok p=>goF n I V ks (nt p k)
  | .error e=>.error e
def findF (n I:Int) (x:Ino) (i:Int) (V:View):Except Int Int:=goF n I V (dI i) (iW x i)
def gK (n I:Int) (x:Ino) (i:Int) (V:View):Except Int (List UInt8):=match findF n I x i V with
 | .ok m=>dL n I m V
 | .error e=>.error e
def goR (n I:Int):List Int→Int→M Int
 | [],m=>ret m
 |
  k::ks,m=>andThen (tell (dL n I m)) fun p=>
  if nt p k=0 then andThen (sV n I) fun t=>andThen (wr m.toNat (fa p k t)) fun _=>goR n I ks t
  else goR n I ks (nt p k)
def mC (n I:Int) (x:Ino) (i:Int):M (Ino × Int):=
 if iW x i=0 then andThen (sV n I) fun m=>andThen (goR n I (dI i) m) fun t=>ret (jL x i m,t)
 else andThen (goR n I (dI i) (iW x i)) fun t=>ret (x,t)
structure Pc where
 idx:Nat
 at1:Nat
 size:Nat
def pcs:Nat→Nat→Nat→List Pc
 | 0,_,_=>[]
 | f+1,off,n=>if n=0 then [] else ⟨off / 64,off % 64,min n (64 - off % 64)⟩::pcs f (off+min n (64 - off % 64)) (n - min n (64 - off % 64))
theorem FG:∀ (f g off n:Nat),n≤f→n≤g→pcs f off n=pcs g off n:=by
 intro f
 induction f with
 |
  zero=>
  intro g off n h _
  obtain rfl:n=0:=by omega
  cases g <;> rfl
 |
  succ f ih=>
  intro g off n h hg
  cases g with
  |
   zero=>
   obtain rfl:n=0:=by omega
   rfl
  |
   succ g=>
   unfold pcs
   by_cases h0:n=0
   ·rw [if_pos h0,if_pos h0]
   ·rw [if_neg h0,if_neg h0,ih g _ _ (by omega) (by omega)]
def pieces (off n:Nat):List Pc:=pcs n off n
theorem oA (off:Nat):pieces off 0=[]:=rfl
theorem kr (off n:Nat) (h:n≠0):pieces off n=⟨off / 64,off % 64,min n (64 - off % 64)⟩::pieces (off+min n (64 - off % 64)) (n - min n (64 - off % 64)):=by
 unfold pieces
 cases n with
 | zero=>exact absurd rfl h
 |
  succ m=>
  rw [pcs,if_neg h,FG m _ _ _ (by omega) (Nat.le_refl _)]
def BO (t1:List UInt8):Except Int (List UInt8)→Except Int (List UInt8)
 | .error e=>.error e
 | .ok t=>.ok (t1++t)
def zl (t1:Nat→Nat→List UInt8→List UInt8) (c:Pc) (r:Except Int (List UInt8)):Except Int (List UInt8)→Except Int (List UInt8)
 | .error e=>.error e
 | .ok p=>BO (t1 c.at1 c.size p) r
def Bc (a n:Nat) (p:List UInt8):List UInt8:=Pg.kj p (a:Int) (n:Int)
def fb (n I:Int) (x:Ino) (V:View) (cs:List Pc):Except Int (List UInt8):=cs.foldr (fun c r=>zl Bc c r (gK n I x (c.idx:Int) V)) (.ok [])
theorem gQ (n I:Int) (x:Ino) (V:View):fb n I x V []=.ok []:=rfl
theorem jO (n I:Int) (x:Ino) (V:View) (c:Pc) (cs:List Pc):fb n I x V (c::cs)=zl Bc c (fb n I x V cs) (gK n I x (c.idx:Int) V):=by
 unfold fb
 rw [List.foldr_cons]
theorem nr {n I:Int} {x:Ino} {V:View} {c:Pc} {cs:List Pc} {p:List UInt8} (h:gK n I x c.idx V=.ok p):fb n I x V (c::cs)=BO (Pg.kj p c.at1 c.size) (fb n I x V cs):=by
 rw [jO,h]
 unfold zl Bc
 rfl
theorem kY {n I:Int} {x:Ino} {V:View} {c:Pc} {cs:List Pc} {e:Int} (h:gK n I x c.idx V=.error e):fb n I x V (c::cs)=.error e:=by
 rw [jO,h]
 unfold zl
 rfl
def jb (n I i off cnt:Int) (V:View):Except Int (List UInt8):=match cV I i V with
 | .error e=>.error e
 | .ok x=>if off<0∨cnt<0∨67840<cnt then .error 22 else fb n I x V (pieces off.toNat (min cnt (x.s - off)).toNat)
def jE (sub:Int→Int→M Int) (q frm:Int) (was:List UInt8):Nat→Nat→List UInt8→M (List UInt8)
 | _,0,p=>ret p
 | k,c+1,p=>andThen (sub (nt was (k:Int)) (frm - (k:Int)*q)) fun y=>jE sub q frm was (k+1) c (fa p (k:Int) y)
def mi (sub:Int→Int→M Int) (q m frm:Int):M Bool:=andThen (see fun V=>V m.toNat) fun was=>
 andThen (jE sub q frm was 0 32 was) fun p=>if p=av then ret false else if p=was then ret true else andThen (wr m.toNat p) fun _=>ret true
def kE (n I:Int):Nat→Int→Int→M Int
 | 0,m,frm=>if 1≤frm then ret m else if bZ n I m then andThen (lj 42 (m - Pl.aS I) false) fun _=>ret 0 else ret (if 0<frm then m else 0)
 | d+1,m,frm=>if (32:Int) ^ (d+1)≤frm then ret m else if bZ n I m then andThen (mi (kE n I d) ((32:Int) ^ d) m frm) (fun left=>if left=true then ret m else andThen (lj 42 (m - Pl.aS I) false) fun _=>ret 0) else ret (if 0<frm then m else 0)
def pt (n I:Int) (x:Ino) (frm:Int):M Ino:=
 andThen (kE n I 0 x.a frm) fun a=>andThen (kE n I 0 x.b (frm - 1)) fun b=>andThen (kE n I 0 x.c (frm - 2)) fun c=>andThen (kE n I 0 x.d (frm - 3)) fun d=>
 andThen (kE n I 1 x.e (frm - 4)) fun e=>andThen (kE n I 2 x.f (frm - 36)) fun f=>ret { x with a:=a,b:=b,c:=c,d:=d,e:=e,f:=f }
def Ik (n I:Int) (x:Ino):M Int:=andThen (kV n I (lH x Ii.zero)) fun y=>andThen (xV I) fun i=>andThen (sy i y) fun _=>andThen (lj 41 (i - 1) true) fun _=>ret i
def mn (n I i:Int) (x:Ino):M Unit:=andThen (tell (cV I i)) fun was=>andThen (kV n I (lH x was)) fun y=>sy i y
def jN (n I i:Int):M Unit:=andThen (tell (cV I i)) fun x=>andThen (pt n I x 0) fun _=>andThen (sy i Ii.zero) fun _=>lj 41 (i - 1) false
def mS (n I:Int):List Pc→Ino→List UInt8→M Ino
 | [],x,_=>ret x
 | c::cs,x,t=>andThen (mC n I x c.idx) fun z=>andThen (tell (dL n I z.2)) fun p=>andThen (wr z.2.toNat (Pg.br p c.at1 (t.take c.size))) fun _=>mS n I cs z.1 (t.drop c.size)
def iN (n I i off:Int) (t:List UInt8):M Unit:=andThen (tell (cV I i)) fun x=>
 if off<0 then fail 22 else if t=[] then ret () else if 67840 - (t.length:Int)<off then fail 27 else
 andThen (mS n I (pieces off.toNat t.length) { x with s:=max x.s (off+t.length) } t) fun y=>sy i y
def uZ (c:Pgs) (L:List Nat):Nat:=(List.range c.length).countP fun i=>(c.getD i none).isSome || L.contains i
def Dom (c c':Pgs) (L:List Nat):Prop:=c'.length=c.length∧∀ i,i<c.length→(c'.getD i none).isSome=((c.getD i none).isSome || L.contains i)
theorem Ap (c:Pgs):ey c=(List.range c.length).countP fun i=>(c.getD i none).isSome:=by
 unfold ey
 have e:c=(List.range c.length).map fun i=>c.getD i none:=by
  apply List.ext_getElem
  ·simp
  ·intro i h1 h2
   simp only [List.getElem_map,List.getElem_range]
   rw [List.getD_eq_getElem?_getD,List.getElem?_eq_getElem h1];rfl
 conv=>lhs;rw [e]
 rw [List.countP_map];rfl
theorem GR (c:Pgs):uZ c []=ey c:=by
 rw [Ap]
 unfold uZ
 congr 1
 funext i
 simp
theorem Dom.uZ {c c':Pgs} {L:List Nat} (h:Dom c c' L) (L2:List Nat):uZ c' L2=uZ c (L++L2):=by
 unfold Fs.uZ
 rw [h.1]
 apply List.countP_congr
 intro i hi
 rw [List.mem_range] at hi
 rw [h.2 i hi]
 simp [List.contains_eq_mem,Bool.or_assoc]
theorem Dom.refl (c:Pgs):Dom c c []:=⟨rfl,fun i _=>by simp⟩
theorem Dom.trans {c c' c'':Pgs} {L L':List Nat} (h:Dom c c' L) (k:Dom c' c'' L'):Dom c c'' (L++L'):=
 ⟨k.1.trans h.1,fun i hi=>by rw [k.2 i (by rw [h.1];exact hi),h.2 i hi];simp [List.contains_eq_mem,Bool.or_assoc]⟩
theorem Dom.set (c:Pgs) (i:Nat) (p:List UInt8) (hi:i<c.length):Dom c (c.set i (some p)) [i]:=
 ⟨List.length_set,fun j hj=>by
  rw [jQ _ _ _ _ hi]
  by_cases e:i=j
  ·subst e;simp
  ·rw [if_neg e];simp [List.contains_eq_mem];intro q;exact absurd q.symm e⟩
theorem DY (c:Pgs) (L L2:List Nat):uZ c L≤uZ c (L++L2):=by
 unfold uZ
 apply List.countP_mono_left
 intro i _ h
 simp only [List.contains_eq_mem,Bool.or_eq_true,decide_eq_true_eq,List.mem_append] at h ⊢
 rcases h with h | h
 ·exact Or.inl h
 ·exact Or.inr (Or.inl h)
theorem GQ (c:Pgs) (i:Nat) (hi:i<c.length):uZ c [i]=if (c.getD i none).isSome then ey c else ey c+1:=by
 have h:=(Dom.set c i [] hi).uZ []
 rw [GR,List.append_nil,sm c i [] hi] at h
 exact h.symm
end Fs

section
open Go.RowKit
open Dk (av aa)
open Hd (Head aA aM)
open Jn (Chg bk fy Cl Quiet uS May Same upd)
theorem lQ {s:Dk.St} (h:Cl s) {i:Nat} (hi:i<s.last.length):Dk.gJ s (i:Int)=s.last.getD i []:=by
 unfold Dk.gJ
 rw [if_pos (Dk.kZ h.up (Dk.pa hi)),Int.toNat_natCast]
 unfold Dk.nowAt
 rw [Jn.mK h.clean];rfl
theorem Cw {w:World} {d l m a z r:Nat} {s:Dk.St} {B:Int} {X:List (List UInt8)} (h:aG w d l m s) (hc:Cl s) (hq:Quiet a z B s.last X) (h0:0≤B) (hB:B<250) (ha:a≤900) (hz:z≤900) (hz0:0<z) (hroom:mO z r) (hr:1≤r) (hreg:a+z≤s.last.length):
  Calls Tryz.prog 157 #[.pointer (some ⟨d,0,none⟩),.int .i64 (a:Int),.int .i64 (z:Int)] w (EC w d l m a z (Jn.runs s [[⟨(a:Int),aM (bk (Hd.dy [s.last.getD a []]))⟩]]) (fun cnt q=>cnt=0∧q=Hd.dy [s.last.getD a []])):=by
 have e:=lQ hc (show a<s.last.length by omega)
 obtain ⟨n0,n1,n2⟩:=Jn.xL _ B hq.low h0
 refine Cv h ha hz hroom hr hc.up hreg _ _ (fun W j hj hd hjd=>?_)
 have:=wR hj hd hjd ha hc.up (by omega) (by rw [e];exact hq.quiet) (by rw [e];omega)
 rw [e] at this
 exact this.mono fun e w' ⟨h1,h2,h3,h4⟩=>⟨0,_,h1,h2,h3,⟨rfl,rfl⟩,h4⟩
theorem Gu {n:Nat} (h1:1≤n) (h2:n≤512):Cl (Dk.fresh n):=⟨Dk.yc h1 h2,rfl,by unfold Dk.fresh;simp⟩
theorem uj (n:Nat):(Dk.fresh n).last.length=n:=by unfold Dk.fresh;simp
theorem Gv {n i:Nat} (h:i<n):(Dk.fresh n).last.getD i []=av:=by
 unfold Dk.fresh
 simp only
 rw [List.getD_eq_getElem?_getD,List.getElem?_replicate,if_pos h];rfl
theorem vc:Pg.ba av 0 4=0:=by decide
theorem yx:Pg.ba av 60 4=0:=by decide
theorem yv:Hd.dy [av]=1:=by decide
theorem vb:Jn.qU av:=by
 rintro ⟨_,h⟩
 have:(Hd.cE av).live=false:=by decide
 rw [this] at h
 cases h
end

section
open Go.RowKit Go.Maps
open Dk (av aa)
open Hd (Head aA aM)
open Jn (Chg bk fy Cl Quiet uS May Same upd)
def Kp (s:Dk.St) (a z r:Nat) (q:Int):Sto:=⟨s,a,z,r,q,false,en s.last.length,en s.last.length⟩
def Km (w:World) (d l m a z r:Nat) (R:Dk.St × Int) (P:Int→Int→Prop) (e:Ending) (w':World):Prop:=
  aG w' d l m R.1∧aB [d,l,m] w w' ∧
  ((R.2=0∧∃ (b:Blk) (cnt q:Int),b.d=d∧b.l=l∧b.m=m∧w.heap.size≤b.s∧w.heap.size≤b.j∧w.heap.size≤b.t∧w.heap.size≤b.g∧e=.returned (.tuple #[.pointer (some ⟨b.s,0,none⟩),.int .i64 0])∧P cnt q∧ay w' b (Kp R.1 a z r q)) ∨
   (R.2≠0∧e=.returned (.tuple #[.pointer none,.int .i64 R.2])))
theorem Bn {s:Dk.St} {a z r:Nat} {q:Int} (ha:a≤900) (hz:z≤900) (hroom:mO z r) (hr1:1≤r) (hr2:r≤512) (hr3:1+Jn.nl r+r≤z) (hreg:a+z≤s.last.length):(Kp s a z r q).Ok:=
 ⟨List.length_replicate,List.length_replicate,gU _ _ _ _,gU _ _ _ _,by show ey (en _)≤_;rw [kz];exact Nat.zero_le _,by show ey (en _)≤_;rw [kz];exact Nat.zero_le _,ha,hz,hreg,hroom,hr1,hr2,hr3⟩
theorem Bl {w w2:World} {d l m j a z r:Nat} {q:Int} {s:Dk.St} {T:TypeId} (hd:aG w2 d l m s) (hj:JAt w2 j d a z q false) (ho:aB [d,l,m] w w2) (hlt:d<w.heap.size∧l<w.heap.size∧m<w.heap.size) (hjj:w.heap.size≤j) (hok:(Kp s a z r q).Ok):
  ay (((w2.alloc (.map #[] 0)).alloc (.map #[] 0)).alloc (.cells (qf ⟨w2.heap.size+2,j,d,l,m,w2.heap.size,w2.heap.size+1⟩ a z).toArray T)) ⟨w2.heap.size+2,j,d,l,m,w2.heap.size,w2.heap.size+1⟩ (Kp s a z r q) ∧
  aB [d,l,m] w (((w2.alloc (.map #[] 0)).alloc (.map #[] 0)).alloc (.cells (qf ⟨w2.heap.size+2,j,d,l,m,w2.heap.size,w2.heap.size+1⟩ a z).toArray T)):=by
 have hjlt:=hj.lt
 have hsz:=ho.size
 have h1:(w2.alloc (.map #[] 0)).heap.size=w2.heap.size+1:=by simp
 have h2:((w2.alloc (.map #[] 0)).alloc (.map #[] 0)).heap.size=w2.heap.size+2:=by simp
 have m1:=jT w2 s.last.length
 have m2:=jT (w2.alloc (.map #[] 0)) s.last.length
 rw [h1] at m2
 have r3:=bh ((w2.alloc (.map #[] 0)).alloc (.map #[] 0)) (qf ⟨w2.heap.size+2,j,d,l,m,w2.heap.size,w2.heap.size+1⟩ a z) T
 rw [h2] at r3
 have b1:∀ k,k<w2.heap.size+1→((w2.alloc (.map #[] 0)).alloc (.map #[] 0)).heap[k]?=(w2.alloc (.map #[] 0)).heap[k]?:=fun k hk=>Below.heap_alloc _ _ k (by omega)
 have b2:∀ k,k<w2.heap.size+2→(((w2.alloc (.map #[] 0)).alloc (.map #[] 0)).alloc (.cells (qf ⟨w2.heap.size+2,j,d,l,m,w2.heap.size,w2.heap.size+1⟩ a z).toArray T)).heap[k]?=((w2.alloc (.map #[] 0)).alloc (.map #[] 0)).heap[k]?:=fun k hk=>Below.heap_alloc _ _ k (by omega)
 refine ⟨⟨r3,⟨q,?_,fun _=>rfl⟩,(((hd.alloc _).alloc _).alloc _),?_,?_,?_,hok⟩,((ho.alloc _).alloc _).alloc _⟩
 ·exact ((hj.block (Below.heap_alloc _ _ j hjlt)).block (b1 j (by omega))).block (b2 j (by omega))
 ·exact (m1.block (b1 _ (by omega))).block (b2 _ (by show w2.heap.size<_;omega))
 ·exact m2.block (b2 _ (by show w2.heap.size+1<_;omega))
 ·have e1:=hd.dl
  have e2:=hd.dm
  have e3:=hd.lm
  unfold Blk.all
  simp only [List.nodup_cons,List.mem_cons,List.not_mem_nil,or_false,not_or,List.nodup_nil,not_false_eq_true,and_true]
  omega
theorem Bx {w:World} {d l m a z r:Nat} {R:Dk.St × Int} {P:Int→Int→Prop} (hd:d<w.heap.size∧l<w.heap.size∧m<w.heap.size) (hlen:a+z≤R.1.last.length) (ha:a≤900) (hz:z≤900) (hroom:mO z r) (hr1:1≤r) (hr2:r≤512) (hr3:1+Jn.nl r+r≤z)
  (hO:Calls Tryz.prog 157 #[.pointer (some ⟨d,0,none⟩),.int .i64 (a:Int),.int .i64 (z:Int)] w (EC w d l m a z R P)):
  Calls Tryz.prog 98 #[.pointer (some ⟨d,0,none⟩),.int .i64 (a:Int),.int .i64 (z:Int)] w (Km w d l m a z r R P):=by
 have HO:=Lib.hid hO
 have HD:=Lib.hid hd
 have HOK:=Lib.hid (fun q=>Bn (s:=R.1) (q:=q) ha hz hroom hr1 hr2 hr3 hlen)
 clear hO hd hlen hroom hr1 hr2 hr3
 have hmm:=@run_makeMap Tryz.prog
 go_enter Tryz.func98,Tryz.ntmps98
 go_wp2_with fail
 refine HO.out.mono ?_
 rintro e w2 ⟨hd2,ho2,hc⟩
 have HD2:=Lib.hid hd2
 have HO2:=Lib.hid ho2
 clear hd2 ho2 HO
 rcases hc with ⟨hz0,j,cnt,q,rfl,hj,hP,hjj⟩ | ⟨hz0,rfl⟩
 ·have HZ:=Lib.hid hz0
  have HN:=Lib.hid (Bl (T:=184) HD2.out hj HO2.out HD.out hjj (HOK.out q))
  have HP:=Lib.hid hP
  have HJJ:=Lib.hid hjj
  have HSZ:=Lib.hid HO2.out.size
  clear hj hP hjj hz0
  unfold qf at HN
  go_wp2_with fail
  go_ret2
  have h3:(((w2.alloc (.map #[] 0)).alloc (.map #[] 0)).heap.size)=w2.heap.size+2:=by simp
  have hs:=HSZ.out
  exact ⟨HN.out.1.ew,HN.out.2,Or.inl ⟨HZ.out,⟨w2.heap.size+2,j,d,l,m,w2.heap.size,w2.heap.size+1⟩,cnt,q,rfl,rfl,rfl,(by show w.heap.size≤w2.heap.size+2;omega),HJJ.out,(by show w.heap.size≤w2.heap.size;omega),(by show w.heap.size≤w2.heap.size+1;omega),rfl,HP.out,HN.out.1⟩⟩
 ·have hne2:(R.2 == 0)=false:=by simpa using hz0
  have hne3:(R.2 != 0)=true:=by simpa using hz0
  have HZ:=Lib.hid hz0
  clear hz0
  generalize hE:R.2=E at hne2 hne3 ⊢
  have HE:=Lib.hid hE
  clear hE
  go_wp2_with fail
  go_ret2
  exact ⟨HD2.out,HO2.out,Or.inr ⟨HZ.out,by rw [HE.out];rfl⟩⟩
end

section
open Go.RowKit Go.Maps
open Dk (av aa)
open Hd (Head aA aM)
open Jn (Chg bk fy Cl Quiet uS May Same upd)
structure Sound (s:Sto):Prop where
 ok:s.Ok
 up:s.over=false
 cl:Cl s.dk
 q0:0≤s.q
 head:s.dk.last.getD s.a []=aM (bk s.q)
theorem Sound.may {s:Sto} (h:Sound s) (hc:ey s.group≠0):May s.a s.z s.dk.last.length (lF s.group):=
 sO (r:=s.r) (qS h.ok.gpg) (ml h.ok.gpg) (by rw [dt];omega) (by rw [dt];exact h.ok.Kt) h.ok.r32 h.ok.rz h.ok.reg h.cl.ok.small
theorem Sound.step {s:Sto} (h:Sound s) {c:Pgs} (hok:Sto.Ok { s with step:=c }):Sound { s with step:=c }:=⟨hok,h.up,h.cl,h.q0,h.head⟩
theorem Sound.join {s:Sto} (h:Sound s) (hc:nR s≤s.r):Sound (ri s):=⟨rh h.ok hc,h.up,h.cl,h.q0,h.head⟩
end

section
open Go.RowKit Go.Maps
open Dk (av aa)
open Jn (Chg)
theorem below_drewN {n:Nat} (w:World) (k:Nat):Below n w (w.drewN k):=⟨rfl,rfl,rfl,Nat.le_refl _,fun _ _=>rfl⟩
theorem kO {w:World} {b:Blk} {s:Sto} (h:ay w b s):Calls Tryz.prog 95 #[.pointer (some ⟨b.s,0,none⟩)] w fun e w'=>e=.returned (.bool s.over)∧w=w':=by
 obtain ⟨q,hj,_⟩:=h.ja
 have HO:=Lib.hid (xJ hj)
 have c0:=h.c0
 clear h hj
 go_enter Tryz.func95,Tryz.ntmps95
 go_wp2_with (go_at_call 154;refine HO.out.mono ?_;rintro e w' ⟨rfl,rfl⟩)
 go_ret
 exact ⟨rfl,rfl⟩
theorem qh {w:World} {b:Blk} {s:Sto} (h:ay w b s) (i:Int):Calls Tryz.prog 209 #[.pointer (some ⟨b.s,0,none⟩),.int .i64 i] w fun e w'=>e=.returned (.int .i64 (cr s i))∧Below w.heap.size w w':=by
 have HO:=Lib.hid (kO h)
 have HP:Hid (∀ n,Calls Tryz.prog 141 #[.pointer (some ⟨b.d,0,none⟩)] (w.drewN n) fun e w'=>e=.returned (.int .i64 (s.dk.last.length:Int))∧w'=w.drewN n):=Lib.hid (fun n=>(gT (h.ew.drewN n)).mono fun e w' ⟨h1,h2⟩=>⟨h1,h2.symm⟩)
 have c1:=h.c1
 have c2:=h.c2
 have c3:=h.c3
 have ha:(s.a:Int)≤900:=by have:=h.ok.a9;omega
 have hz:(s.z:Int)≤900:=by have:=h.ok.z9;omega
 clear h
 cases ho:s.over with
 |
  true=>
  rw [ho] at HO
  have HE:Hid (cr s i=5):=Lib.hid (by unfold cr;rw [if_pos ho])
  rw [HE.out]
  clear ho HE
  go_enter Tryz.func209,Tryz.ntmps209
  go_wp2_with (go_at_call 95;refine HO.out.mono ?_;rintro e w' ⟨rfl,rfl⟩)
  go_ret
  exact ⟨rfl,Below.refl _ _⟩
 |
  false=>
  rw [ho] at HO
  have HE:Hid (cr s i=if cG s.dk.last.length s.a s.z i=true then 0 else 22):=Lib.hid (by unfold cr;rw [if_neg (by rw [ho];simp)])
  rw [HE.out]
  clear ho HE
  generalize s.dk.last.length=n at HP ⊢
  generalize s.a=a at *
  generalize s.z=z at *
  by_cases k1:i<0
  ·have HE:Hid (cG n a z i=false):=Lib.hid (by unfold cG;rw [decide_eq_false_iff_not];omega)
   rw [HE.out]
   go_enter Tryz.func209,Tryz.ntmps209
   go_wp2_with (go_at_call 95;refine HO.out.mono ?_;rintro e w' ⟨rfl,rfl⟩)
   go_quiet ((go_at_call 141;refine Calls.quiet_of_same (HP.out _)))
   go_wp2
   go_ret
   exact ⟨rfl,below_drewN _ _⟩
  ·have k1':decide (i<0)=false:=decide_eq_false k1
   by_cases k2:(n:Int)≤i
   ·have HE:Hid (cG n a z i=false):=Lib.hid (by unfold cG;rw [decide_eq_false_iff_not];omega)
    rw [HE.out]
    go_enter Tryz.func209,Tryz.ntmps209
    go_wp2_with (go_at_call 95;refine HO.out.mono ?_;rintro e w' ⟨rfl,rfl⟩)
    go_quiet ((go_at_call 141;refine Calls.quiet_of_same (HP.out _)))
    go_wp2
    go_ret
    exact ⟨rfl,below_drewN _ _⟩
   ·have k2':decide ((n:Int)≤i)=false:=decide_eq_false k2
    by_cases k3:(a:Int)≤i
    ·by_cases k4:i<(a:Int)+(z:Int)
     ·have HE:Hid (cG n a z i=false):=Lib.hid (by unfold cG;rw [decide_eq_false_iff_not];omega)
      rw [HE.out]
      go_enter Tryz.func209,Tryz.ntmps209
      go_wp2_with (go_at_call 95;refine HO.out.mono ?_;rintro e w' ⟨rfl,rfl⟩)
      go_quiet ((go_at_call 141;refine Calls.quiet_of_same (HP.out _)))
      go_wp2
      go_ret
      exact ⟨rfl,below_drewN _ _⟩
     ·have k4':decide (i<(a:Int)+(z:Int))=false:=decide_eq_false k4
      have HE:Hid (cG n a z i=true):=Lib.hid (by unfold cG;rw [decide_eq_true_iff];omega)
      rw [HE.out]
      go_enter Tryz.func209,Tryz.ntmps209
      go_wp2_with (go_at_call 95;refine HO.out.mono ?_;rintro e w' ⟨rfl,rfl⟩)
      go_quiet ((go_at_call 141;refine Calls.quiet_of_same (HP.out _)))
      go_wp2
      go_ret
      exact ⟨rfl,below_drewN _ _⟩
    ·have k3':decide ((a:Int)≤i)=false:=decide_eq_false k3
     have HE:Hid (cG n a z i=true):=Lib.hid (by unfold cG;rw [decide_eq_true_iff];omega)
     rw [HE.out]
     go_enter Tryz.func209,Tryz.ntmps209
     go_wp2_with (go_at_call 95;refine HO.out.mono ?_;rintro e w' ⟨rfl,rfl⟩)
     go_quiet ((go_at_call 141;refine Calls.quiet_of_same (HP.out _)))
     go_wp2
     go_ret
     exact ⟨rfl,below_drewN _ _⟩
theorem BC {w:World} {b:Blk} {s:Sto} (h:ay w b s):Calls Tryz.prog 215 #[.pointer (some ⟨b.s,0,none⟩)] w fun e w'=>e=.returned (.tuple #[])∧ay w' b (oc s)∧aB [b.t] w w':=by
 have HH:=Lib.hid h
 have c4:=h.c4
 obtain ⟨w2,hcl0,hmp,htn⟩:=h.step.clear s.dk.last.length 0
 have hcl:∀ ty,(Builtin.clear_ #[82] ty #[.map (some b.t)]).run Tryz.prog w=.ok (.tuple #[]) w2:=fun ty=>hcl0
 have HM:=Lib.hid hmp
 have HT:=Lib.hid htn
 clear h hcl0 hmp htn
 go_enter Tryz.func215,Tryz.ntmps215
 go_wp2
 go_end0
 have ho:aB [b.t] w w2:=aB.grown HT.out.grown (by simp)
 exact ⟨rfl,HH.out.ob ho HM.out (Fp HH.out.ok),ho⟩
end

section
open Go.Shelf
def ua:Go.Shelf.Ren:=⟨fun | 7=>242 | 10=>265 | n=>n,fun | 23=>82 | 26=>3 | 3=>87 | 28=>189 | 0=>0 | 27=>188 | 33=>233 | 4=>4 | n=>n,fun | n=>n⟩
theorem Lr:Go.Proofs.SlLaysZI.n7 Tryz.prog ua:={
 mixed:=by kernel_rfl
 f7:=⟨Tryz.f242.name,by decide,Tryz.func242.trans (congrArg some (by kernel_rfl))⟩
 f10:=⟨Tryz.f265.name,by decide,Tryz.func265.trans (congrArg some (by kernel_rfl))⟩
 t0:=Tryz.underlying0
 a0:=Tryz.isAgg0
 z0:=Tryz.sizeOf0
 v0:=Tryz.zeroValue0
 t4:=Tryz.underlying4
 a4:=Tryz.isAgg4
 z4:=Tryz.sizeOf4
 v4:=Tryz.zeroValue4
 t23:=Tryz.underlying82
 a23:=Tryz.isAgg82
 z23:=Tryz.sizeOf82
 v23:=Tryz.zeroValue82
 t26:=Tryz.underlying3
 a26:=Tryz.isAgg3
 z26:=Tryz.sizeOf3
 v26:=Tryz.zeroValue3
 t27:=Tryz.underlying188
 a27:=Tryz.isAgg188
 z27:=Tryz.sizeOf188
 v27:=Tryz.zeroValue188
 t28:=Tryz.underlying189
 a28:=Tryz.isAgg189
 z28:=Tryz.sizeOf189
 v28:=Tryz.zeroValue189
 t33:=Tryz.underlying233
 a33:=Tryz.isAgg233
 z33:=Tryz.sizeOf233
 v33:=Tryz.zeroValue233 }
def nZ:Go.Shelf.Ren:=⟨fun | 6=>241 | 8=>263 | 9=>264 | 11=>279 | 13=>281 | 12=>280 | 23=>293 | 24=>294 | 14=>284 | 15=>285 | 16=>286 | 17=>287 | 18=>288 | 19=>289 | 20=>290 | 21=>291 | 22=>292 | 25=>296 | 26=>297 | 27=>298 | 28=>299 | 29=>300 | 30=>301 | 31=>302 | n=>n,fun | 26=>3 | 28=>189 | 24=>78 | 0=>0 | 3=>3 | 37=>85 | 48=>257 | 50=>310 | 4=>4 | 40=>302 | 39=>301 | 45=>306 | 5=>5 | 9=>9 | 51=>311 | 55=>194 | 57=>316 | 58=>200 | 33=>233 | n=>n,fun | n=>n⟩
theorem IF:Go.Proofs.SlLaysZI.n6 Tryz.prog nZ:={
 mixed:=by kernel_rfl
 f6:=⟨Tryz.f241.name,by decide,Tryz.func241.trans (congrArg some (by kernel_rfl))⟩
 f8:=⟨Tryz.f263.name,by decide,Tryz.func263.trans (congrArg some (by kernel_rfl))⟩
 f11:=⟨Tryz.f279.name,by decide,Tryz.func279.trans (congrArg some (by kernel_rfl))⟩
 t0:=Tryz.underlying0
 a0:=Tryz.isAgg0
 z0:=Tryz.sizeOf0
 v0:=Tryz.zeroValue0
 t24:=Tryz.underlying78
 a24:=Tryz.isAgg78
 z24:=Tryz.sizeOf78
 v24:=Tryz.zeroValue78
 t26:=Tryz.underlying3
 a26:=Tryz.isAgg3
 z26:=Tryz.sizeOf3
 v26:=Tryz.zeroValue3
 t28:=Tryz.underlying189
 a28:=Tryz.isAgg189
 z28:=Tryz.sizeOf189
 v28:=Tryz.zeroValue189
 i26:=by kernel_rfl }
def Bw:Go.Shelf.Ren:=⟨fun | 5=>264 | 8=>281 | 7=>280 | 19=>293 | 20=>294 | 10=>284 | 11=>285 | 12=>286 | 13=>287 | 14=>288 | 15=>289 | 16=>290 | 17=>291 | 18=>292 | 30=>296 | 31=>297 | 32=>298 | 33=>299 | 34=>300 | 35=>301 | 40=>302 | n=>n,fun | 23=>78 | 25=>3 | 3=>3 | 32=>85 | 22=>78 | 0=>0 | 44=>257 | 46=>310 | 4=>4 | 36=>302 | 35=>301 | 41=>306 | 5=>5 | 9=>9 | 53=>311 | 57=>194 | 63=>316 | 64=>200 | n=>n,fun | n=>n⟩
theorem KE:Go.Proofs.SlLaysM.n5 Tryz.prog Bw:={
 mixed:=by kernel_rfl
 f5:=⟨Tryz.f264.name,by decide,Tryz.func264.trans (congrArg some (by kernel_rfl))⟩
 f7:=⟨Tryz.f280.name,by decide,Tryz.func280.trans (congrArg some (by kernel_rfl))⟩
 f8:=Tryz.func281.trans (congrArg some (by kernel_rfl))
 f10:=⟨Tryz.f284.name,by decide,Tryz.func284.trans (congrArg some (by kernel_rfl))⟩
 f11:=⟨Tryz.f285.name,by decide,Tryz.func285.trans (congrArg some (by kernel_rfl))⟩
 f12:=⟨Tryz.f286.name,by decide,Tryz.func286.trans (congrArg some (by kernel_rfl))⟩
 f13:=⟨Tryz.f287.name,by decide,Tryz.func287.trans (congrArg some (by kernel_rfl))⟩
 f14:=⟨Tryz.f288.name,by decide,Tryz.func288.trans (congrArg some (by kernel_rfl))⟩
 f15:=⟨Tryz.f289.name,by decide,Tryz.func289.trans (congrArg some (by kernel_rfl))⟩
 f16:=⟨Tryz.f290.name,by decide,Tryz.func290.trans (congrArg some (by kernel_rfl))⟩
 f17:=⟨Tryz.f291.name,by decide,Tryz.func291.trans (congrArg some (by kernel_rfl))⟩
 f18:=⟨Tryz.f292.name,by decide,Tryz.func292.trans (congrArg some (by kernel_rfl))⟩
 f19:=Tryz.func293.trans (congrArg some (by kernel_rfl))
 f20:=Tryz.func294.trans (congrArg some (by kernel_rfl))
 f30:=⟨Tryz.f296.name,by decide,Tryz.func296.trans (congrArg some (by kernel_rfl))⟩
 f31:=Tryz.func297.trans (congrArg some (by kernel_rfl))
 f32:=Tryz.func298.trans (congrArg some (by kernel_rfl))
 f33:=⟨Tryz.f299.name,by decide,Tryz.func299.trans (congrArg some (by kernel_rfl))⟩
 f34:=⟨Tryz.f300.name,by decide,Tryz.func300.trans (congrArg some (by kernel_rfl))⟩
 f35:=⟨Tryz.f301.name,by decide,Tryz.func301.trans (congrArg some (by kernel_rfl))⟩
 f40:=⟨Tryz.f302.name,by decide,Tryz.func302.trans (congrArg some (by kernel_rfl))⟩
 t0:=Tryz.underlying0
 a0:=Tryz.isAgg0
 z0:=Tryz.sizeOf0
 v0:=Tryz.zeroValue0
 t3:=Tryz.underlying3
 a3:=Tryz.isAgg3
 z3:=Tryz.sizeOf3
 v3:=Tryz.zeroValue3
 t4:=Tryz.underlying4
 a4:=Tryz.isAgg4
 z4:=Tryz.sizeOf4
 v4:=Tryz.zeroValue4
 t5:=Tryz.underlying5
 a5:=Tryz.isAgg5
 z5:=Tryz.sizeOf5
 v5:=Tryz.zeroValue5
 t9:=Tryz.underlying9
 a9:=Tryz.isAgg9
 z9:=Tryz.sizeOf9
 v9:=Tryz.zeroValue9
 t22:=Tryz.underlying78
 a22:=Tryz.isAgg78
 z22:=Tryz.sizeOf78
 v22:=Tryz.zeroValue78
 t23:=Tryz.underlying78
 a23:=Tryz.isAgg78
 z23:=Tryz.sizeOf78
 v23:=Tryz.zeroValue78
 t25:=Tryz.underlying3
 a25:=Tryz.isAgg3
 z25:=Tryz.sizeOf3
 v25:=Tryz.zeroValue3
 t32:=Tryz.underlying85
 a32:=Tryz.isAgg85
 z32:=Tryz.sizeOf85
 v32:=Tryz.zeroValue85
 t35:=Tryz.underlying301
 a35:=Tryz.isAgg301
 z35:=Tryz.sizeOf301
 v35:=Tryz.zeroValue301
 t36:=Tryz.underlying302
 a36:=Tryz.isAgg302
 z36:=Tryz.sizeOf302
 v36:=Tryz.zeroValue302
 t41:=Tryz.underlying306
 a41:=Tryz.isAgg306
 z41:=Tryz.sizeOf306
 v41:=Tryz.zeroValue306
 t44:=Tryz.underlying257
 a44:=Tryz.isAgg257
 z44:=Tryz.sizeOf257
 v44:=Tryz.zeroValue257
 t46:=Tryz.underlying310
 a46:=Tryz.isAgg310
 z46:=Tryz.sizeOf310
 v46:=Tryz.zeroValue310
 t53:=Tryz.underlying311
 a53:=Tryz.isAgg311
 z53:=Tryz.sizeOf311
 v53:=Tryz.zeroValue311
 t57:=Tryz.underlying194
 a57:=Tryz.isAgg194
 z57:=Tryz.sizeOf194
 v57:=Tryz.zeroValue194
 t63:=Tryz.underlying316
 a63:=Tryz.isAgg316
 z63:=Tryz.sizeOf316
 v63:=Tryz.zeroValue316
 t64:=Tryz.underlying200
 a64:=Tryz.isAgg200
 z64:=Tryz.sizeOf200
 v64:=Tryz.zeroValue200 }
end

section
open Go.RowKit Go.Maps
open Dk (av aa)
open Jn (Chg)
theorem nW {s:Sto} {i:Int} (h:cr s i=0):s.over=false∧cG s.dk.last.length s.a s.z i=true:=by
 unfold cr at h
 split at h
 ·cases h
 ·split at h
  ·rename_i h1 h2;exact ⟨by simpa using h1,h2⟩
  ·cases h
structure EF (w:World) (b:Blk) (s:Sto) (W:World):Prop where
 aK:aD W w.heap.size av
 st:ay W b s
 bel:Below w.heap.size w W
 lt:w.heap.size<W.heap.size
theorem zm {w:World} {b:Blk} {s:Sto} (h:ay w b s) {W:World} (hb:Below (w.alloc (.cells zeroCells 87)).heap.size (w.alloc (.cells zeroCells 87)) W):EF w b s W:=by
 have hlt:w.heap.size<(w.alloc (.cells zeroCells 87)).heap.size:=by simp
 exact ⟨(di w 87).below hb hlt,(h.alloc _).below hb,((Below.refl _ _).alloc (Nat.le_refl _) _).trans (hb.mono (by simp)),Nat.lt_of_lt_of_le hlt hb.size⟩
theorem EF.next {w:World} {b:Blk} {s:Sto} {W W':World} (h:EF w b s W) (hb:Below W.heap.size W W'):EF w b s W':=
 ⟨h.aK.below hb h.lt,h.st.below hb,h.bel.trans (hb.mono h.bel.size),Nat.lt_of_lt_of_le h.lt hb.size⟩
theorem nV {w:World} {b:Blk} {s:Sto} (h:ay w b s) (i:Int):Calls Tryz.prog 161 #[.pointer (some ⟨b.s,0,none⟩),.int .i64 i] w fun e w'=>e=.returned (.tuple #[an (gy s i),.int .i64 (ji s i)])∧Below w.heap.size w w':=by
 have HR:=Lib.hid (qh (h.alloc (.cells zeroCells 87)) i)
 have HS:Hid (∀ W,Below (w.alloc (.cells zeroCells 87)).heap.size (w.alloc (.cells zeroCells 87)) W→EF w b s W):=Lib.hid (fun W hb=>zm h hb)
 rw [az] at HR
 by_cases c:cr s i=0
 ·obtain ⟨c1,c2⟩:=nW c
  have c3:=of_decide_eq_true c2
  obtain ⟨k,rfl⟩:=Int.eq_ofNat_of_zero_le c3.1
  have hk:k<s.dk.last.length:=by omega
  have hk2:k≤1000:=by have:=h.ew.ok.small;omega
  rw [c] at HR
  cases ht:s.step.getD k none with
  |
   some p=>
   have HP:Hid (gy s (k:Int)=p):=Lib.hid (by unfold gy jZ;rw [if_pos c,Int.toNat_natCast,ht];rfl)
   have HE:Hid (ji s (k:Int)=0):=Lib.hid (by unfold ji jZ;rw [if_pos c,Int.toNat_natCast,ht];rfl)
   have HN:=Lib.hid (h.ok.spg k p ht).1
   have HLK:=Lib.hid (fun (W:World) (hW:EF w b s W)=>hW.st.step.look k hk2)
   rw [ht] at HLK
   simp only [Option.getD_some,Option.isSome_some] at HLK
   rw [HP.out,HE.out]
   clear HP HE c c1 c2 c3 ht h hk hk2
   go_enter Tryz.func161,Tryz.ntmps161
   go_wp2_with fail
   refine HR.out.mono ?_
   rintro e w1 ⟨rfl,hB1⟩
   rw [← az] at hB1
   have HS1:=Lib.hid (HS.out _ hB1)
   clear HR HS hB1
   have c4:=HS1.out.st.c4
   have hlook:=HLK.out w1 HS1.out
   go_wp2_with (first
    | ((with_reducible refine aq rfl (.tmp 7) (.tmp 25) rfl rfl ?_ ?_ HN.out ?_);(exact rfl);(exact rfl);intro W2 hP hB2 hz2;clear hlook;have HS2:=Lib.hid (HS1.out.next hB2))
    | (with_reducible refine ah hP rfl (.tmp 7) rfl rfl ?_)
    | (with_reducible refine ax HS2.out.aK HN.out rfl (.tmp 4) (.tmp 28) rfl rfl rfl ?_))
   exact bodyPost_ret (aU _ 4 5 rfl _ (HS2.out.aK.put _ HN.out) rfl) rfl ⟨rfl,below_setCells _ (Nat.le_refl _) _ _ _ HS2.out.bel⟩
  |
   none=>
   have HLT:=Lib.hid (fun (W:World) (hW:EF w b s W)=>hW.st.step.look k hk2)
   rw [ht] at HLT
   simp only [Option.getD_none,Option.isSome_none] at HLT
   cases hg:s.group.getD k none with
   |
    some p=>
    have HP:Hid (gy s (k:Int)=p):=Lib.hid (by unfold gy jZ;rw [if_pos c,Int.toNat_natCast,ht,hg];rfl)
    have HE:Hid (ji s (k:Int)=0):=Lib.hid (by unfold ji jZ;rw [if_pos c,Int.toNat_natCast,ht,hg];rfl)
    have HN:=Lib.hid (h.ok.gpg k p hg).1
    have HLK:=Lib.hid (fun (W:World) (hW:EF w b s W)=>hW.st.group.look k hk2)
    rw [hg] at HLK
    simp only [Option.getD_some,Option.isSome_some] at HLK
    rw [HP.out,HE.out]
    clear HP HE c c1 c2 c3 ht hg h hk hk2
    go_enter Tryz.func161,Tryz.ntmps161
    go_wp2_with fail
    refine HR.out.mono ?_
    rintro e w1 ⟨rfl,hB1⟩
    rw [← az] at hB1
    have HS1:=Lib.hid (HS.out _ hB1)
    clear HR HS hB1
    have c4:=HS1.out.st.c4
    have hlook:=HLT.out w1 HS1.out
    go_wp2_with (first
     | ((with_reducible refine aq rfl (.tmp 7) (.tmp 25) rfl rfl ?_ ?_ aa ?_);(exact rfl);(exact rfl);intro W2 hP hB2 hz2;clear hlook;have HS2:=Lib.hid (HS1.out.next hB2);clear hP hB2 hz2;have c5:=HS2.out.st.c5;have hlook2:=HLK.out W2 HS2.out)
     | ((with_reducible refine aq rfl (.tmp 9) (.tmp 36) rfl rfl ?_ ?_ HN.out ?_);(exact rfl);(exact rfl);intro W3 hP hB3 hz3;clear hlook2;have HS3:=Lib.hid (HS2.out.next hB3))
     | (with_reducible refine ah hP rfl (.tmp 9) rfl rfl ?_)
     | (with_reducible refine ax HS3.out.aK HN.out rfl (.tmp 4) (.tmp 39) rfl rfl rfl ?_))
    exact bodyPost_ret (aU _ 4 5 rfl _ (HS3.out.aK.put _ HN.out) rfl) rfl ⟨rfl,below_setCells _ (Nat.le_refl _) _ _ _ HS3.out.bel⟩
   |
    none=>
    have HP:Hid (gy s (k:Int)=Dk.gJ s.dk (k:Int)):=Lib.hid (by unfold gy jZ;rw [if_pos c,Int.toNat_natCast,ht,hg];rfl)
    have HE:Hid (ji s (k:Int)=Dk.dh s.dk (k:Int)):=Lib.hid (by unfold ji jZ;rw [if_pos c,Int.toNat_natCast,ht,hg];rfl)
    have HN:=Lib.hid (Dk.ot h.ew.ok (k:Int))
    have HLK:=Lib.hid (fun (W:World) (hW:EF w b s W)=>hW.st.group.look k hk2)
    rw [hg] at HLK
    simp only [Option.getD_none,Option.isSome_none] at HLK
    have HRD:=Lib.hid (fun (W:World) (hW:EF w b s W)=>rD hW.st.ew (k:Int))
    rw [HP.out,HE.out]
    clear HP HE c c1 c2 c3 ht hg h hk hk2
    generalize Dk.gJ s.dk (k:Int)=p at HN HRD ⊢
    generalize Dk.dh s.dk (k:Int)=E at HRD ⊢
    go_enter Tryz.func161,Tryz.ntmps161
    go_wp2_with fail
    refine HR.out.mono ?_
    rintro e w1 ⟨rfl,hB1⟩
    rw [← az] at hB1
    have HS1:=Lib.hid (HS.out _ hB1)
    clear HR HS hB1
    have c4:=HS1.out.st.c4
    have hlook:=HLT.out w1 HS1.out
    go_wp2_with (first
     | ((with_reducible refine aq rfl (.tmp 7) (.tmp 25) rfl rfl ?_ ?_ aa ?_);(exact rfl);(exact rfl);intro W2 hP hB2 hz2;clear hlook;have HS2:=Lib.hid (HS1.out.next hB2);clear hP hB2 hz2;have c5:=HS2.out.st.c5;have hlook2:=HLK.out W2 HS2.out)
     | ((with_reducible refine aq rfl (.tmp 9) (.tmp 36) rfl rfl ?_ ?_ aa ?_);(exact rfl);(exact rfl);intro W3 hP hB3 hz3;clear hlook2;have HS3:=Lib.hid (HS2.out.next hB3);clear hP hB3 hz3;have c1:=HS3.out.st.c1))
    refine (HRD.out _ HS3.out).mono ?_
    rintro e W4 ⟨rfl,hB4⟩
    have HS4:=Lib.hid (HS3.out.next hB4)
    clear hB4
    go_wp2_with (with_reducible refine ax HS4.out.aK HN.out rfl (.tmp 4) (.tmp 46) rfl rfl rfl ?_)
    exact bodyPost_ret (aU _ 4 5 rfl _ (HS4.out.aK.put _ HN.out) rfl) rfl ⟨rfl,below_setCells _ (Nat.le_refl _) _ _ _ HS4.out.bel⟩
 ·have HP:Hid (gy s i=av):=Lib.hid (by unfold gy;rw [if_neg c])
  have HE:Hid (ji s i=cr s i):=Lib.hid (by unfold ji;rw [if_neg c])
  rw [HP.out,HE.out]
  have hne:(cr s i == 0)=false:=by simpa using c
  have hne2:(cr s i != 0)=true:=by simpa using c
  generalize cr s i=E at HR hne hne2 ⊢
  clear c h HP HE
  go_enter Tryz.func161,Tryz.ntmps161
  go_wp2_with fail
  refine HR.out.mono ?_
  rintro e w1 ⟨rfl,hB1⟩
  rw [← az] at hB1
  have HS1:=Lib.hid (HS.out _ hB1)
  clear HR HS hB1
  go_wp2_with ((with_reducible refine ax HS1.out.aK aa rfl (.tmp 4) (.tmp 16) rfl rfl ?_ ?_);(exact rfl))
  exact bodyPost_ret (aU _ 4 5 rfl _ (HS1.out.aK.put _ aa) rfl) rfl ⟨rfl,below_setCells _ (Nat.le_refl _) _ _ _ HS1.out.bel⟩
structure Kn (w:World) (b:Blk) (s:Sto) (p:List UInt8) (W:World):Prop where
 aK:aD W w.heap.size p
 st:ay W b s
 bel:Below w.heap.size w W
 lt:w.heap.size<W.heap.size
theorem Kn.next {w:World} {b:Blk} {s:Sto} {p:List UInt8} {W W':World} (h:Kn w b s p W) (hb:Below W.heap.size W W'):Kn w b s p W':=
 ⟨h.aK.below hb h.lt,h.st.below hb,h.bel.trans (hb.mono h.bel.size),Nat.lt_of_lt_of_le h.lt hb.size⟩
theorem zz {w:World} {b:Blk} {s:Sto} (h:ay w b s) {p:List UInt8} (hp:p.length=64):Kn w b s p (w.alloc (.cells (ab p).toArray 87)):=
 ⟨bF w p 87 hp,h.alloc _,(Below.refl _ _).alloc (Nat.le_refl _) _,by simp⟩
theorem xm {w:World} {b:Blk} {s:Sto} (h:ay w b s) (i:Int) (p:List UInt8) (hp:p.length=64):Calls Tryz.prog 178 #[.pointer (some ⟨b.s,0,none⟩),.int .i64 i,an p] w fun e w'=>
  e=.returned (.int .i64 (mT s i))∧ay w' b (tc s i p)∧aB [b.t] w w':=by
 have HP:=Lib.hid hp
 have HS:=Lib.hid (zz h hp)
 have HR:=Lib.hid (qh HS.out.st i)
 have HT:=Lib.hid h.ok
 have HSM:=Lib.hid h.ew.ok.small
 unfold an
 by_cases c:cr s i=0
 ·obtain ⟨c1,c2⟩:=nW c
  have c3:=of_decide_eq_true c2
  obtain ⟨k,rfl⟩:=Int.eq_ofNat_of_zero_le c3.1
  have hk:k<s.dk.last.length:=by omega
  have hk2:k≤1000:=by have:=h.ew.ok.small;omega
  have HK:=Lib.hid hk
  have HC2:=Lib.hid c2
  rw [c] at HR
  have HLK:=Lib.hid (fun (W:World) (hW:Kn w b s p W)=>hW.st.step.look k hk2)
  obtain ⟨q,hj,_⟩:=h.ja
  have HRM:=Lib.hid (fun (W:World) (hW:Kn w b s p W) (n:Nat)=>show Calls Tryz.prog 224 #[.pointer (some ⟨b.j,0,none⟩)] (W.drewN n) fun e w'=>e=.returned (.int .i64 (s.r:Int))∧w'=W.drewN n from by
   obtain ⟨q',hj',_⟩:=(hW.st.drewN n).ja
   exact (oQ hj' hW.st.ok.room).mono fun e w' ⟨h1,h2⟩=>⟨h1,h2.symm⟩)
  have HLN:=Lib.hid (fun (W:World) (hW:Kn w b s p W) (n:Nat) (ty:TypeId)=>(hW.st.drewN n).step.len ty)
  clear h hp hj
  by_cases f:(s.step.getD k none).isSome=false∧s.r≤ey s.step
  ·have HE:Hid (mT s (k:Int)=28):=Lib.hid (by unfold mT;rw [if_pos c,Int.toNat_natCast,if_pos f])
   have HF:Hid (tc s (k:Int) p=s):=Lib.hid (by unfold tc;rw [HE.out];rfl)
   obtain ⟨f1,f2⟩:=f
   rw [HE.out,HF.out]
   have f3:(s.r:Int)≤(ey s.step:Int):=by omega
   rw [f1] at HLK
   have HG:Hid (s.step.getD k none=none):=Lib.hid (by cases e:s.step.getD k none with | none=>rfl | some x=>rw [e] at f1;cases f1)
   rw [HG.out] at HLK
   simp only [Option.getD_none] at HLK
   unfold ey at f3
   generalize List.countP (fun x=>x.isSome) s.step=N at HLN f3
   clear HE HF f1 f2 c c1 c2 c3 hk hk2 HG
   go_enter Tryz.func178,Tryz.ntmps178
   go_wp2_with fail
   generalize w.alloc (.cells (ab p).toArray 87)=w1 at HS HR ⊢
   refine HR.out.mono ?_
   rintro e w2 ⟨rfl,hB2⟩
   have HS2:=Lib.hid (HS.out.next hB2)
   clear hB2 HR HS
   have c4:=HS2.out.st.c4
   have hlook:=HLK.out w2 HS2.out
   go_wp2_with (first
    | ((with_reducible refine aq rfl (.tmp 8) (.tmp 23) rfl rfl ?_ ?_ aa ?_);(exact rfl);(exact rfl);intro W3 hP hB3 hz3;clear hlook;have HS3:=Lib.hid (HS2.out.next hB3);clear hP hB3 hz3 c4))
   have c4:=HS3.out.st.c4
   have c0:=HS3.out.st.c0
   have hln:=HLN.out W3 HS3.out
   go_quiet ((go_at_call 224;refine Calls.quiet_of_same (HRM.out W3 HS3.out _)))
   go_wp2
   go_ret
   exact ⟨rfl,HS3.out.st.drewN _,aB.below (HS3.out.bel.trans (below_drewN _ _))⟩
  ·have HE:Hid (mT s (k:Int)=0):=Lib.hid (by unfold mT;rw [if_pos c,Int.toNat_natCast,if_neg f])
   have HF:Hid (tc s (k:Int) p={ s with step:=s.step.set k (some p) }):=Lib.hid (by unfold tc;rw [if_pos HE.out,Int.toNat_natCast])
   rw [HE.out,HF.out]
   have HOK:=Lib.hid (Bu HT.out HP.out HC2.out f)
   have HST:=Lib.hid (show k<s.step.length by rw [HT.out.AD];exact HK.out)
   have HST2:=Lib.hid (show s.step.length≤1000 by rw [HT.out.AD];have:=HSM.out;omega)
   cases g:s.step.getD k none with
   |
    some x=>
    rw [g] at HLK
    simp only [Option.getD_some,Option.isSome_some] at HLK
    have HX:=Lib.hid (HT.out.spg k x g).1
    clear HE HF c c1 c2 c3 hk hk2 f g
    go_enter Tryz.func178,Tryz.ntmps178
    go_wp2_with fail
    generalize w.alloc (.cells (ab p).toArray 87)=w1 at HS HR ⊢
    refine HR.out.mono ?_
    rintro e w2 ⟨rfl,hB2⟩
    have HS2:=Lib.hid (HS.out.next hB2)
    clear hB2 HR HS
    have c4:=HS2.out.st.c4
    have hlook:=HLK.out w2 HS2.out
    go_wp2_with (first
     | ((with_reducible refine aq rfl (.tmp 8) (.tmp 23) rfl rfl ?_ ?_ HX.out ?_);(exact rfl);(exact rfl);intro W3 hP hB3 hz3;clear hlook;have HS3:=Lib.hid (HS2.out.next hB3);clear hP hB3 hz3 c4))
    have c4:=HS3.out.st.c4
    go_quiet (fail)
    have HS4:=Lib.hid (HS3.out.next (below_drewN _ nq))
    generalize W3.drewN nq=w4 at HS4 ⊢
    have c4':w4.drew.cell? ⟨b.s,4,none⟩=some (.map (some b.t)):=HS4.out.st.c4
    go_wp2_with fail
    refine wp_region_still_tail 6 (by kernel_rfl) (by kernel_rfl) ?_
    simp only [List.take_succ_cons,List.take_zero,List.drop_succ_cons,List.drop_zero]
    change wpStill _ _ w4.drew (fun a'=>wpList _ _ _ _ a' w4.drew) _ _
    still_step
    still_step
    still_step
    still_step
    still_step
    refine dN (HS4.out.aK.block rfl) rfl (.tmp 5) rfl rfl ?_
    refine wpStill_nil ?_
    refine ef (HS4.out.st.step.block (w':=w4.drew) rfl) k HST.out HST2.out HP.out rfl (.tmp 43) (.tmp 44) (.tmp 45) rfl rfl rfl rfl ?_
    intro w5 hm5 ht5
    go_wp2
    go_ret
    have ho:aB [b.t] w4.drew w5:=aB.grown ht5.grown (by simp)
    exact ⟨rfl,HS4.out.st.drew.ob ho hm5 HOK.out,(aB.below HS4.out.bel).drew.trans ho⟩
   |
    none=>
    rw [g] at HLK
    simp only [Option.getD_none,Option.isSome_none] at HLK
    have f3:¬ ((s.r:Int)≤(ey s.step:Int)):=fun q=>f ⟨by rw [g];rfl,by omega⟩
    have f4:decide ((s.r:Int)≤(ey s.step:Int))=false:=decide_eq_false f3
    unfold ey at f3 f4
    generalize List.countP (fun x=>x.isSome) s.step=N at HLN f3 f4
    clear HE HF c c1 c2 c3 hk hk2 f g
    go_enter Tryz.func178,Tryz.ntmps178
    go_wp2_with fail
    generalize w.alloc (.cells (ab p).toArray 87)=w1 at HS HR ⊢
    refine HR.out.mono ?_
    rintro e w2 ⟨rfl,hB2⟩
    have HS2:=Lib.hid (HS.out.next hB2)
    clear hB2 HR HS
    have c4:=HS2.out.st.c4
    have hlook:=HLK.out w2 HS2.out
    go_wp2_with (first
     | ((with_reducible refine aq rfl (.tmp 8) (.tmp 23) rfl rfl ?_ ?_ aa ?_);(exact rfl);(exact rfl);intro W3 hP hB3 hz3;clear hlook;have HS3:=Lib.hid (HS2.out.next hB3);clear hP hB3 hz3 c4))
    have c4:=HS3.out.st.c4
    have c0:=HS3.out.st.c0
    have hln:=HLN.out W3 HS3.out
    go_quiet ((go_at_call 224;refine Calls.quiet_of_same (HRM.out W3 HS3.out _)))
    have HS4:=Lib.hid (HS3.out.next (below_drewN _ nq))
    generalize W3.drewN nq=w4 at HS4 ⊢
    have c4':w4.drew.cell? ⟨b.s,4,none⟩=some (.map (some b.t)):=HS4.out.st.c4
    go_wp2_with fail
    refine wp_region_still_tail 6 (by kernel_rfl) (by kernel_rfl) ?_
    simp only [List.take_succ_cons,List.take_zero,List.drop_succ_cons,List.drop_zero]
    change wpStill _ _ w4.drew (fun a'=>wpList _ _ _ _ a' w4.drew) _ _
    still_step
    still_step
    still_step
    still_step
    still_step
    refine dN (HS4.out.aK.block rfl) rfl (.tmp 5) rfl rfl ?_
    refine wpStill_nil ?_
    refine ef (HS4.out.st.step.block (w':=w4.drew) rfl) k HST.out HST2.out HP.out rfl (.tmp 43) (.tmp 44) (.tmp 45) rfl rfl rfl rfl ?_
    intro w5 hm5 ht5
    go_wp2
    go_ret
    have ho:aB [b.t] w4.drew w5:=aB.grown ht5.grown (by simp)
    exact ⟨rfl,HS4.out.st.drew.ob ho hm5 HOK.out,(aB.below HS4.out.bel).drew.trans ho⟩
 ·have HE:Hid (mT s i=cr s i):=Lib.hid (by unfold mT;rw [if_neg c])
  have HF:Hid (tc s i p=s):=Lib.hid (by unfold tc;rw [HE.out,if_neg c])
  rw [HE.out,HF.out]
  have hne2:(cr s i == 0)=false:=by simpa using c
  have hne3:(cr s i != 0)=true:=by simpa using c
  generalize cr s i=E at HR hne2 hne3 ⊢
  clear c HE HF h hp
  go_enter Tryz.func178,Tryz.ntmps178
  go_wp2_with fail
  generalize w.alloc (.cells (ab p).toArray 87)=w1 at HS HR ⊢
  refine HR.out.mono ?_
  rintro e w2 ⟨rfl,hB2⟩
  have HS2:=Lib.hid (HS.out.next hB2)
  clear hB2 HR HS
  go_wp2
  go_ret
  exact ⟨rfl,HS2.out.st,aB.below HS2.out.bel⟩
end
end Go.Proofs.YtagfoogfpabdfaaGreat
