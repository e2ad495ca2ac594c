/- Texts of the proof. -/
import Derived.Test.YtagfoogfpabdfaaGreatTak
import Derived.Test.YtagfoogfpabdfaaGreatTah
import Derived.RangeFuncNested
import Derived.RangeFuncBound
import Derived.RangeFuncCalls
import Derived.RangeFuncLeaves
import Derived.RangeFuncBox
import Derived.Shelf.Abstract
import Derived.Shelf.RegionOpen
import Derived.WalkKit
import Derived.OwnWalkIn
import Derived.TacticsInMore
import Derived.LoopNIn
import Derived.LoopIn
import Derived.Stop.RegionWithIn
import Derived.Sort.QuietIn
set_option maxRecDepth 100000
set_option maxHeartbeats 16000000
namespace Go.Proofs.YtagfoogfpabdfaaGreat
section
open Go.RowKit Go.Maps
open Dk (av aa)
open Ii (Ino)
theorem Db {α:Type} (us:List α) (k m:Nat) (v:α) (hk:k<us.length):(us.set k v).take (k+1)=us.take k++[v]∧(us.set k v).drop (k+1+m)=us.drop (k+(m+1)):=by
 refine ⟨?_,?_⟩
 ·rw [List.take_set,List.take_succ_eq_append_getElem hk,List.set_append_right _ _ (by simp;omega)]
  have:k - (List.take k us).length=0:=by simp;omega
  rw [this];rfl
 ·rw [List.drop_set_of_lt (by omega)]
  congr 1;omega
theorem au.part {b:Nat}:∀ (vs:List Value) (w:World) (us:List Value) (k:Nat),au w b us→k+vs.length≤us.length→au (w.setCells b k vs) b (us.take k++vs++us.drop (k+vs.length))
 |
  [],w,us,k,h,_=>by
  have e:us.take k++[]++us.drop (k+0)=us:=by simp
  show au w b (us.take k++[]++us.drop (k+0))
  rw [e];exact h
 |
  v::vs,w,us,k,h,hk=>by
  rw [List.length_cons] at hk
  obtain ⟨e1,e2⟩:=Db us k vs.length v (by omega)
  have:=au.part vs (w.setCell ⟨b,k,none⟩ v) (us.set k v) (k+1) (h.dH k v (by omega)) (by rw [List.length_set];omega)
  rw [e1,e2] at this
  have e:us.take k++v::vs++us.drop (k+(v::vs).length)=us.take k++[v]++vs++us.drop (k+(vs.length+1)):=by simp
  rw [e]
  exact this
theorem Lo.putAt {L:List Nat} {w0 w:World} {l:List (Nat × List Value)} (h:Lo L w0 l w) (k:Nat) (x:Nat × List Value) (hx:l[k]?=some x) (o:Nat) (vs us:List Value) (ho:o+vs.length≤x.2.length) (hu:us=x.2.take o++vs++x.2.drop (o+vs.length)):Lo L w0 (l.set k (x.1,us)) (w.setCells x.1 o vs) where
 row:=fun y hy=>by
  obtain ⟨hk,hke⟩:=List.getElem?_eq_some_iff.1 hx
  obtain ⟨j,hj,rfl⟩:=List.getElem_of_mem hy
  rw [List.length_set] at hj
  rw [List.getElem_set,bC]
  by_cases e:k=j
  ·subst e
   rw [if_pos rfl]
   obtain ⟨h1,h2,h3⟩:=h.row x (List.mem_of_getElem? hx)
   exact ⟨by rw [hu];exact au.part vs w x.2 o h1 ho,h2,h3⟩
  ·rw [if_neg e]
   obtain ⟨h1,h2,h3⟩:=h.row l[j] (List.getElem_mem hj)
   refine ⟨h1.bl _ _ _ (fun q=>?_),h2,h3⟩
   have hn:=List.pairwise_iff_getElem.1 h.ne
   have e1:(l.map (·.1))[k]'(by simpa using hk)=(l.map (·.1))[j]'(by simpa using hj):=by
    simp only [List.getElem_map]
    rw [hke];exact q.symm
   rcases Nat.lt_or_ge k j with c | c
   ·exact absurd e1 (hn k j _ _ c)
   ·exact absurd e1.symm (hn j k _ _ (by omega))
 ne:=by
  obtain ⟨hk,hke⟩:=List.getElem?_eq_some_iff.1 hx
  have:(l.set k (x.1,us)).map (·.1)=l.map (·.1):=by
   rw [List.map_set]
   apply List.ext_getElem
   ·simp
   ·intro j h1 h2
    rw [List.getElem_set]
    split
    ·rename_i e;subst e;simp [hke]
    ·rfl
  rw [this];exact h.ne
 only:=by
  obtain ⟨h1,h2,h3⟩:=h.row x (List.mem_of_getElem? hx)
  exact h.only.via ((aB.refl [x.1] w).setCells x.1 (by simp) vs o w) (fun i hi=>by rw [List.mem_singleton] at hi;subst hi;exact Or.inr h2)
 low:=h.low
theorem ft {o:Oper} {a:Act} {w:World} {b k:Nat} {us:List Value} {R:Value→World→Prop} {v:Int} (h:au w b us) (hk:k<us.length) (x y:Operand) (ho:o.op=.store 3 x y) (hx:a.eval x=.pointer (some ⟨b,k,none⟩)) (hy:a.eval y=.int .i64 v)
  (hR:R undef (w.setCell ⟨b,k,none⟩ (.int .i64 v))):dE Tryz.prog (execOp a.eval o) w R:=by
 have hc:=h.cell k _ (List.getElem?_eq_getElem hk)
 have hf:=h.frozen k hk
 have hrun:(execOp a.eval o).run Tryz.prog w=.ok .skip (w.setCell ⟨b,k,none⟩ (.int .i64 v))∨(execOp a.eval o).run Tryz.prog w=.ok (.value undef) (w.setCell ⟨b,k,none⟩ (.int .i64 v)):=by
  unfold execOp
  simp only [ho,hx,hy]
  go_simp
 unfold dE
 rcases hrun with h | h <;> (rw [h];exact hR)
theorem mZ {o:Oper} {a:Act} {w:World} {b k:Nat} {us:List Value} {R:Value→World→Prop} {v1 v2 v3 v4:Int} (h:au w b us) (hk:k+4≤us.length) (x y:Operand) (ho:o.op=.store 101 x y) (hx:a.eval x=.pointer (some ⟨b,k,none⟩)) (hy:a.eval y=.agg #[.int .i64 v1,.int .i64 v2,.int .i64 v3,.int .i64 v4])
  (hR:R undef (w.setCells b k [.int .i64 v1,.int .i64 v2,.int .i64 v3,.int .i64 v4])):dE Tryz.prog (execOp a.eval o) w R:=by
 have hs:=run_storeVar_mid (P:=Tryz.prog) w b k 101 #[.int .i64 v1,.int .i64 v2,.int .i64 v3,.int .i64 v4] (fun i hi=>by
  have:=h.free (k+i) (by have:i<4:=hi;omega)
  rwa [Nat.zero_add] at this) (by kernel_rfl) (by kernel_rfl)
 have hrun:(execOp a.eval o).run Tryz.prog w=.ok .skip (w.setCells b k [.int .i64 v1,.int .i64 v2,.int .i64 v3,.int .i64 v4])∨(execOp a.eval o).run Tryz.prog w=.ok (.value undef) (w.setCells b k [.int .i64 v1,.int .i64 v2,.int .i64 v3,.int .i64 v4]):=by
  unfold execOp
  simp only [ho,hx,hy,Instr.storeAt,Instr.sureAddr,Sem.run_bind,Sem.run_pure,Result.andThen_ok,hs]
  simp
 unfold dE
 rcases hrun with h | h <;> (rw [h];exact hR)
def WpS (w:World) (o y:Ino) (W:World):Prop:=Lo [] w [(w.heap.size,aH y),(w.heap.size+1,aH o),(w.heap.size+2,aH Ii.zero)] W
theorem EM (w:World) (x o:Ino):WpS w o x (((w.alloc (.cells (aH x).toArray 103)).alloc (.cells (aH o).toArray 103)).alloc (.cells (aH Ii.zero).toArray 103)):=
 (((Lo.start w (by simp)).alloc w.heap.size rfl (aH x) _).alloc (w.heap.size+1) (by simp) (aH o) _).alloc (w.heap.size+2) (by simp) (aH Ii.zero) _
theorem WpS.dH {w W:World} {o y:Ino} (h:WpS w o y W) (k:Nat) (v:Int) (z:Ino) (hk:k<11) (hz:aH z=(aH y).take k++[.int .i64 v]++(aH y).drop (k+1)):WpS w o z (W.setCell ⟨w.heap.size,k,none⟩ (.int .i64 v)):=by
 have:=Lo.putAt h 0 (w.heap.size,aH y) rfl k [.int .i64 v] (aH z) (by exact hk) hz
 exact this
theorem WpS.IL {w W:World} {o y:Ino} (h:WpS w o y W) (z:Ino) (v1 v2 v3 v4:Int) (hz:aH z=(aH y).take 5++[.int .i64 v1,.int .i64 v2,.int .i64 v3,.int .i64 v4]++(aH y).drop 9):WpS w o z (W.setCells w.heap.size 5 [.int .i64 v1,.int .i64 v2,.int .i64 v3,.int .i64 v4]):=by
 have:=Lo.putAt h 0 (w.heap.size,aH y) rfl 5 [.int .i64 v1,.int .i64 v2,.int .i64 v3,.int .i64 v4] (aH z) (by show 9≤11;decide) hz
 exact this
section
variable {ops:Array Oper} {σ:Type} {S:σ→World→Prop}
theorem FL {o:Oper} {a:Act} {b:Nat} {x:Ino} (hw:Region.wanted o (yielded ops a.tmps)=true) (u:Operand) (ho:o.op=.load 101 u) (hx:a.eval u=.pointer (some ⟨b,5,none⟩)) (hS:∀ s w,S s w→au w b (aH x)):
  ia Tryz.prog ops S o (.agg #[.int .i64 x.a,.int .i64 x.b,.int .i64 x.c,.int .i64 x.d]) a:=
 ae hw fun s w hs=>by
  unfold execOp
  have:=run_loadVar_mid (P:=Tryz.prog) w b 5 101 [.int .i64 x.a,.int .i64 x.b,.int .i64 x.c,.int .i64 x.d] _ (hS s w hs).four Tryz.underlying101 rfl (by kernel_rfl)
  simp only [ho,hx,Instr.loadAt,Instr.sureAddr,Sem.run_bind,Sem.run_pure,Result.andThen_ok,this]
end
section
variable {P:Program} {ops:Array Oper} {Q:Exit→Act→World→Prop} {σ:Type} {S:σ→World→Prop} {sp:Nat→Bool} {vals:Nat→Value} {Bp:List PanicEntry→World→Prop}
theorem jW {n:Nat} {s:σ} {listed:Array Bool} {a:Act} {i:Nat} {o:Oper} (s':σ) (hi:ops[i]?=some o) (hd:o.dst=none) (hr:(Region.ready .any ops listed).contains i=true) (hf:Region.free .any ops listed i=true) (hsp:sp i=true)
  (hw:yC ops sp listed i=true) (hwa:Region.wanted o (yielded ops a.tmps)=true) (hy:∀ w,S s w→dE P (execOp a.eval o) w fun u w'=>u=undef∧S s' w')
  (h:gF P .any ops Q S Bp sp vals n s' (listed.setIfInBounds i true) (a.put none undef)):gF P .any ops Q S Bp sp vals (n+1) s listed a:=
 bw (d:=none) (fun u y=>u=undef∧y=s') hi hd hr hf hsp hw ⟨_,_,rfl,rfl⟩ hwa (fun w hS=>cJ ((hy w hS).mono fun u w' hh=>⟨s',⟨hh.1,rfl⟩,hh.2⟩)) fun u y hN=>by
  obtain ⟨rfl,rfl⟩:=hN
  exact h
end
theorem sG {w:World} (x o:Ino):Calls Tryz.prog 146 #[bH x,bH o] w fun e w'=>e=.returned (bH (Fs.lH x o))∧Below w.heap.size w w':=by
 have S0:=Lib.hid (EM w x o)
 unfold bH
 go_enter Tryz.func146,Tryz.ntmps146
 go_wp2_with fail
 generalize hw:World.alloc _ _=w1
 have S:Hid (WpS w o x w1):=Lib.hid (by rw [← hw];exact S0.out)
 clear hw S0
 refine aO (WpS w o) (fun _ _=>False) (fun i=>i == 9 || i == 11 || i == 13 || i == 15) (fun i=>[.pointer (some ⟨w.heap.size+1,4,none⟩),.int .i64 o.s,.pointer (some ⟨w.heap.size+1,5,none⟩),.agg #[.int .i64 o.a,.int .i64 o.b,.int .i64 o.c,.int .i64 o.d],.pointer (some ⟨w.heap.size+1,9,none⟩),.int .i64 o.e,.pointer (some ⟨w.heap.size+1,10,none⟩),.int .i64 o.f,.pointer (some ⟨w.heap.size,4,none⟩),undef,.pointer (some ⟨w.heap.size,5,none⟩),undef,.pointer (some ⟨w.heap.size,9,none⟩),undef,.pointer (some ⟨w.heap.size,10,none⟩)].getD i undef) x (by kernel_rfl) (by kernel_rfl) (fun _ _ _ _ h=>h.elim) S.out.drew ?_
 refine ag (i:=0) (d:=some 5) (v:=(.pointer (some ⟨w.heap.size+1,4,none⟩))) rfl rfl (by kernel_rfl) (by kernel_rfl) rfl rfl (ae (by kernel_rfl) ?_) ?_
 ·((intro _ _ _;go_simp) <;> kernel_rfl)
 try simp only [Act.put,puA,puB,puC]
 refine ag (i:=1) (d:=some 6) (v:=(.int .i64 o.s)) rfl rfl (by kernel_rfl) (by kernel_rfl) rfl rfl (ae (by kernel_rfl) ?_) ?_
 ·(intro sZ wZ hZ;have cZ:=(fun (y:Ino) (W:World) (hS:WpS w o y W)=>(hS.get 1 _ rfl).cell 4 _ rfl) sZ wZ hZ;go_simp)
 try simp only [Act.put,puA,puB,puC]
 refine ag (i:=2) (d:=some 7) (v:=(.pointer (some ⟨w.heap.size+1,5,none⟩))) rfl rfl (by kernel_rfl) (by kernel_rfl) rfl rfl (ae (by kernel_rfl) ?_) ?_
 ·((intro _ _ _;go_simp) <;> kernel_rfl)
 try simp only [Act.put,puA,puB,puC]
 refine ag (i:=3) (d:=some 8) (v:=.agg #[.int .i64 o.a,.int .i64 o.b,.int .i64 o.c,.int .i64 o.d]) rfl rfl (by kernel_rfl) (by kernel_rfl) rfl rfl (FL (by kernel_rfl) (.tmp 7) rfl rfl (fun y W hS=>hS.get 1 _ rfl)) ?_
 try simp only [Act.put,puA,puB,puC]
 refine ag (i:=4) (d:=some 9) (v:=(.pointer (some ⟨w.heap.size+1,9,none⟩))) rfl rfl (by kernel_rfl) (by kernel_rfl) rfl rfl (ae (by kernel_rfl) ?_) ?_
 ·((intro _ _ _;go_simp) <;> kernel_rfl)
 try simp only [Act.put,puA,puB,puC]
 refine ag (i:=5) (d:=some 10) (v:=(.int .i64 o.e)) rfl rfl (by kernel_rfl) (by kernel_rfl) rfl rfl (ae (by kernel_rfl) ?_) ?_
 ·(intro sZ wZ hZ;have cZ:=(fun (y:Ino) (W:World) (hS:WpS w o y W)=>(hS.get 1 _ rfl).cell 9 _ rfl) sZ wZ hZ;go_simp)
 try simp only [Act.put,puA,puB,puC]
 refine ag (i:=6) (d:=some 11) (v:=(.pointer (some ⟨w.heap.size+1,10,none⟩))) rfl rfl (by kernel_rfl) (by kernel_rfl) rfl rfl (ae (by kernel_rfl) ?_) ?_
 ·((intro _ _ _;go_simp) <;> kernel_rfl)
 try simp only [Act.put,puA,puB,puC]
 refine ag (i:=7) (d:=some 12) (v:=(.int .i64 o.f)) rfl rfl (by kernel_rfl) (by kernel_rfl) rfl rfl (ae (by kernel_rfl) ?_) ?_
 ·(intro sZ wZ hZ;have cZ:=(fun (y:Ino) (W:World) (hS:WpS w o y W)=>(hS.get 1 _ rfl).cell 10 _ rfl) sZ wZ hZ;go_simp)
 try simp only [Act.put,puA,puB,puC]
 refine ag (i:=8) (d:=some 13) (v:=(.pointer (some ⟨w.heap.size,4,none⟩))) rfl rfl (by kernel_rfl) (by kernel_rfl) rfl rfl (ae (by kernel_rfl) ?_) ?_
 ·((intro _ _ _;go_simp) <;> kernel_rfl)
 try simp only [Act.put,puA,puB,puC]
 refine jW (i:=9) ({ x with s:=o.s }) rfl rfl (by kernel_rfl) (by kernel_rfl) rfl (by kernel_rfl) (by kernel_rfl) (fun W hS=>ft (hS.get 0 _ rfl) (show 4<11 by decide) (.tmp 13) (.tmp 6) rfl rfl rfl ⟨rfl,hS.dH 4 o.s _ (by decide) rfl⟩) ?_
 try simp only [Act.put,puA,puB,puC]
 refine ag (i:=10) (d:=some 14) (v:=(.pointer (some ⟨w.heap.size,5,none⟩))) rfl rfl (by kernel_rfl) (by kernel_rfl) rfl rfl (ae (by kernel_rfl) ?_) ?_
 ·((intro _ _ _;go_simp) <;> kernel_rfl)
 try simp only [Act.put,puA,puB,puC]
 refine jW (i:=11) ({ x with s:=o.s,a:=o.a,b:=o.b,c:=o.c,d:=o.d }) rfl rfl (by kernel_rfl) (by kernel_rfl) rfl (by kernel_rfl) (by kernel_rfl) (fun W hS=>mZ (hS.get 0 _ rfl) (show 5+4≤11 by decide) (.tmp 14) (.tmp 8) rfl rfl rfl ⟨rfl,hS.IL _ o.a o.b o.c o.d rfl⟩) ?_
 try simp only [Act.put,puA,puB,puC]
 refine ag (i:=12) (d:=some 15) (v:=(.pointer (some ⟨w.heap.size,9,none⟩))) rfl rfl (by kernel_rfl) (by kernel_rfl) rfl rfl (ae (by kernel_rfl) ?_) ?_
 ·((intro _ _ _;go_simp) <;> kernel_rfl)
 try simp only [Act.put,puA,puB,puC]
 refine jW (i:=13) ({ x with s:=o.s,a:=o.a,b:=o.b,c:=o.c,d:=o.d,e:=o.e }) rfl rfl (by kernel_rfl) (by kernel_rfl) rfl (by kernel_rfl) (by kernel_rfl) (fun W hS=>ft (hS.get 0 _ rfl) (show 9<11 by decide) (.tmp 15) (.tmp 10) rfl rfl rfl ⟨rfl,hS.dH 9 o.e _ (by decide) rfl⟩) ?_
 try simp only [Act.put,puA,puB,puC]
 refine ag (i:=14) (d:=some 16) (v:=(.pointer (some ⟨w.heap.size,10,none⟩))) rfl rfl (by kernel_rfl) (by kernel_rfl) rfl rfl (ae (by kernel_rfl) ?_) ?_
 ·((intro _ _ _;go_simp) <;> kernel_rfl)
 try simp only [Act.put,puA,puB,puC]
 refine jW (i:=15) (Fs.lH x o) rfl rfl (by kernel_rfl) (by kernel_rfl) rfl (by kernel_rfl) (by kernel_rfl) (fun W hS=>ft (hS.get 0 _ rfl) (show 10<11 by decide) (.tmp 16) (.tmp 12) rfl rfl rfl ⟨rfl,hS.dH 10 o.f _ (by decide) rfl⟩) ?_
 try simp only [Act.put,puA,puB,puC]
 refine cH (by kernel_rfl) fun W hS=>?_
 have S3:Hid (Lo [] w [(w.heap.size,aH (Fs.lH x o)),(w.heap.size+1,aH o),(w.heap.size+2,aH Ii.zero)] W):=Lib.hid hS
 clear hS S
 go_wp2_with (first
  | (with_reducible refine af cz (S3.out.get 0 _ rfl) rfl rfl (.tmp 2) rfl rfl ?_)
  | ((with_reducible refine ak (vs:=aH (Fs.lH x o)) cz (S3.out.get 2 _ rfl) ?_ ?_ (aJ _) rfl (.tmp 4) (.tmp 17) rfl ?_ ?_ ?_);(exact rfl);(exact rfl);(exact rfl);(exact rfl)))
 have S4:=Lib.hid (S3.out.put 2 _ rfl (aH (Fs.lH x o)) rfl)
 exact bodyPost_ret (aC cz _ 4 rfl _ (S4.out.get 2 _ rfl) rfl rfl) rfl ⟨rfl,S4.out.bel⟩
section
variable {ops:Array Oper} {σ:Type} {S:σ→World→Prop}
theorem bM {t:TypeId} {vs:List Value} {o:Oper} {a:Act} {b f:Nat} (hl:∀ w:World,w.rangeAt b f vs→(loadVar t ⟨b,f,none⟩).run Tryz.prog w=.ok (.agg vs.toArray) w) (hw:Region.wanted o (yielded ops a.tmps)=true) (u:Operand) (ho:o.op=.load t u) (hx:a.eval u=.pointer (some ⟨b,f,none⟩)) (hS:∀ s w,S s w→w.rangeAt b f vs):
  ia Tryz.prog ops S o (.agg vs.toArray) a:=
 ae hw fun s w hs=>by
  unfold execOp
  have:=hl w (hS s w hs)
  simp only [ho,hx,Instr.loadAt,Instr.sureAddr,Sem.run_bind,Sem.run_pure,Result.andThen_ok,this]
end
theorem eu {B o:Nat} {n I:Int} (w:World) (h:w.rangeAt B o (bc n I)):(loadVar 132 ⟨B,o,none⟩).run Tryz.prog w=.ok (.agg (bc n I).toArray) w:=
 run_loadVar_mid (P:=Tryz.prog) w B o 132 (bc n I) _ h Tryz.underlying132 rfl (by kernel_rfl)
theorem lu {B o:Nat} {x:Ino} (w:World) (h:w.rangeAt B o (aH x)):(loadVar 103 ⟨B,o,none⟩).run Tryz.prog w=.ok (.agg (aH x).toArray) w:=
 run_loadVar_mid (P:=Tryz.prog) w B o 103 (aH x) _ h Tryz.underlying103 rfl (by kernel_rfl)
theorem zV {B o st:Nat} {n I:Int} (w:World) (h:w.rangeAt B o (eN st n I)):(loadVar 134 ⟨B,o,none⟩).run Tryz.prog w=.ok (.agg (eN st n I).toArray) w:=
 run_loadVar_mid (P:=Tryz.prog) w B o 134 (eN st n I) _ h Tryz.underlying134 rfl (by kernel_rfl)
theorem BL (w:World) (x:Ino):Lo [] w [(w.heap.size,aH x),(w.heap.size+1,aH Ii.zero)] ((w.alloc (.cells (aH x).toArray 103)).alloc (.cells (aH Ii.zero).toArray 103)):=
 ((Lo.start w (by simp)).alloc w.heap.size rfl (aH x) _).alloc (w.heap.size+1) (by simp) (aH Ii.zero) _
theorem kc {w:World} {B:Nat} {b:Blk} {s:Sto} {n I:Int} (h:Ctx w B b s n I) (x:Ino):Calls Tryz.prog 145 #[.pointer (some ⟨B,0,none⟩),bH x] w (Ends B b n I [] w s (Fs.kV n I x) fun y e _=>e=.returned (bH y)):=by
 refine aQ fun R H=>?_
 have S0:=Lib.hid (BL w x)
 have HB:Hid (∀ W,Lo [] w [(w.heap.size,aH x),(w.heap.size+1,aH Ii.zero)] W→au W B (gO b.s n I true 0)):=Lib.hid (fun W hl=>(Lo.ctx (L:=[]) hl h).step)
 have HE:Hid (¬ (x.k=0∨Ii.kd n I x=false)→∀ W,Lo [] w [(w.heap.size,aH x),(w.heap.size+1,aH x)] W→R (.returned (bH x)) W):=Lib.hid (fun c W hl=>H.out _ _ (Or.inl ⟨x,s,[],by unfold Fs.kV;rw [if_neg c];rfl,nh.refl s,Lo.ctx (L:=[]) hl h,rfl,hl.only.mono (by simp)⟩))
 have HF:Hid ((x.k=0∨Ii.kd n I x=false)→∀ W,Lo [] w [(w.heap.size,aH x),(w.heap.size+1,aH Ii.zero)] W→Calls Tryz.prog 58 #[.pointer (some ⟨B,0,none⟩),.int .i64 22] W fun e w'=>e=.panicked [bn B]∧R (.panicked [bn B]) w'):=Lib.hid (fun c W hl=>(cM (Lo.ctx (L:=[]) hl h) 22 (by decide)).mono fun e w' hh=>⟨hh.1,H.out _ _ (Or.inr ⟨22,Or.inl ⟨nv s,[],by unfold Fs.kV;rw [if_pos c];rfl⟩,by decide,hh.2.1,rfl,(hl.only.mono (by simp)).via hh.2.2 (fun i hi=>Or.inl (by simp at hi ⊢;exact Or.inl hi))⟩)⟩)
 have HR:Hid (∀ w,Calls Tryz.prog 110 #[.agg (aH x).toArray,.agg (bc n I).toArray] w fun e w'=>e=.returned (.bool (Ii.kd n I x))∧Below w.heap.size w w'):=Lib.hid (fun w=>qI n I x w)
 clear h H
 by_cases hk:x.k=0
 ·replace HF:=Lib.hid (HF.out (Or.inl hk))
  have gk:(x.k == 0)=true:=by rw [hk];rfl
  clear hk HE HR
  unfold bH
  go_enter Tryz.func145,Tryz.ntmps145
  go_wp2_with fail
  generalize hw:World.alloc _ _=w1
  have S:Hid (Lo [] w [(w.heap.size,aH x),(w.heap.size+1,aH Ii.zero)] w1):=Lib.hid (by rw [← hw];exact S0.out)
  clear hw S0
  refine aO (fun (_:Unit) W=>Lo [] w [(w.heap.size,aH x),(w.heap.size+1,aH Ii.zero)] W) (fun _ _=>False) (fun _=>false) (fun i=>[.pointer (some ⟨w.heap.size,0,none⟩),.int .i64 x.k,.bool true,.bool true,undef,undef,undef,undef,undef,undef,undef,undef,.bool true].getD i undef) () (by kernel_rfl) (by kernel_rfl) (fun _ _ _ _ h=>h.elim) S.out.drew ?_
  refine ag (i:=0) (d:=some 5) (v:=(.pointer (some ⟨w.heap.size,0,none⟩))) rfl rfl (by kernel_rfl) (by kernel_rfl) rfl rfl (ae (by kernel_rfl) ?_) ?_
  ·((intro _ _ _;go_simp) <;> kernel_rfl)
  try simp only [Act.put,puA,puB,puC]
  refine ag (i:=1) (d:=some 6) (v:=(.int .i64 x.k)) rfl rfl (by kernel_rfl) (by kernel_rfl) rfl rfl (ae (by kernel_rfl) ?_) ?_
  ·(intro sZ wZ hZ;have cZ:=(fun (_:Unit) (W:World) (hS:Lo [] w [(w.heap.size,aH x),(w.heap.size+1,aH Ii.zero)] W)=>(hS.get 0 _ rfl).cell 0 _ rfl) sZ wZ hZ;go_simp)
  try simp only [Act.put,puA,puB,puC]
  refine ag (i:=2) (d:=some 7) (v:=(.bool true)) rfl rfl (by kernel_rfl) (by kernel_rfl) rfl rfl (ae (by kernel_rfl) ?_) ?_
  ·((intro _ _ _;go_simp) <;> kernel_rfl)
  try simp only [Act.put,puA,puB,puC]
  refine ag (i:=3) (d:=some 8) (v:=(.bool true)) rfl rfl (by kernel_rfl) (by kernel_rfl) rfl rfl (ae (by kernel_rfl) ?_) ?_
  ·((intro _ _ _;go_simp) <;> kernel_rfl)
  try simp only [Act.put,puA,puB,puC]
  refine ag (i:=4) (d:=some 9) (v:=undef) rfl rfl (by kernel_rfl) (by kernel_rfl) rfl rfl (gC (by kernel_rfl)) ?_
  try simp only [Act.put,puA,puB,puC]
  refine ag (i:=5) (d:=some 10) (v:=undef) rfl rfl (by kernel_rfl) (by kernel_rfl) rfl rfl (gC (by kernel_rfl)) ?_
  try simp only [Act.put,puA,puB,puC]
  refine ag (i:=6) (d:=some 11) (v:=undef) rfl rfl (by kernel_rfl) (by kernel_rfl) rfl rfl (gC (by kernel_rfl)) ?_
  try simp only [Act.put,puA,puB,puC]
  refine ag (i:=7) (d:=some 12) (v:=undef) rfl rfl (by kernel_rfl) (by kernel_rfl) rfl rfl (gC (by kernel_rfl)) ?_
  try simp only [Act.put,puA,puB,puC]
  refine ag (i:=8) (d:=some 13) (v:=undef) rfl rfl (by kernel_rfl) (by kernel_rfl) rfl rfl (gC (by kernel_rfl)) ?_
  try simp only [Act.put,puA,puB,puC]
  refine ag (i:=9) (d:=some 14) (v:=undef) rfl rfl (by kernel_rfl) (by kernel_rfl) rfl rfl (gC (by kernel_rfl)) ?_
  try simp only [Act.put,puA,puB,puC]
  refine ag (i:=10) (d:=some 15) (v:=undef) rfl rfl (by kernel_rfl) (by kernel_rfl) rfl rfl (gC (by kernel_rfl)) ?_
  try simp only [Act.put,puA,puB,puC]
  refine ag (i:=11) (d:=some 16) (v:=undef) rfl rfl (by kernel_rfl) (by kernel_rfl) rfl rfl (gC (by kernel_rfl)) ?_
  try simp only [Act.put,puA,puB,puC]
  refine ag (i:=12) (d:=some 17) (v:=(.bool true)) rfl rfl (by kernel_rfl) (by kernel_rfl) rfl rfl (ae (by kernel_rfl) ?_) ?_
  ·((intro _ _ _;go_simp) <;> kernel_rfl)
  try simp only [Act.put,puA,puB,puC]
  refine cH (by kernel_rfl) fun W hS=>?_
  have S3:=Lib.hid hS
  clear hS S
  go_wp2_with (go_at_call 58;refine (HF.out _ S3.out).mono ?_;rintro e w1 ⟨rfl,hR⟩)
  exact ⟨rfl,hR⟩
 ·have gk:(x.k == 0)=false:=by simpa using hk
  cases hr:Ii.kd n I x with
  |
   false=>
   replace HF:=Lib.hid (HF.out (Or.inr hr))
   rw [hr] at HR
   clear hk HE hr
   unfold bH
   go_enter Tryz.func145,Tryz.ntmps145
   go_wp2_with fail
   generalize hw:World.alloc _ _=w1
   have S:Hid (Lo [] w [(w.heap.size,aH x),(w.heap.size+1,aH Ii.zero)] w1):=Lib.hid (by rw [← hw];exact S0.out)
   clear hw S0
   refine aO (fun (_:Unit) W=>Lo [] w [(w.heap.size,aH x),(w.heap.size+1,aH Ii.zero)] W) (fun _ _=>False) (fun _=>false) (fun i=>[.pointer (some ⟨w.heap.size,0,none⟩),.int .i64 x.k,.bool false,.bool false,.agg (aH x).toArray,.pointer (some ⟨B,0,none⟩),.pointer (some ⟨B,0,none⟩),.pointer (some ⟨B,0,none⟩),.pointer (some ⟨B,1,none⟩),.agg (bc n I).toArray,.bool false,.bool true,.bool true].getD i undef) () (by kernel_rfl) (by kernel_rfl) (fun _ _ _ _ h=>h.elim) S.out.drew ?_
   refine ag (i:=0) (d:=some 5) (v:=(.pointer (some ⟨w.heap.size,0,none⟩))) rfl rfl (by kernel_rfl) (by kernel_rfl) rfl rfl (ae (by kernel_rfl) ?_) ?_
   ·((intro _ _ _;go_simp) <;> kernel_rfl)
   try simp only [Act.put,puA,puB,puC]
   refine ag (i:=1) (d:=some 6) (v:=(.int .i64 x.k)) rfl rfl (by kernel_rfl) (by kernel_rfl) rfl rfl (ae (by kernel_rfl) ?_) ?_
   ·(intro sZ wZ hZ;have cZ:=(fun (_:Unit) (W:World) (hS:Lo [] w [(w.heap.size,aH x),(w.heap.size+1,aH Ii.zero)] W)=>(hS.get 0 _ rfl).cell 0 _ rfl) sZ wZ hZ;go_simp)
   try simp only [Act.put,puA,puB,puC]
   refine ag (i:=2) (d:=some 7) (v:=(.bool false)) rfl rfl (by kernel_rfl) (by kernel_rfl) rfl rfl (ae (by kernel_rfl) ?_) ?_
   ·((intro _ _ _;go_simp) <;> kernel_rfl)
   try simp only [Act.put,puA,puB,puC]
   refine ag (i:=3) (d:=some 8) (v:=(.bool false)) rfl rfl (by kernel_rfl) (by kernel_rfl) rfl rfl (ae (by kernel_rfl) ?_) ?_
   ·((intro _ _ _;go_simp) <;> kernel_rfl)
   try simp only [Act.put,puA,puB,puC]
   refine ag (i:=4) (d:=some 9) (v:=(.agg (aH x).toArray)) rfl rfl (by kernel_rfl) (by kernel_rfl) rfl rfl (bM lu (by kernel_rfl) (.tmp 3) rfl rfl (fun _ W hS=>(hS.get 0 _ rfl).range)) ?_
   try simp only [Act.put,puA,puB,puC]
   refine ag (i:=5) (d:=some 10) (v:=(.pointer (some ⟨B,0,none⟩))) rfl rfl (by kernel_rfl) (by kernel_rfl) rfl rfl (ae (by kernel_rfl) ?_) ?_
   ·((intro _ _ _;go_simp) <;> kernel_rfl)
   try simp only [Act.put,puA,puB,puC]
   refine ag (i:=6) (d:=some 11) (v:=(.pointer (some ⟨B,0,none⟩))) rfl rfl (by kernel_rfl) (by kernel_rfl) rfl rfl (ae (by kernel_rfl) ?_) ?_
   ·((intro _ _ _;go_simp) <;> kernel_rfl)
   try simp only [Act.put,puA,puB,puC]
   refine ag (i:=7) (d:=some 12) (v:=(.pointer (some ⟨B,0,none⟩))) rfl rfl (by kernel_rfl) (by kernel_rfl) rfl rfl (ae (by kernel_rfl) ?_) ?_
   ·((intro _ _ _;go_simp) <;> kernel_rfl)
   try simp only [Act.put,puA,puB,puC]
   refine ag (i:=8) (d:=some 13) (v:=(.pointer (some ⟨B,1,none⟩))) rfl rfl (by kernel_rfl) (by kernel_rfl) rfl rfl (ae (by kernel_rfl) ?_) ?_
   ·((intro _ _ _;go_simp) <;> kernel_rfl)
   try simp only [Act.put,puA,puB,puC]
   refine ag (i:=9) (d:=some 14) (v:=(.agg (bc n I).toArray)) rfl rfl (by kernel_rfl) (by kernel_rfl) rfl rfl (bM eu (by kernel_rfl) (.tmp 13) rfl rfl (fun _ W hS=>(HB.out W hS).gR)) ?_
   try simp only [Act.put,puA,puB,puC]
   refine ag (i:=10) (d:=some 15) (v:=(.bool false)) rfl rfl (by kernel_rfl) (by kernel_rfl) rfl rfl (aR (f:=110) (args:=#[.agg (aH x).toArray,.agg (bc n I).toArray]) (by kernel_rfl) ?_ (fun _ W hS=>(HR.out W).mono fun e w' hh=>⟨hh.1,hS.below hh.2⟩)) ?_
   ·(intro _;go_simp)
   try simp only [Act.put,puA,puB,puC]
   refine ag (i:=11) (d:=some 16) (v:=(.bool true)) rfl rfl (by kernel_rfl) (by kernel_rfl) rfl rfl (ae (by kernel_rfl) ?_) ?_
   ·((intro _ _ _;go_simp) <;> kernel_rfl)
   try simp only [Act.put,puA,puB,puC]
   refine ag (i:=12) (d:=some 17) (v:=(.bool true)) rfl rfl (by kernel_rfl) (by kernel_rfl) rfl rfl (ae (by kernel_rfl) ?_) ?_
   ·((intro _ _ _;go_simp) <;> kernel_rfl)
   try simp only [Act.put,puA,puB,puC]
   refine cH (by kernel_rfl) fun W hS=>?_
   have S3:=Lib.hid hS
   clear hS S
   go_wp2_with (go_at_call 58;refine (HF.out _ S3.out).mono ?_;rintro e w1 ⟨rfl,hR⟩)
   exact ⟨rfl,hR⟩
  |
   true=>
   replace HE:=Lib.hid (HE.out (by rw [hr];simpa using hk))
   rw [hr] at HR
   clear hk HF hr
   unfold bH
   go_enter Tryz.func145,Tryz.ntmps145
   go_wp2_with fail
   generalize hw:World.alloc _ _=w1
   have S:Hid (Lo [] w [(w.heap.size,aH x),(w.heap.size+1,aH Ii.zero)] w1):=Lib.hid (by rw [← hw];exact S0.out)
   clear hw S0
   refine aO (fun (_:Unit) W=>Lo [] w [(w.heap.size,aH x),(w.heap.size+1,aH Ii.zero)] W) (fun _ _=>False) (fun _=>false) (fun i=>[.pointer (some ⟨w.heap.size,0,none⟩),.int .i64 x.k,.bool false,.bool false,.agg (aH x).toArray,.pointer (some ⟨B,0,none⟩),.pointer (some ⟨B,0,none⟩),.pointer (some ⟨B,0,none⟩),.pointer (some ⟨B,1,none⟩),.agg (bc n I).toArray,.bool true,.bool false,.bool false].getD i undef) () (by kernel_rfl) (by kernel_rfl) (fun _ _ _ _ h=>h.elim) S.out.drew ?_
   refine ag (i:=0) (d:=some 5) (v:=(.pointer (some ⟨w.heap.size,0,none⟩))) rfl rfl (by kernel_rfl) (by kernel_rfl) rfl rfl (ae (by kernel_rfl) ?_) ?_
   ·((intro _ _ _;go_simp) <;> kernel_rfl)
   try simp only [Act.put,puA,puB,puC]
   refine ag (i:=1) (d:=some 6) (v:=(.int .i64 x.k)) rfl rfl (by kernel_rfl) (by kernel_rfl) rfl rfl (ae (by kernel_rfl) ?_) ?_
   ·(intro sZ wZ hZ;have cZ:=(fun (_:Unit) (W:World) (hS:Lo [] w [(w.heap.size,aH x),(w.heap.size+1,aH Ii.zero)] W)=>(hS.get 0 _ rfl).cell 0 _ rfl) sZ wZ hZ;go_simp)
   try simp only [Act.put,puA,puB,puC]
   refine ag (i:=2) (d:=some 7) (v:=(.bool false)) rfl rfl (by kernel_rfl) (by kernel_rfl) rfl rfl (ae (by kernel_rfl) ?_) ?_
   ·((intro _ _ _;go_simp) <;> kernel_rfl)
   try simp only [Act.put,puA,puB,puC]
   refine ag (i:=3) (d:=some 8) (v:=(.bool false)) rfl rfl (by kernel_rfl) (by kernel_rfl) rfl rfl (ae (by kernel_rfl) ?_) ?_
   ·((intro _ _ _;go_simp) <;> kernel_rfl)
   try simp only [Act.put,puA,puB,puC]
   refine ag (i:=4) (d:=some 9) (v:=(.agg (aH x).toArray)) rfl rfl (by kernel_rfl) (by kernel_rfl) rfl rfl (bM lu (by kernel_rfl) (.tmp 3) rfl rfl (fun _ W hS=>(hS.get 0 _ rfl).range)) ?_
   try simp only [Act.put,puA,puB,puC]
   refine ag (i:=5) (d:=some 10) (v:=(.pointer (some ⟨B,0,none⟩))) rfl rfl (by kernel_rfl) (by kernel_rfl) rfl rfl (ae (by kernel_rfl) ?_) ?_
   ·((intro _ _ _;go_simp) <;> kernel_rfl)
   try simp only [Act.put,puA,puB,puC]
   refine ag (i:=6) (d:=some 11) (v:=(.pointer (some ⟨B,0,none⟩))) rfl rfl (by kernel_rfl) (by kernel_rfl) rfl rfl (ae (by kernel_rfl) ?_) ?_
   ·((intro _ _ _;go_simp) <;> kernel_rfl)
   try simp only [Act.put,puA,puB,puC]
   refine ag (i:=7) (d:=some 12) (v:=(.pointer (some ⟨B,0,none⟩))) rfl rfl (by kernel_rfl) (by kernel_rfl) rfl rfl (ae (by kernel_rfl) ?_) ?_
   ·((intro _ _ _;go_simp) <;> kernel_rfl)
   try simp only [Act.put,puA,puB,puC]
   refine ag (i:=8) (d:=some 13) (v:=(.pointer (some ⟨B,1,none⟩))) rfl rfl (by kernel_rfl) (by kernel_rfl) rfl rfl (ae (by kernel_rfl) ?_) ?_
   ·((intro _ _ _;go_simp) <;> kernel_rfl)
   try simp only [Act.put,puA,puB,puC]
   refine ag (i:=9) (d:=some 14) (v:=(.agg (bc n I).toArray)) rfl rfl (by kernel_rfl) (by kernel_rfl) rfl rfl (bM eu (by kernel_rfl) (.tmp 13) rfl rfl (fun _ W hS=>(HB.out W hS).gR)) ?_
   try simp only [Act.put,puA,puB,puC]
   refine ag (i:=10) (d:=some 15) (v:=(.bool true)) rfl rfl (by kernel_rfl) (by kernel_rfl) rfl rfl (aR (f:=110) (args:=#[.agg (aH x).toArray,.agg (bc n I).toArray]) (by kernel_rfl) ?_ (fun _ W hS=>(HR.out W).mono fun e w' hh=>⟨hh.1,hS.below hh.2⟩)) ?_
   ·(intro _;go_simp)
   try simp only [Act.put,puA,puB,puC]
   refine ag (i:=11) (d:=some 16) (v:=(.bool false)) rfl rfl (by kernel_rfl) (by kernel_rfl) rfl rfl (ae (by kernel_rfl) ?_) ?_
   ·((intro _ _ _;go_simp) <;> kernel_rfl)
   try simp only [Act.put,puA,puB,puC]
   refine ag (i:=12) (d:=some 17) (v:=(.bool false)) rfl rfl (by kernel_rfl) (by kernel_rfl) rfl rfl (ae (by kernel_rfl) ?_) ?_
   ·((intro _ _ _;go_simp) <;> kernel_rfl)
   try simp only [Act.put,puA,puB,puC]
   refine cH (by kernel_rfl) fun W hS=>?_
   have S3:=Lib.hid hS
   clear hS S
   go_wp2_with (first
    | (with_reducible refine af cz (S3.out.get 0 _ rfl) rfl rfl (.tmp 3) rfl rfl ?_)
    | ((with_reducible refine ak (vs:=aH x) cz (S3.out.get 1 _ rfl) ?_ ?_ (aJ _) rfl (.tmp 4) (.tmp 20) rfl ?_ ?_ ?_);(exact rfl);(exact rfl);(exact rfl);(exact rfl)))
   have S4:=Lib.hid (S3.out.put 1 _ rfl (aH x) rfl)
   exact bodyPost_ret (aC cz _ 4 rfl _ (S4.out.get 1 _ rfl) rfl rfl) rfl (HE.out _ S4.out)
end

section
open Go.RowKit Go.Maps
open Dk (av aa)
open Ii (Ino)
theorem Fs.sb {V:Fs.View}:∀ (c:Nat) (i:Int) {k:Int},Fs.fx V c i=.ok k→i≤k∧k<i+c
 | 0,i,k,h=>by cases h
 |
  c+1,i,k,h=>by
  rw [Fs.fx] at h
  split at h
  ·injection h with h;subst h;omega
  ·have:=Fs.sb c (i+1) h;omega
theorem yY {w:World} {B:Nat} {b:Blk} {s:Sto} {n I:Int} (h:Ctx w B b s n I):Calls Tryz.prog 168 #[.pointer (some ⟨B,0,none⟩)] w (Ends B b n I [] w s (Fs.xV I) fun i e _=>e=.returned (.int .i64 i)):=by
 refine aQ fun R H=>?_
 have hI:=h.vs.bd
 have HB:Hid (∀ W l,Lo [] w l W→au W B (gO b.s n I true 0)):=Lib.hid (fun W l hl=>(Lo.ctx (L:=[]) hl h).step)
 have HI:Hid (∀ W l i,Lo [] w l W→1≤i→i≤I→Calls Tryz.prog 159 #[bW b.s n I,.int .i64 i] W fun e w'=>e=.returned (.tuple #[bH (Fs.bJ (nv s) i),.int .i64 0])∧Below W.heap.size W w'):=Lib.hid (fun W l i hl h1 h2=>fM (hl.store h.store) h.vs i h1 h2)
 have HE:Hid (∀ W l i,Lo [] w l W→Fs.fx (nv s) I.toNat 1=.ok i→R (.returned (.int .i64 i)) W):=Lib.hid (fun W l i hl hx=>H.out _ _ (Ends.told (f:=fun V=>Fs.fx V I.toNat 1) hx h hl.bel rfl))
 have HF:Hid (∀ W l,Lo [] w l W→Fs.fx (nv s) I.toNat 1=.error 28→Calls Tryz.prog 58 #[.pointer (some ⟨B,0,none⟩),.int .i64 28] W fun e w'=>e=.panicked [bn B]∧R (.panicked [bn B]) w'):=Lib.hid (fun W l hl hx=>(cM (Lo.ctx (L:=[]) hl h) 28 (by decide)).mono fun e w' hh=>⟨hh.1,H.out _ _ (Ends.untold (f:=fun V=>Fs.fx V I.toNat 1) hx (by decide) hl.bel hh.2.1 hh.2.2)⟩)
 have hI1:=hI.1
 have hI2:=hI.2.1
 clear h H hI
 generalize hX:Fs.fx (nv s) I.toNat 1=X at HE HF
 have HX0:=Lib.hid hX
 clear hX
 have S0:=Lib.hid (Lo.start (L:=[]) w (by simp))
 go_enter Tryz.func168,Tryz.ntmps168
 go_wp2_with fail
 go_loopw [3] (fun i wr=>∃ (k:Nat),(k:Int)≤I∧i=.int .i64 ((k:Int)+1)∧Lo [] w [] wr∧Hid (Fs.fx (nv s) (I.toNat - k) ((k:Int)+1)=X)) (fun i _=>200 - (intOf i).toNat)
 case atStart=>exact ⟨0,by omega,rfl,S0.out,Lib.hid HX0.out⟩
 case round=>
  obtain ⟨k,hk,rfl,hS,HG⟩:=hrel
  have S:=Lib.hid hS
  clear hS S0 HX0
  have cI:wr.cell? ⟨B,2,none⟩=some (.int .i64 I):=(HB.out _ _ S.out).cell 2 _ rfl
  by_cases hlt:(k:Int)+1≤I
  ·have e1:I.toNat - k=(I.toNat - (k+1))+1:=by omega
   rw [e1,Fs.fx] at HG
   have HII:=Lib.hid (fun (W:World) (l:List (Nat × List Value)) (hl:Lo [] w l W)=>HI.out W l ((k:Int)+1) hl (by omega) hlt)
   generalize Fs.bJ (nv s) ((k:Int)+1)=x at HG HII
   by_cases hx:x.k=0
   ·rw [if_pos hx] at HG
    have gk:(x.k == 0)=true:=by rw [hx];rfl
    clear hx
    go_wp2_with (first
     | (with_reducible refine aE (HB.out _ _ S.out).base rfl (.tmp 19) rfl rfl ?_)
     | (go_at_call 159;refine (HII.out _ _ S.out).mono ?_;rintro e w1 ⟨rfl,hb⟩;replace S:=Lib.hid (S.out.below hb);clear hb cI)
     | ((with_reducible refine ai (vs:=aH x) cz ?_ (aJ _) rfl (.tmp 4) (.tmp 23) rfl rfl ?_ ?_ ?_);(exact rfl);(exact rfl);(exact rfl);intro W4 hP hB2 hz2;replace S:=Lib.hid (S.out.made hP hB2 hz2);clear hP hB2 hz2)
     | (go_at_call 133;(with_reducible refine (js _).mono ?_);rintro e w1 ⟨rfl,rfl⟩;have ck:=(S.out.get 0 _ rfl).cell 0 _ rfl))
    exact HE.out _ _ _ S.out HG.out.symm
   ·rw [if_neg hx] at HG
    have gk:(x.k == 0)=false:=by simpa using hx
    clear hx
    go_wp2_with (first
     | (with_reducible refine aE (HB.out _ _ S.out).base rfl (.tmp 19) rfl rfl ?_)
     | (go_at_call 159;refine (HII.out _ _ S.out).mono ?_;rintro e w1 ⟨rfl,hb⟩;replace S:=Lib.hid (S.out.below hb);clear hb cI)
     | ((with_reducible refine ai (vs:=aH x) cz ?_ (aJ _) rfl (.tmp 4) (.tmp 23) rfl rfl ?_ ?_ ?_);(exact rfl);(exact rfl);(exact rfl);intro W4 hP hB2 hz2;replace S:=Lib.hid (S.out.made hP hB2 hz2);clear hP hB2 hz2)
     | (go_at_call 133;(with_reducible refine (js _).mono ?_);rintro e w1 ⟨rfl,rfl⟩;have ck:=(S.out.get 0 _ rfl).cell 0 _ rfl))
    go_roundw
    case rel=>exact ⟨k+1,by omega,by go_num,S.out.cut 0,by rw [show ((k+1:Nat):Int)+1=(k:Int)+1+1 by omega];exact HG⟩
    case measure=>simp [intOf];omega
  ·have e1:I.toNat - k=0:=by omega
   rw [e1,Fs.fx] at HG
   go_wp2_with (go_at_call 58;refine (HF.out _ _ S.out HG.out.symm).mono ?_;rintro e w1 ⟨rfl,hR⟩)
   exact ⟨rfl,hR⟩
end

section
open Go.RowKit Go.Shelf
attribute [local go_sem] Oper.semAt_some
structure AB (w:World) (s:Nat) (on1:Bool) (a b:Int) (v:Value):Prop where
 on1:Boxed w s 4 (.bool on1)
 lo:Boxed w (s+1) 3 (.int .i64 a)
 hi:Boxed w (s+2) 3 (.int .i64 b)
 l:Boxed w (s+3) 81 v
def Hw (s:Nat):Value:=.func (.func 210) #[] #[.pointer (some ⟨s+1,0,none⟩),.pointer (some ⟨s+2,0,none⟩),.pointer (some ⟨s+3,0,none⟩),.pointer (some ⟨s,0,none⟩)]
theorem AY (on1:Bool) (a b:Int) (A:Option Addr) (n c:Nat) (w:World) (hn:n≤1000):
  Calls Tryz.prog 164 #[.bool on1,.int .i64 a,.int .i64 b,.slice A n c] w fun e w'=>e=.returned (Hw w.heap.size)∧AB w' w.heap.size on1 (max a 0) (min b ((n:Int)*512)) (.slice A n c)∧Below w.heap.size w w'∧w'.heap.size=w.heap.size+4:=by
 go_enter Tryz.func164,Tryz.ntmps164
 go_wp2
 go_region
 have e1:(if a<0 then 0 else a)=max a 0:=by split <;> omega
 have e2:(if (n:Int)*512<b then (n:Int)*512 else b)=min b ((n:Int)*512):=by split <;> omega
 try rw [e1,e2]
 clear e1 e2
 obtain ⟨A0,hA0⟩:∃ x,max a 0=x:=⟨_,rfl⟩
 obtain ⟨B0,hB0⟩:∃ x,min b ((n:Int)*512)=x:=⟨_,rfl⟩
 rw [hA0,hB0]
 have HA0:=Lib.hid hA0;clear hA0
 have HB0:=Lib.hid hB0;clear hB0
 go_wp2
 go_ret
 rw [HA0.out,HB0.out]
 refine ⟨rfl,⟨?_,?_,?_,?_⟩,?_,?_⟩
 ·exact (((Boxed.new w _ _).alloc _).alloc _).alloc _
 ·have:=((Boxed.new (w.alloc (.cells #[.bool on1] 4)) 3 (.int .i64 (A0))).alloc (.cells #[.int .i64 B0] 3)).alloc (.cells #[.slice A n c] 81)
  rw [World.size_alloc] at this
  exact this
 ·have:=(Boxed.new ((w.alloc (.cells #[.bool on1] 4)).alloc (.cells #[.int .i64 (A0)] 3)) 3 (.int .i64 B0)).alloc (.cells #[.slice A n c] 81)
  rw [World.size_alloc,World.size_alloc] at this
  exact this
 ·have:=Boxed.new (((w.alloc (.cells #[.bool on1] 4)).alloc (.cells #[.int .i64 (A0)] 3)).alloc (.cells #[.int .i64 B0] 3)) 81 (.slice A n c)
  rw [World.size_alloc,World.size_alloc,World.size_alloc] at this
  exact this
 ·exact (((((Below.refl _ w).alloc (Nat.le_refl _) _).alloc (by simp) _).alloc (by simp;omega) _).alloc (by simp;omega) _).trans (fj _ _ 1)
 ·simp
structure ez (s:Nat) (A:Option Addr) (n:Nat) (W W':World):Prop where
 size:W.heap.size≤W'.heap.size
 vars:∀ k,s≤k→k<s+4→W'.heap[k]?=W.heap[k]?
 dJ:0<n→∀ b off,A=some ⟨b,off,none⟩→W'.heap[b]?=W.heap[b]?
theorem ez.refl (s:Nat) (A:Option Addr) (n:Nat) (W:World):ez s A n W W:=⟨Nat.le_refl _,fun _ _ _=>rfl,fun _ _ _ _=>rfl⟩
theorem ez.trans {s:Nat} {A:Option Addr} {n:Nat} {X Y Z:World} (h:ez s A n X Y) (k:ez s A n Y Z):ez s A n X Z:=
 ⟨Nat.le_trans h.size k.size,fun i h1 h2=>(k.vars i h1 h2).trans (h.vars i h1 h2),fun h0 b off e=>(k.dJ h0 b off e).trans (h.dJ h0 b off e)⟩
theorem ez.drewN (s:Nat) (A:Option Addr) (n:Nat) (W:World) (m:Nat):ez s A n W (W.drewN m):=⟨Nat.le_refl _,fun _ _ _=>rfl,fun _ _ _ _=>rfl⟩
theorem ez.putObj {s B:Nat} {A:Option Addr} {n:Nat} (hB:s+4≤B) (hA:0<n→∀ b off,A=some ⟨b,off,none⟩→b<B) (W:World) (l:Nat) (o o':Obj) (hl:B≤l) (_:W.heap[l]?=some o) (_:o.isCells=false) (_:o.isWalk=false):ez s A n W (W.putObj l o'):=
 ⟨by simp,fun k _ h2=>World.putObj_heap_other (by omega),fun h0 b off e=>World.putObj_heap_other (by have:=hA h0 b off e;omega)⟩
theorem AB.gL {W W':World} {s:Nat} {A:Option Addr} {n:Nat} {on1:Bool} {a b:Int} {v:Value} (h:AB W s on1 a b v) (k:ez s A n W W'):AB W' s on1 a b v where
 on1:=(k.vars s (Nat.le_refl _) (by omega)).trans h.on1
 lo:=(k.vars (s+1) (by omega) (by omega)).trans h.lo
 hi:=(k.vars (s+2) (by omega) (by omega)).trans h.hi
 l:=(k.vars (s+3) (by omega) (by omega)).trans h.l
theorem Row.Mo {W W':World} {s:Nat} {A:Option Addr} {n:Nat} {bs:List UInt8} (h:Row W A n bs) (k:ez s A n W W'):Row W' A n bs:=
 h.gL k.size fun h0 b off e _=>k.dJ h0 b off e
theorem AbidesFrom.drewN {β:Type} {B:Nat} {J:β→World→Prop} (h:AbidesFrom B J) {x:β} {W:World} (hj:J x W) (m:Nat):J x (W.drewN m):=
 h x W (W.drewN m) none hj ⟨rfl,rfl,rfl,Nat.le_refl _,fun _ _ _=>rfl⟩ (fun r e=>by cases e)
end

section
open Go.RowKit Go.Shelf
attribute [local go_sem] Oper.semAt_some
theorem AZ (m:Nat) (hm:2≤m) (l s:Nat) (on1:Bool) (a b:Int) (A:Option Addr) (n c:Nat) (bs:List UInt8) (hn:n≤1000) (J Jx:List Nat→World→Prop) (W:World)
  (hJ:AbidesFrom W.heap.size J)
  (hY:∀ pre (x:Nat) W1,J pre W1→pre.length<512*n→YieldAt Fence.wide (m - 1) Tryz.prog l #[.int .i64 (x:Int)] W1 fun e W'=>
   (e=.returned (.bool true)∧J (pre++[x]) W'∧ez s A n W1 W')∨(e=.returned (.bool false)∧Jx (pre++[x]) W'))
  (hR:Row W A n bs) (hT:AB W s on1 (max a 0) (min b ((n:Int)*512)) (.slice A n c)) (h0:J [] W):
  CallsIn Fence.wide m Tryz.prog 210 #[.func (.yield l) #[] #[],.pointer (some ⟨s+1,0,none⟩),.pointer (some ⟨s+2,0,none⟩),.pointer (some ⟨s+3,0,none⟩),.pointer (some ⟨s,0,none⟩)] W fun e W'=>(∃ v,e=.returned v) ∧
   ((∃ ys,ys=Bt.all bs on1 a b∧J ys W')∨(∃ pre,pre <+: Bt.all bs on1 a b∧Jx pre W')):=by
 have h1:1≤m:=by omega
 have HR:=Lib.hid hR;clear hR
 have HT:=Lib.hid hT;clear hT
 obtain ⟨A0,hA0⟩:∃ x,max a 0=x:=⟨_,rfl⟩
 obtain ⟨B0,hB0⟩:∃ x,min b ((n:Int)*512)=x:=⟨_,rfl⟩
 obtain ⟨L,hL⟩:∃ x,Bt.lo a=x:=⟨_,rfl⟩
 have HL:Hid (A0=(L:Int)):=Lib.hid (by rw [← hL,← hA0];unfold Bt.lo;omega)
 have HH:Hid (Bt.hi bs b=B0):=Lib.hid (by rw [← hB0];unfold Bt.hi;rw [HR.out.len];congr 1;omega)
 have HBS:=Lib.hid HR.out.len
 have HL':=Lib.hid hL;clear hL
 rw [hA0,hB0,HL.out] at HT
 clear hA0 HL
 have hlo:=HT.out.lo.cell
 have hB1:B0≤512000:=by omega
 clear hB0
 refine callsIn_of_wp Tryz.func210 rfl trivial ?_ rfl
 simp only [Tryz.ntmps210,List.size_toArray,List.length_cons,List.length_nil,Nat.reduceAdd,Nat.reduceSub,Array.replicate_succ,Array.replicate_zero,List.push_toArray,List.append_toArray,List.nil_append,List.cons_append]
 gi_wp2
 gi_loopw [6] (fun p wr=>∃ k:Nat,p=.int .i64 (k:Int)∧L≤k∧(k≤512*n∨k=L)∧J (Bt.upto bs on1 a b k) wr∧ez s A n W wr)
  (fun p _=>(B0 - intOf p).toNat)
 case atStart=>exact ⟨L,rfl,Nat.le_refl _,.inr rfl,by rw [← HL'.out,Bt.pZ];exact h0,ez.refl _ _ _ _⟩
 case round=>
  obtain ⟨k,rfl,hk1,hk2,hJs,hkt⟩:=hrel
  have HT2:=Lib.hid (HT.out.gL hkt)
  have HR2:=Lib.hid (HR.out.Mo hkt)
  have hhi:=HT2.out.hi.cell
  have hl:=HT2.out.l.cell
  have hon:=HT2.out.on1.cell
  by_cases hlt:(k:Int)<B0
  ·have HQ:Hid (Bt.ka bs on1 a b k=(Bt.bit bs k == on1)):=Lib.hid (Bt.AR _ _ _ _ _ (by rw [HL'.out];exact hk1) (by rw [HH.out];exact hlt))
   have HG:Hid (Bt.Ks bs (k:Int)=Bt.bit bs k):=Lib.hid (Bt.yb bs k)
   have HK:Hid (k+1≤512*n):=Lib.hid (by
    have:=HH.out;unfold Bt.hi at this;rw [HBS.out] at this;omega)
   have HGET:Hid (∀ j,Calls Tryz.prog 211 #[.int .i64 (k:Int),.slice A n c] (wr.drewN j) fun e w'=>e=.returned (.bool (Bt.bit bs k))∧∃ i,w'=(wr.drewN j).drewN i):=Lib.hid fun j=>HG.out ▸ Hb _ _ _ _ _ _ (HR2.out.drewN j) hn
   cases hbo:Bt.bit bs k == on1 with
   |
    false=>
    gi_wp2
    refine wpIn_wide.2 ?_
    go_quiet ((go_at_call 211;refine Calls.quiet_of (HGET.out _)))
    gi_wp2
    go_roundw
    case rel=>exact ⟨k+1,by go_num,by omega,.inl HK.out,by rw [Bt.vi _ _ _ _ _ (HQ.out.trans hbo)];exact AbidesFrom.drewN hJ hJs _,hkt.trans (ez.drewN _ _ _ _ _)⟩
    case measure=>simp [intOf];omega
   |
    true=>
    have hlen:(Bt.upto bs on1 a b k).length<512*n:=Nat.lt_of_le_of_lt (Bt.vj _ _ _ _ _) (by have:=HK.out;omega)
    gi_wp2
    gi_region_with (first
     | (refine ⟨trivial,?_⟩;gi_at_call 211;refine (callsIn_wide.2 (HGET.out 1)).mono ?_;rintro e w' ⟨rfl,i,rfl⟩;obtain ⟨fn,tmps,assign,body,hy,hR⟩:=hY _ k (wr.drewN (1+i)) (AbidesFrom.drewN hJ hJs (1+i)) hlen;have hR:=hR.mono (R':=fun e W'=>∃ r:Bool,e=.returned (.bool r)∧((r=true∧J (Bt.upto bs on1 a b k++[k]) W'∧ez s A n wr W')∨(r=false∧Jx (Bt.upto bs on1 a b k++[k]) W'))) (fun e W' h=>h.elim (fun h=>⟨true,h.1,.inl ⟨rfl,h.2.1,⟨h.2.2.size,h.2.2.vars,h.2.2.dJ⟩⟩⟩) (fun h=>⟨false,h.1,.inr ⟨rfl,h.2⟩⟩)))
     | (refine hR.mono ?_;rintro e W3 ⟨r,rfl,h3⟩;clear hR hy))
    all_goals
     have HY:Hid (Bt.upto bs on1 a b (k+1)=Bt.upto bs on1 a b k++[k]):=Lib.hid (Bt.xa _ _ _ _ _ (HQ.out.trans hbo))
     rcases h3 with ⟨rfl,hJ3,hk3⟩ | ⟨rfl,hJx3⟩
     ·gi_wp2
      go_roundw
      case rel=>exact ⟨k+1,by go_num,by omega,.inl HK.out,by rw [HY.out];exact hJ3,hkt.trans hk3⟩
      case measure=>simp [intOf];omega
     ·gi_wp2
      refine bodyPost_ret (results_none rfl _ _ _) rfl ?_
      exact ⟨⟨_,rfl⟩,.inr ⟨_,by rw [← HY.out];exact Bt.ES _ _ _ _ _ (by rw [HBS.out];have:=HK.out;omega),hJx3⟩⟩
  ·have HE:Hid (Bt.upto bs on1 a b k=Bt.all bs on1 a b):=Lib.hid (Bt.ET _ _ _ _ _ (by rw [HL'.out];exact hk1) (by rw [HH.out];omega) (by rw [HBS.out,HL'.out];omega))
   gi_wp2
   go_end0
   exact ⟨⟨_,rfl⟩,.inl (by rw [← HE.out];exact hJs)⟩
theorem vn (m:Nat) (hm:2≤m) (s:Nat) (on1:Bool) (a b:Int) (A:Option Addr) (n c:Nat) (bs:List UInt8) (hn:n≤1000) (w:World) (hs:s+4≤w.heap.size)
  (hR:Row w A n bs) (hT:AB w s on1 (max a 0) (min b ((n:Int)*512)) (.slice A n c)):
  SeqStopsK Fence.wide m Tryz.prog 210 #[.pointer (some ⟨s+1,0,none⟩),.pointer (some ⟨s+2,0,none⟩),.pointer (some ⟨s+3,0,none⟩),.pointer (some ⟨s,0,none⟩)] (fun x:Nat=>#[Value.int .i64 (x:Int)]) (ez s A n)
   (fun ys=>ys=Bt.all bs on1 a b) (fun pre=>pre <+: Bt.all bs on1 a b) (512*n) w:=fun l J Jx W hW hJ _ hY h0=>by
 refine AZ m hm l s on1 a b A n c bs hn J Jx W hJ hY (hR.step hW) ?_ h0
 exact ⟨(hW.block s (by omega)).trans hT.on1,(hW.block (s+1) (by omega)).trans hT.lo,(hW.block (s+2) (by omega)).trans hT.hi,(hW.block (s+3) (by omega)).trans hT.l⟩
end

section
open Go.RowKit Go.Shelf
attribute [local go_sem] Oper.semAt_some
theorem Row.lt {w:World} {A:Option Addr} {n:Nat} {bs:List UInt8} (h:Row w A n bs):0<n→∀ b off,A=some ⟨b,off,none⟩→b<w.heap.size:=fun h0 b off e=>by
 obtain ⟨b',off',e',hlt,_⟩:=h.cells h0
 rw [e] at e'
 injection e' with e';injection e' with e1 e2
 omega
theorem GA (a b:Int) (A:Option Addr) (n c:Nat) (bs:List UInt8) (w:World) (hR:Row w A n bs) (hn:n≤1000):
  CallsIn Fence.wide 5 Tryz.prog 221 #[.int .i64 a,.int .i64 b,.slice A n c] w fun e W'=>e=.returned (.int .i64 (Bt.first bs a b))∧Below w.heap.size w W':=by
 have HR:=Lib.hid hR;clear hR
 refine callsIn_of_wp_marks Tryz.func221 rfl trivial ?_ rfl
 simp only [Tryz.ntmps221,List.size_toArray,List.length_cons,List.length_nil,Nat.reduceAdd,Nat.reduceSub,Array.replicate_succ,Array.replicate_zero,List.push_toArray,List.append_toArray,List.nil_append,List.cons_append]
 gi_wp2_with (refine ⟨trivial,?_⟩;gi_at_call 164;refine (callsIn_wide.2 (AY _ _ _ _ _ _ _ hn)).mono ?_;rintro e w1 ⟨rfl,hT,hB,hsz⟩)
 simp only [World.size_alloc] at hT hB hsz
 have bN:Boxed w1 w.heap.size 3 (.int .i64 0):=(hB.block w.heap.size (by omega)).trans (Boxed.new w 3 (.int .i64 0))
 have hB0:Below w.heap.size w w1:=((Below.refl _ w).alloc (Nat.le_refl _) _).trans (hB.mono (by omega))
 have hlt:=HR.out.lt
 refine wpIn_rangeFunc_ownG rfl (by omega) (gf:=210) (lb:=#[.pointer (some ⟨w.heap.size+1+1,0,none⟩),.pointer (some ⟨w.heap.size+1+2,0,none⟩),.pointer (some ⟨w.heap.size+1+3,0,none⟩),.pointer (some ⟨w.heap.size+1,0,none⟩)]) rfl trivial (enters_of Tryz.func210 (by kernel_rfl) rfl)
  (vn (5 - 1) (by omega) (w.heap.size+1) false a b A n c bs hn w1 (by omega) (HR.out.step hB0) hT) ez.trans (ez.putObj (by omega) (fun h0 b off e=>by have:=hlt h0 b off e;omega)) (Below.refl _ _) (fun _=>rfl)
  (fun pre W=>(pre=[]∧Boxed W w.heap.size 3 (.int .i64 0))∧Below w.heap.size w W)
  (fun c pre W=>(c=.ret∧∃ x:Nat,pre=[x]∧Boxed W w.heap.size 3 (.int .i64 (x:Int)))∧Below w.heap.size w W)
  (OwnFrom.and (Own.from (fun s X Y row hs hg hr=>⟨hs.1,boxed_own w.heap.size 3 (fun _:Unit=>.int .i64 0) () X Y row hs.2 hg hr⟩) _) (ownFrom_below (Nat.le_refl _) (by omega)))
  (fun c=>OwnFrom.and (Own.from (fun s X Y row hs hg hr=>by
   obtain ⟨h1,x,h2,h3⟩:=hs
   exact ⟨h1,x,h2,boxed_own w.heap.size 3 (fun _:Unit=>.int .i64 (x:Int)) () X Y row h3 hg hr⟩) _) (ownFrom_below (Nat.le_refl _) (by omega)))
  ⟨⟨rfl,bN⟩,hB0⟩
  (fun x=>{ tmps:=#[.int .i64 a,.int .i64 b,.slice A n c,undef,undef,undef,.pointer (some ⟨w.heap.size,0,none⟩),.int .i64 (x:Int),.int .i64 a,.int .i64 b,.slice A n c,Hw (w.heap.size+1),.int .i64 (x:Int),undef],defers:=[] }) ?assign ?body ?done ?stop
 case assign=>
  intro l x W K hK
  gi_wp2
  exact hK
 case body=>
  rintro l pre x W ⟨⟨rfl,hb⟩,hB⟩ hlen
  have hc:=hb.cell
  have hf:=hb.frozen
  gi_wp2
  exact ⟨(KeepsOthers.setCell _ _ _).from _,⟨rfl,x,rfl,hb.set _⟩,hB.setCell (p:=⟨w.heap.size,0,none⟩) (Nat.le_refl _) _⟩
 case done=>
  rintro D ys W hD hys ⟨⟨hy0,hb⟩,hB⟩ hK
  have hc:=hb.cell
  have hf:=hb.frozen
  have HF:Hid (Bt.first bs a b=-1):=Lib.hid (Bt.Ah _ _ _ (hys.symm.trans hy0))
  clear hys hy0
  gi_wp2
  have hK':=(KeepsOthers.setCell W ⟨w.heap.size,0,none⟩ (.int .i64 (-1))).same D _ hK rfl
  refine ⟨by simp,.inl ⟨_,_,rfl,run_takeDeferred hK',?_⟩⟩
  have hc5:=cell_kept (hb.set (.int .i64 (-1))).cell (grownBy_putObj' _ D (.deferred none)) (fun r e=>by cases e;exact ⟨_,hK',rfl⟩)
  refine ⟨.int .i64 (-1),?_,by rw [HF.out],(hB.setCell (p:=⟨w.heap.size,0,none⟩) (Nat.le_refl _) _).trans (belowK_b (w:=w) (Nat.le_refl _) _ D _ _ (by omega) hK' rfl rfl)⟩
  simp [results,Tryz.f221,go_sem,hc5]
 case stop=>
  rintro D c pre W hD hpre ⟨⟨rfl,x,rfl,hb⟩,hB⟩ hK
  have HF:=Lib.hid (Bt.Ag _ _ _ _ hpre)
  clear hpre
  gi_wp2
  refine ⟨by simp,.inl ⟨_,_,rfl,run_takeDeferred hK,?_⟩⟩
  have hc5:=cell_kept hb.cell (grownBy_putObj' _ D (.deferred none)) (fun r e=>by cases e;exact ⟨_,hK,rfl⟩)
  refine ⟨.int .i64 (x:Int),?_,by rw [HF.out],hB.trans (belowK_b (w:=w) (Nat.le_refl _) _ D _ _ (by omega) hK rfl rfl)⟩
  simp [results,Tryz.f221,go_sem,hc5]
theorem DJ (a b:Int) (A:Option Addr) (n c:Nat) (bs:List UInt8) (w:World) (hR:Row w A n bs) (hn:n≤1000):
  Calls Tryz.prog 221 #[.int .i64 a,.int .i64 b,.slice A n c] w fun e W'=>e=.returned (.int .i64 (Bt.first bs a b))∧Below w.heap.size w W':=
 callsIn_wide.1 (GA a b A n c bs w hR hn)
end

section
open Go.RowKit Go.Maps
open Dk (av aa)
open Ii (Ino)
theorem Dj {s:Sto} {n I m:Int} (h:Vs s n I) (hm:Fs.bZ n I m):okP n m:=by
 obtain ⟨b1,b2,b3,b4,b5,b6⟩:=h.bd
 unfold Fs.bZ at hm
 exact ⟨by omega,by omega,by omega⟩
theorem Bt.yg (bs:List UInt8) (a b:Int):Bt.first bs a b=-1∨(0≤Bt.first bs a b∧a≤Bt.first bs a b∧Bt.first bs a b<b):=by
 unfold Bt.first
 cases h:Bt.all bs false a b with
 | nil=>exact Or.inl rfl
 |
  cons i l=>
  right
  have hi:i∈Bt.all bs false a b:=by rw [h];exact List.mem_cons_self ..
  unfold Bt.all Bt.upto at hi
  have:=(List.mem_filter.1 hi).2
  unfold Bt.ka at this
  simp only [Bool.and_eq_true,decide_eq_true_eq] at this
  refine ⟨Int.natCast_nonneg i,this.1.1,this.1.2⟩
theorem kB {s:Sto} {n I:Int} (h:Vs s n I):okP n 42∧okP n 41:=by
 obtain ⟨b1,b2,b3,b4,b5,b6⟩:=h.bd
 exact ⟨⟨by omega,by omega,by omega⟩,⟨by omega,by omega,by omega⟩⟩
theorem lM {w:World} {B:Nat} {b:Blk} {s:Sto} {n I:Int} (h:Ctx w B b s n I):Calls Tryz.prog 175 #[.pointer (some ⟨B,0,none⟩)] w (Ends B b n I [] w s (Fs.sV n I) fun m e _=>e=.returned (.int .i64 m)):=by
 refine aQ fun R H=>?_
 have r3:(nv s 42).length=64:=(h.vs.read (kB h.vs).1).2.2
 have S:=Lib.hid (Stp.start h (by simp) H)
 replace S:=Lib.hid (Stp.saw S.out)
 have HDB:Hid (∀ w,Calls Tryz.prog 104 #[bz n I] w fun e w'=>e=.returned (.int .i64 42)∧Below w.heap.size w w'):=Lib.hid (fun w=>by
  have:=ed n I w
  rw [if_pos h.vs.pl] at this
  exact this)
 have HRM:=Lib.hid (fun w=>gS n I w h.vs.pl)
 have HL:=Lib.hid r3
 have HOK:=Lib.hid (kB h.vs).1
 have hbl:(ab (nv s 42)).length=64:=by rw [aj];exact r3
 have HG:Hid (∀ W,Ctx W B b s n I→Calls Tryz.prog 182 #[.pointer (some ⟨B,0,none⟩),.int .i64 42] W fun e w'=>e=.returned (.agg (ab (nv s 42)).toArray)∧Below W.heap.size W w'):=Lib.hid (fun W hc=>kN hc 42 HOK.out)
 have HAT:=Lib.hid (fun (k:Int) (h1:0≤k) (h2:k<n - Pl.aS I) w=>LO n I k w h.vs.pl h1 h2)
 have HPK:=Lib.hid (fun (k:Int) (h1:0≤k) (h2:k<n - Pl.aS I)=>Dj (m:=Pl.aS I+k) h.vs (by unfold Fs.bZ;omega))
 have hfb:=Bt.yg (nv s 42) 0 (n - Pl.aS I)
 have HFI:Hid (∀ W c g,Row W (some ⟨g,0,none⟩) 1 (nv s 42)→Calls Tryz.prog 221 #[.int .i64 0,.int .i64 (n - Pl.aS I),.slice (some ⟨g,0,none⟩) 1 c] W fun e W'=>e=.returned (.int .i64 (Bt.first (nv s 42) 0 (n - Pl.aS I)))∧Below W.heap.size W W'):=Lib.hid (fun W c g hr=>DJ 0 _ _ 1 c (nv s 42) W hr (by omega))
 clear h H r3
 generalize nv s 42=p at HL hbl HG hfb HFI S
 generalize Bt.first p 0 (n - Pl.aS I)=k at hfb HFI S
 by_cases hk:k<0
 ·rw [if_pos hk] at S
  have gk:(decide (k<0))=true:=decide_eq_true hk
  have HF:Hid (∀ W l,Lo [b.t] w l W→Ctx W B b s n I→Calls Tryz.prog 58 #[.pointer (some ⟨B,0,none⟩),.int .i64 28] W fun e w'=>e=.panicked [bn B]∧gq w' B b s n I 28∧aB [B] W w'):=Lib.hid (fun W l _ hc=>cM hc 28 (by decide))
  clear hfb hk HAT HPK
  go_enter Tryz.func175,Tryz.ntmps175
  go_wp2_with (first
   | (with_reducible refine aN (S.out.row).gR rfl (.tmp 9) rfl rfl ?_)
   | (with_reducible refine aN (S.out.row).gR rfl (.tmp 15) rfl rfl ?_)
   | (go_at_call 104;(with_reducible refine (HDB.out _).mono ?_);rintro e w1 ⟨rfl,hb⟩;replace S:=Lib.hid (S.out.below hb);clear hb)
   | (go_at_call 105;(with_reducible refine (HRM.out _).mono ?_);rintro e w1 ⟨rfl,hb⟩;replace S:=Lib.hid (S.out.below hb);clear hb)
   | (go_at_call 182;refine (HG.out _ S.out.ctx).mono ?_;rintro e w1 ⟨rfl,hb⟩;replace S:=Lib.hid (S.out.below hb);clear hb))
  rw [fh rfl HL.out]
  generalize hw:World.alloc _ _=w2
  replace S:Hid (Stp R B b n I [] w (fun m e _=>e=.returned (.int .i64 m)) [(w1.heap.size,ab p)] s (Fs.fail 28) w2):=Lib.hid (by rw [← hw];exact S.out.alloc _ rfl (ab p) _)
  clear hw
  replace HFI:=Lib.hid (HFI.out w2 1 w1.heap.size (iw ((S.out.lo).aK 0 rfl HL.out) (S.out.lo.lt 0 _ rfl)))
  go_wp2_with (first
   | (go_at_call 221;(with_reducible refine HFI.out.mono ?_);rintro e w3 ⟨rfl,hb⟩;replace S:=Lib.hid (S.out.below hb);clear hb HFI)
   | (go_at_call 58;refine (HF.out _ _ S.out.lo S.out.ctx).mono ?_;rintro e w4 ⟨rfl,hB,hO⟩))
  exact ⟨rfl,S.out.ma (eo.err rfl) (by decide) hB hO⟩
 ·rw [if_neg hk] at S
  have gk:(decide (k<0))=false:=decide_eq_false hk
  obtain ⟨hk1,_,hk2⟩:=hfb.resolve_left (by omega)
  replace HAT:=Lib.hid (HAT.out k hk1 hk2)
  replace HPK:=Lib.hid (HPK.out k hk1 hk2)
  clear hfb hk hk1 hk2
  generalize Pl.aS I+k=m at HAT HPK S
  have c2:w.cell? ⟨B,0,none⟩=some (.pointer (some ⟨b.s,0,none⟩)):=S.out.cell0
  go_enter Tryz.func175,Tryz.ntmps175
  go_wp2_with (first
   | (with_reducible refine aN (S.out.row).gR rfl (.tmp 9) rfl rfl ?_)
   | (with_reducible refine aN (S.out.row).gR rfl (.tmp 15) rfl rfl ?_)
   | (with_reducible refine aN (S.out.row).gR rfl (.tmp 34) rfl rfl ?_)
   | (go_at_call 104;(with_reducible refine (HDB.out _).mono ?_);rintro e w1 ⟨rfl,hb⟩;replace S:=Lib.hid (S.out.below hb);clear hb)
   | (go_at_call 105;(with_reducible refine (HRM.out _).mono ?_);rintro e w1 ⟨rfl,hb⟩;replace S:=Lib.hid (S.out.below hb);clear hb)
   | (go_at_call 182;refine (HG.out _ S.out.ctx).mono ?_;rintro e w1 ⟨rfl,hb⟩;replace S:=Lib.hid (S.out.below hb);clear hb))
  rw [fh rfl HL.out]
  generalize hw:World.alloc _ _=w2
  replace S:Hid (Stp R B b n I [] w (fun m e _=>e=.returned (.int .i64 m)) [(w1.heap.size,ab p)] s (Fs.andThen (Fs.lj 42 k true) fun _=>Fs.andThen (Fs.wr m.toNat av) fun _=>Fs.ret m) w2):=Lib.hid (by rw [← hw];exact S.out.alloc _ rfl (ab p) _)
  clear hw
  replace HFI:=Lib.hid (HFI.out w2 1 w1.heap.size (iw ((S.out.lo).aK 0 rfl HL.out) (S.out.lo.lt 0 _ rfl)))
  go_wp2_with (first
   | (with_reducible refine aN (S.out.row).gR rfl (.tmp 34) rfl rfl ?_)
   | (go_at_call 221;(with_reducible refine HFI.out.mono ?_);rintro e w3 ⟨rfl,hb⟩;replace S:=Lib.hid (S.out.below hb);clear hb HFI)
   | (go_at_call 150;refine (fJ S.out.ctx 42 k true HOK.out).mono ?_;intro e w4 hE;rcases S.out.bind hE with ⟨rfl,hR⟩ | ⟨_,s2,L2,_,rfl,S2⟩;(exact ⟨rfl,hR⟩);clear S hE;have S:=Lib.hid S2;clear S2)
   | (go_at_call 222;(with_reducible refine (HAT.out _).mono ?_);rintro e w1 ⟨rfl,hb⟩;replace S:=Lib.hid (S.out.below hb);clear hb))
  rw [← az,show Value.agg zeroCells=an av from rfl]
  refine (fR S.out.ctx m av HPK.out aa).mono ?_
  intro e w5 hE
  rcases S.out.bind hE with ⟨rfl,hR⟩ | ⟨_,s3,L3,_,rfl,S2⟩
  ·exact ⟨rfl,hR⟩
  clear S hE
  have S:=Lib.hid S2
  clear S2
  go_wp2_with fail
  exact S.out.done rfl
end

section
open Go.RowKit Go.Maps
open Dk (av aa)
open Ii (Ino)
theorem fk.only {w w':World} {A:Option Addr} {n:Nat} {xs:List Int} {L:List Nat} (h:fk w A n xs) (ho:aB L w w') (hA:∀ b o,A=some ⟨b,o,none⟩→b∉L):fk w' A n xs where
 len:=h.len
 small:=h.small
 cells:=fun h0=>by
  obtain ⟨b,off,rfl,hlt,hc⟩:=h.cells h0
  refine ⟨b,off,rfl,Nat.lt_of_lt_of_le hlt ho.size,fun i x hx=>?_⟩
  have:=hc i x hx
  have hb:=ho.block b hlt (hA b off rfl)
  unfold World.cell? at this ⊢
  rw [hb];exact this
theorem Fs.nP {n I:Int} {V V':Fs.View} {m:Int} {L:List Nat} (h:Fs.sV n I V=(.ok m,V',L)):Fs.bZ n I m:=by
 unfold Fs.sV at h
 rw [Fs.andThen_ok (show Fs.see (fun V=>Bt.first (V 42) 0 (n - Pl.aS I)) V=(.ok (Bt.first (V 42) 0 (n - Pl.aS I)),V,[]) from rfl)] at h
 have hb:=Bt.yg (V 42) 0 (n - Pl.aS I)
 generalize Bt.first (V 42) 0 (n - Pl.aS I)=k at h hb
 by_cases c:k<0
 ·rw [if_pos c] at h
  unfold Fs.fail at h
  injection h with h _
  cases h
 ·rw [if_neg c] at h
  have e:m=Pl.aS I+k:=by
   unfold Fs.andThen Fs.lj Fs.wr Fs.ret at h
   simp at h
   exact h.1.symm
  unfold Fs.bZ
  omega
theorem Ju (x:Ino) (i m:Int) (hi:Sp.okB i=true):(aH x).set (vP i) (.int .i64 m)=aH (Fs.jL x i m):=by
 unfold vP Fs.jL
 rcases Sp.kinds i with c | ⟨c1,c2⟩ | ⟨c1,c2⟩ | ⟨c1,c2⟩
 ·rw [(Sp.lV c).1] at hi;cases hi
 ·obtain ⟨_,p2,_,p4⟩:=Sp.vO c1 c2
  rw [p2,if_pos rfl,if_pos rfl,p4]
  obtain ⟨k,rfl⟩:=Int.eq_ofNat_of_zero_le c1
  rw [Int.toNat_natCast]
  have:k=0∨k=1∨k=2∨k=3:=by omega
  rcases this with rfl | rfl | rfl | rfl <;> rfl
 ·obtain ⟨_,p2,_,_⟩:=Sp.vN c1 c2
  rw [p2,if_neg (by decide),if_pos rfl,if_neg (by decide),if_pos rfl];rfl
 ·obtain ⟨_,p2,_,_⟩:=Sp.vM c1 c2
  rw [p2,if_neg (by decide),if_neg (by decide),if_neg (by decide),if_neg (by decide)];rfl
theorem KX (i:Int) (hi:Sp.okB i=true):vP i<11:=by
 unfold vP
 rcases Sp.kinds i with c | ⟨c1,c2⟩ | ⟨c1,c2⟩ | ⟨c1,c2⟩
 ·rw [(Sp.lV c).1] at hi;cases hi
 ·obtain ⟨_,p2,_,p4⟩:=Sp.vO c1 c2
  rw [p2,if_pos rfl,p4];omega
 ·obtain ⟨_,p2,_,_⟩:=Sp.vN c1 c2
  rw [p2,if_neg (by decide),if_pos rfl];decide
 ·obtain ⟨_,p2,_,_⟩:=Sp.vM c1 c2
  rw [p2,if_neg (by decide),if_neg (by decide)];decide
theorem DI (x:Ino) (i m:Int) (hi:Sp.okB i=true):Fs.iW (Fs.jL x i m) i=m:=by
 unfold Fs.iW Fs.jL
 rw [if_pos hi]
 rcases Sp.kinds i with c | ⟨c1,c2⟩ | ⟨c1,c2⟩ | ⟨c1,c2⟩
 ·rw [(Sp.lV c).1] at hi;cases hi
 ·obtain ⟨_,p2,_,p4⟩:=Sp.vO c1 c2
  rw [p2,if_pos rfl,if_pos rfl,p4]
  obtain ⟨k,rfl⟩:=Int.eq_ofNat_of_zero_le c1
  rw [Int.toNat_natCast]
  have:k=0∨k=1∨k=2∨k=3:=by omega
  rcases this with rfl | rfl | rfl | rfl <;> rfl
 ·obtain ⟨_,p2,_,_⟩:=Sp.vN c1 c2
  rw [p2,if_neg (by decide),if_pos rfl,if_neg (by decide),if_pos rfl]
 ·obtain ⟨_,p2,_,_⟩:=Sp.vM c1 c2
  rw [p2,if_neg (by decide),if_neg (by decide),if_neg (by decide),if_neg (by decide)]
structure pT (w:World) (A:Option Addr) (n:Nat) (xs:List Int) (w0:World):Prop where
 row:fk w A n xs
 own:∀ b o,A=some ⟨b,o,none⟩→w0.heap.size≤b
theorem pT.step {w w' w0:World} {A:Option Addr} {n:Nat} {xs:List Int} (h:pT w A n xs w0) (hb:Below w.heap.size w w'):pT w' A n xs w0:=⟨h.row.step hb,h.own⟩
theorem pT.only {w w' w0:World} {A:Option Addr} {n:Nat} {xs:List Int} {L:List Nat} (h:pT w A n xs w0) (ho:aB L w w') (hL:∀ k∈L,k<w0.heap.size):pT w' A n xs w0:=
 ⟨h.row.only ho (fun b o hA q=>by
  have:=h.own b o hA
  have:=hL b q
  omega),h.own⟩
theorem wK {s:Sto} {n I y:Int} {p:List UInt8} {V:Fs.View} {L:List Nat} (v:Vs s n I) (h:Fs.tell (Fs.dL n I y) (nv s)=(.ok p,V,L)) (hy:y≠0):Fs.bZ n I y∧p.length=64:=by
 have e:Fs.dL n I y (nv s)=.ok p:=by
  unfold Fs.tell at h
  injection h
 refine ⟨?_,lB v e⟩
 unfold Fs.dL at e
 rw [if_neg hy] at e
 by_cases c:Fs.bZ n I y
 ·exact c
 ·rw [if_neg c] at e;cases e
theorem Fs.xZ (n I:Int) (k:Int) (ks:List Int) (m:Int) {β:Type} (g:Int→Fs.M β):Fs.andThen (Fs.goR n I (k::ks) m) g=Fs.andThen (Fs.tell (Fs.dL n I m)) fun p=>
  if nt p k=0 then Fs.andThen (Fs.sV n I) fun t=>Fs.andThen (Fs.wr m.toNat (fa p k t)) fun _=>Fs.andThen (Fs.goR n I ks t) g
  else Fs.andThen (Fs.goR n I ks (nt p k)) g:=by
 rw [Fs.goR,Fs.du]
 congr 1
 funext p
 split
 ·rw [Fs.du]
  congr 1
  funext t
  rw [Fs.du]
 ·rfl
theorem vr {w:World} {B:Nat} {b:Blk} {s:Sto} {n I:Int} (h:Ctx w B b s n I) (X:Nat) (x:Ino) (hX:au w X (aH x)) (hXB:X≠B) (hXb:X∉b.all) (i:Int) (hi:Sp.okB i=true):Calls Tryz.prog 120 #[.pointer (some ⟨B,0,none⟩),.pointer (some ⟨X,0,none⟩),.int .i64 i] w (Ends B b n I [X] w s (Fs.mC n I x i) fun z e w'=>e=.returned (.int .i64 z.2)∧au w' X (aH z.1)):=by
 refine aQ fun R H=>?_
 have S:=Lib.hid (Stp.start h (by simpa using hX.lt) H)
 have HX:=Lib.hid hX
 have HXB:=Lib.hid hXB
 have HXb:=Lib.hid hXb
 have HT:Hid (b.t<w.heap.size):=Lib.hid (h.store.lt _ b.dX)
 have HXL:Hid (X<w.heap.size):=Lib.hid hX.lt
 have HXT:Hid (X≠b.t):=Lib.hid (fun q=>hXb (q ▸ b.dX))
 have HW:=Lib.hid (AL X i w hi)
 have HFC:=Lib.hid (fun (W:World) (y:Ino) (hy:au W X (aH y))=>qP hy i hi)
 have HOF:=Lib.hid (KX i hi)
 have HSF:=Lib.hid (fun m=>Ju x i m hi)
 have HFS:=Lib.hid (fun m=>DI x i m hi)
 have hl2:=qu i
 unfold iY at HW
 unfold Fs.mC at S
 clear h H hX hXB hXb hi
 generalize Fs.dI i=ks at HW hl2 S
 generalize vP i=o at HW HFC HOF HSF
 obtain ⟨len,hlen⟩:∃ len,ks.length=len:=⟨_,rfl⟩
 have HLE:=Lib.hid hlen
 rw [hlen] at hl2 HW
 clear hlen
 by_cases h0:Fs.iW x i=0
 ·rw [if_pos h0] at S
  have hc0:∀ (W:World),au W X (aH x)→W.cell? ⟨X,o,none⟩=some (.int .i64 0):=fun W hy=>by
   have:=HFC.out W x hy
   rw [h0] at this
   exact this
  have HC0:=Lib.hid hc0
  clear hc0 h0
  go_enter Tryz.func120,Tryz.ntmps120
  go_wp2_with (first
   | (go_at_call 174;(with_reducible refine HW.out.mono ?_);rintro e w2 ⟨A,c,rfl,hR,hb,hA⟩;replace S:=Lib.hid (S.out.below hb);have HRW:Hid (pT w2 A len ks w):=Lib.hid ⟨hR,hA⟩;replace HX:=Lib.hid (HX.out.step hb);have cF:=HC0.out w2 HX.out;clear hR hb hA)
   | (go_at_call 175;go_loud ((with_reducible refine (lM S.out.ctx).mono ?_);intro e w3 hE;rcases S.out.pQ hE with ⟨rfl,hR⟩ | ⟨m,s2,L2,hm,rfl,S2,hO⟩;(exact ⟨rfl,hR⟩);replace HX:=Lib.hid (HX.out.only hO (by simpa using HXT.out));replace HRW:=Lib.hid (HRW.out.only hO (by simpa using HT.out));have HM:=Lib.hid (gh S.out.ctx.vs (Fs.nP hm)).2;clear S hE hO hm;have S:=Lib.hid S2;clear S2 cF;have cF:=HC0.out w3 HX.out;have fF:=HX.out.frozen o HOF.out)))
  obtain ⟨z,hz⟩:∃ z,z=Fs.jL x i m:=⟨_,rfl⟩
  have HX2:Hid (au (w3.setCell ⟨X,o,none⟩ (.int .i64 m)) X (aH z)):=Lib.hid (by
   rw [hz,← HSF.out m]
   exact au.dH HX.out o (.int .i64 m) HOF.out)
  rw [← hz] at S
  have S2:=Lib.hid (S.out.MF (X:=X) (by simp) HXB.out HXb.out o (.int .i64 m) (by simp))
  replace HRW:=Lib.hid (HRW.out.only ((aB.refl [X] w3).setCell (p:=⟨X,o,none⟩) (by simp) (.int .i64 m)) (by simpa using HXL.out))
  have HY0:Hid (m≠0):=HM
  clear S HX hz
  generalize World.setCell _ _ _=w4 at S2 HX2 HRW ⊢
  have S:=Lib.hid S2.out
  have HX:=Lib.hid HX2.out
  clear cF fF HM S2 HX2
  go_loopw [9,33] (fun m i wr=>∃ (k:Nat) (y:Int) (s':Sto),k≤len∧i=.int .i64 k∧m=.int .i64 y∧Hid (y≠0)∧Hid (Stp R B b n I [X] w (fun (z:Ino × Int) e w'=>e=.returned (.int .i64 z.2)∧au w' X (aH z.1)) [] s' (Fs.andThen (Fs.goR n I (ks.drop k) y) fun t=>Fs.ret (z,t)) wr)∧Hid (au wr X (aH z))∧Hid (pT wr A len ks w)) (fun _ i _=>len - (intOf i).toNat)
  case atStart=>exact ⟨0,m,_,Nat.zero_le _,rfl,rfl,HY0,S,HX,HRW⟩
  case round=>
   clear S HX HRW HY0
   obtain ⟨k,y,s3,hk,rfl,rfl,HY,S,HX,HRW⟩:=hrel
   by_cases hlt:k<len
   ·obtain ⟨bb,off,rfl,hbb,hcc⟩:=HRW.out.row.cells (by omega)
    obtain ⟨kk,hkk⟩:∃ kk,ks[k]?=some kk:=⟨_,List.getElem?_eq_getElem (by rw [HLE.out];exact hlt)⟩
    have ck:=hcc k kk hkk
    have HDR:Hid (ks.drop k=kk::ks.drop (k+1)):=Lib.hid (by
     obtain ⟨q1,q2⟩:=List.getElem?_eq_some_iff.1 hkk
     rw [List.drop_eq_getElem_cons q1,q2])
    clear hcc hkk hbb
    rw [HDR.out,Fs.xZ] at S
    go_wp2_with fail
    refine (im S.out.ctx y).mono ?_
    intro e w6 hE
    rcases S.out.pQ hE with ⟨rfl,hR⟩ | ⟨p,s4,L4,hp,rfl,S2,hO⟩
    ·exact ⟨rfl,hR⟩
    obtain ⟨hd1,hd2⟩:=wK S.out.ctx.vs hp HY.out
    have HDL:=Lib.hid hd2
    have HOK:=Lib.hid (gh S.out.ctx.vs hd1).1
    replace HX:=Lib.hid (HX.out.only hO (by simpa using HXT.out))
    replace HRW:=Lib.hid (HRW.out.only hO (by simpa using HT.out))
    clear S hE hO hp hd1 hd2 ck
    have S:=Lib.hid S2
    clear S2
    have HNU:=Lib.hid (fun W=>jR p kk W HDL.out)
    by_cases hn:nt p kk=0
    ·rw [if_pos hn] at S
     rw [hn] at HNU
     have HSN:=Lib.hid (fun t W=>ir p kk t W HDL.out)
     clear hn
     go_wp2_with (first
      | ((with_reducible refine aq rfl (.tmp 12) (.tmp 39) rfl rfl ?_ ?_ HDL.out ?_);(exact rfl);(exact rfl);intro W2 hP hB2 hz2;replace S:=Lib.hid (S.out.made hP.rowAt hB2 hz2);replace HX:=Lib.hid (HX.out.step hB2);replace HRW:=Lib.hid (HRW.out.step hB2);clear hP hB2 hz2)
      | (with_reducible refine ah (S.out.lo.aK 0 rfl HDL.out) rfl (.tmp 12) rfl rfl ?_)
      | (go_at_call 176;(with_reducible refine (HNU.out _).mono ?_);rintro e w7 ⟨rfl,hb⟩;replace S:=Lib.hid (S.out.below hb);replace HX:=Lib.hid (HX.out.step hb);replace HRW:=Lib.hid (HRW.out.step hb);clear hb)
      | (go_at_call 175;(with_reducible refine (lM S.out.ctx).mono ?_);intro e w8 hE;rcases S.out.pQ hE with ⟨rfl,hR⟩ | ⟨t,s5,L5,hm,rfl,S2,hO⟩;(exact ⟨rfl,hR⟩);replace HX:=Lib.hid (HX.out.only hO (by simpa using HXT.out));replace HRW:=Lib.hid (HRW.out.only hO (by simpa using HT.out));have HM:=Lib.hid (gh S.out.ctx.vs (Fs.nP hm)).2;clear S hE hO hm;have S:=Lib.hid S2;clear S2)
      | (go_at_call 177;(with_reducible refine (HSN.out _ _).mono ?_);rintro e w9 ⟨rfl,hb⟩;replace S:=Lib.hid (S.out.below hb);replace HX:=Lib.hid (HX.out.step hb);replace HRW:=Lib.hid (HRW.out.step hb);clear hb)
      | (go_at_call 121;(with_reducible refine (fR S.out.ctx y (fa p kk t) HOK.out (by rw [dQ];exact HDL.out)).mono ?_);intro e w8 hE;rcases S.out.pQ hE with ⟨rfl,hR⟩ | ⟨_,s6,L6,_,rfl,S2,hO⟩;(exact ⟨rfl,hR⟩);replace HX:=Lib.hid (HX.out.only hO (by simpa using HXT.out));replace HRW:=Lib.hid (HRW.out.only hO (by simpa using HT.out));clear S hE hO;have S:=Lib.hid S2;clear S2))
     go_roundw
     case rel=>exact ⟨k+1,t,s6,by omega,by go_num,rfl,HM,Lib.hid (S.out.cut 0),HX,HRW⟩
     case measure=>simp [intOf];omega
    ·have gn:(nt p kk == 0)=false:=by simpa using hn
     have HM:=Lib.hid hn
     rw [if_neg hn] at S
     clear hn
     go_wp2_with (first
      | ((with_reducible refine aq rfl (.tmp 12) (.tmp 39) rfl rfl ?_ ?_ HDL.out ?_);(exact rfl);(exact rfl);intro W2 hP hB2 hz2;replace S:=Lib.hid (S.out.made hP.rowAt hB2 hz2);replace HX:=Lib.hid (HX.out.step hB2);replace HRW:=Lib.hid (HRW.out.step hB2);clear hP hB2 hz2)
      | (with_reducible refine ah (S.out.lo.aK 0 rfl HDL.out) rfl (.tmp 12) rfl rfl ?_)
      | (go_at_call 176;(with_reducible refine (HNU.out _).mono ?_);rintro e w7 ⟨rfl,hb⟩;replace S:=Lib.hid (S.out.below hb);replace HX:=Lib.hid (HX.out.step hb);replace HRW:=Lib.hid (HRW.out.step hb);clear hb))
     go_roundw
     case rel=>exact ⟨k+1,_,s4,by omega,by go_num,rfl,HM,Lib.hid (S.out.cut 0),HX,HRW⟩
     case measure=>simp [intOf];omega
   ·obtain rfl:k=len:=by omega
    have HZ:Hid (ks.drop k=[]):=Lib.hid (List.drop_of_length_le (by rw [HLE.out];omega))
    rw [HZ.out] at S
    go_wp2_with fail
    exact S.out.done ⟨rfl,HX.out⟩
 ·rw [if_neg h0] at S
  have gk0:(Fs.iW x i == 0)=false:=by simpa using h0
  have HY0:=Lib.hid h0
  clear h0 HSF HFS
  have HC0:=Lib.hid (fun (W:World) (hy:au W X (aH x))=>HFC.out W x hy)
  clear HFC
  generalize Fs.iW x i=m at S gk0 HY0 HC0
  go_enter Tryz.func120,Tryz.ntmps120
  go_wp2_with (go_at_call 174;(with_reducible refine HW.out.mono ?_);rintro e w2 ⟨A,c,rfl,hR,hb,hA⟩;replace S:=Lib.hid (S.out.below hb);have HRW:Hid (pT w2 A len ks w):=Lib.hid ⟨hR,hA⟩;replace HX:=Lib.hid (HX.out.step hb);have cF:=HC0.out w2 HX.out;clear hR hb hA)
  clear cF HW HC0
  obtain ⟨z,rfl⟩:∃ z,z=x:=⟨_,rfl⟩
  go_loopw [9,33] (fun m i wr=>∃ (k:Nat) (y:Int) (s':Sto),k≤len∧i=.int .i64 k∧m=.int .i64 y∧Hid (y≠0)∧Hid (Stp R B b n I [X] w (fun (z:Ino × Int) e w'=>e=.returned (.int .i64 z.2)∧au w' X (aH z.1)) [] s' (Fs.andThen (Fs.goR n I (ks.drop k) y) fun t=>Fs.ret (z,t)) wr)∧Hid (au wr X (aH z))∧Hid (pT wr A len ks w)) (fun _ i _=>len - (intOf i).toNat)
  case atStart=>exact ⟨0,m,_,Nat.zero_le _,rfl,rfl,HY0,S,HX,HRW⟩
  case round=>
   clear S HX HRW HY0
   obtain ⟨k,y,s3,hk,rfl,rfl,HY,S,HX,HRW⟩:=hrel
   by_cases hlt:k<len
   ·obtain ⟨bb,off,rfl,hbb,hcc⟩:=HRW.out.row.cells (by omega)
    obtain ⟨kk,hkk⟩:∃ kk,ks[k]?=some kk:=⟨_,List.getElem?_eq_getElem (by rw [HLE.out];exact hlt)⟩
    have ck:=hcc k kk hkk
    have HDR:Hid (ks.drop k=kk::ks.drop (k+1)):=Lib.hid (by
     obtain ⟨q1,q2⟩:=List.getElem?_eq_some_iff.1 hkk
     rw [List.drop_eq_getElem_cons q1,q2])
    clear hcc hkk hbb
    rw [HDR.out,Fs.xZ] at S
    go_wp2_with fail
    refine (im S.out.ctx y).mono ?_
    intro e w6 hE
    rcases S.out.pQ hE with ⟨rfl,hR⟩ | ⟨p,s4,L4,hp,rfl,S2,hO⟩
    ·exact ⟨rfl,hR⟩
    obtain ⟨hd1,hd2⟩:=wK S.out.ctx.vs hp HY.out
    have HDL:=Lib.hid hd2
    have HOK:=Lib.hid (gh S.out.ctx.vs hd1).1
    replace HX:=Lib.hid (HX.out.only hO (by simpa using HXT.out))
    replace HRW:=Lib.hid (HRW.out.only hO (by simpa using HT.out))
    clear S hE hO hp hd1 hd2 ck
    have S:=Lib.hid S2
    clear S2
    have HNU:=Lib.hid (fun W=>jR p kk W HDL.out)
    by_cases hn:nt p kk=0
    ·rw [if_pos hn] at S
     rw [hn] at HNU
     have HSN:=Lib.hid (fun t W=>ir p kk t W HDL.out)
     clear hn
     go_wp2_with (first
      | ((with_reducible refine aq rfl (.tmp 12) (.tmp 39) rfl rfl ?_ ?_ HDL.out ?_);(exact rfl);(exact rfl);intro W2 hP hB2 hz2;replace S:=Lib.hid (S.out.made hP.rowAt hB2 hz2);replace HX:=Lib.hid (HX.out.step hB2);replace HRW:=Lib.hid (HRW.out.step hB2);clear hP hB2 hz2)
      | (with_reducible refine ah (S.out.lo.aK 0 rfl HDL.out) rfl (.tmp 12) rfl rfl ?_)
      | (go_at_call 176;(with_reducible refine (HNU.out _).mono ?_);rintro e w7 ⟨rfl,hb⟩;replace S:=Lib.hid (S.out.below hb);replace HX:=Lib.hid (HX.out.step hb);replace HRW:=Lib.hid (HRW.out.step hb);clear hb)
      | (go_at_call 175;(with_reducible refine (lM S.out.ctx).mono ?_);intro e w8 hE;rcases S.out.pQ hE with ⟨rfl,hR⟩ | ⟨t,s5,L5,hm,rfl,S2,hO⟩;(exact ⟨rfl,hR⟩);replace HX:=Lib.hid (HX.out.only hO (by simpa using HXT.out));replace HRW:=Lib.hid (HRW.out.only hO (by simpa using HT.out));have HM:=Lib.hid (gh S.out.ctx.vs (Fs.nP hm)).2;clear S hE hO hm;have S:=Lib.hid S2;clear S2)
      | (go_at_call 177;(with_reducible refine (HSN.out _ _).mono ?_);rintro e w9 ⟨rfl,hb⟩;replace S:=Lib.hid (S.out.below hb);replace HX:=Lib.hid (HX.out.step hb);replace HRW:=Lib.hid (HRW.out.step hb);clear hb)
      | (go_at_call 121;(with_reducible refine (fR S.out.ctx y (fa p kk t) HOK.out (by rw [dQ];exact HDL.out)).mono ?_);intro e w8 hE;rcases S.out.pQ hE with ⟨rfl,hR⟩ | ⟨_,s6,L6,_,rfl,S2,hO⟩;(exact ⟨rfl,hR⟩);replace HX:=Lib.hid (HX.out.only hO (by simpa using HXT.out));replace HRW:=Lib.hid (HRW.out.only hO (by simpa using HT.out));clear S hE hO;have S:=Lib.hid S2;clear S2))
     go_roundw
     case rel=>exact ⟨k+1,t,s6,by omega,by go_num,rfl,HM,Lib.hid (S.out.cut 0),HX,HRW⟩
     case measure=>simp [intOf];omega
    ·have gn:(nt p kk == 0)=false:=by simpa using hn
     have HM:=Lib.hid hn
     rw [if_neg hn] at S
     clear hn
     go_wp2_with (first
      | ((with_reducible refine aq rfl (.tmp 12) (.tmp 39) rfl rfl ?_ ?_ HDL.out ?_);(exact rfl);(exact rfl);intro W2 hP hB2 hz2;replace S:=Lib.hid (S.out.made hP.rowAt hB2 hz2);replace HX:=Lib.hid (HX.out.step hB2);replace HRW:=Lib.hid (HRW.out.step hB2);clear hP hB2 hz2)
      | (with_reducible refine ah (S.out.lo.aK 0 rfl HDL.out) rfl (.tmp 12) rfl rfl ?_)
      | (go_at_call 176;(with_reducible refine (HNU.out _).mono ?_);rintro e w7 ⟨rfl,hb⟩;replace S:=Lib.hid (S.out.below hb);replace HX:=Lib.hid (HX.out.step hb);replace HRW:=Lib.hid (HRW.out.step hb);clear hb))
     go_roundw
     case rel=>exact ⟨k+1,_,s4,by omega,by go_num,rfl,HM,Lib.hid (S.out.cut 0),HX,HRW⟩
     case measure=>simp [intOf];omega
   ·obtain rfl:k=len:=by omega
    have HZ:Hid (ks.drop k=[]):=Lib.hid (List.drop_of_length_le (by rw [HLE.out];omega))
    rw [HZ.out] at S
    go_wp2_with fail
    exact S.out.done ⟨rfl,HX.out⟩
end
end Go.Proofs.YtagfoogfpabdfaaGreat
