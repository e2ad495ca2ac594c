/- Texts of the proof. -/
import Derived.Test.YtagfoogfpabdfaaGreatRows
import Derived.Orders
import Derived.WalkKit
import Derived.Test.YtagfoogfpabdfaaGreatTaa
import Derived.Maps.OwnSet
import Derived.Maps.RangeWalk
import Derived.Deep.QuietTactic
import Derived.BigQuiet
import Derived.StillTailTactics
import Derived.Laws.MakeOwn
import Derived.Laws.IdiomCopy
import Derived.IntWalk
import Derived.Lib.SlBuf
set_option maxRecDepth 100000
set_option maxHeartbeats 16000000
namespace Go.Proofs.YtagfoogfpabdfaaGreat
section
open Go.RowKit
section
variable {P:Program} {ops:Array Oper} {Q:Exit→Act→World→Prop} {md:Region.Mode} {σ:Type} {S:σ→World→Prop} {sp:Nat→Bool} {vals:Nat→Value}
def dE (P:Program) (m:Sem Next) (w:World) (R:Value→World→Prop):Prop:=
 match m.run P w with
 | .ok (.value u) w'=>R u w'
 | .ok .skip w'=>R undef w'
 | .ok (.enter f args) w'=>Calls P f args w' fun e w''=>∃ u,e=.returned u∧R u w''
 | _=>False
theorem dE.mono {m:Sem Next} {w:World} {R R':Value→World→Prop} (h:dE P m w R) (hr:∀ u w',R u w'→R' u w'):dE P m w R':=by
 unfold dE at *
 generalize m.run P w=r at *
 cases r with
 | halt x w'=>exact h
 |
  ok n w'=>
  cases n <;> simp only at h ⊢
  case value u=>exact hr _ _ h
  case skip=>exact hr _ _ h
  case enter f args=>exact h.mono fun e w'' ⟨u,hu,hR⟩=>⟨u,hu,hr _ _ hR⟩
theorem dE.wp {o:Oper} {a:Act} {w:World} {R:Value→World→Prop} {K:Act→World→Prop} (h:dE P (execOp a.eval o) w R) (hK:∀ u w',R u w'→K (a.put o.dst u) w'):Oper.wp P o a w K Q:=by
 unfold dE at h
 unfold Oper.wp
 generalize (execOp a.eval o).run P w=r at *
 cases r with
 | halt x w'=>exact h.elim
 |
  ok n w'=>
  cases n <;> simp only [Oper.upon] at h ⊢
  case value u=>exact hK _ _ h
  case skip=>exact hK _ _ h
  case enter f args=>
   refine h.mono fun e w'' ⟨u,hu,hR⟩=>?_
   subst hu
   exact hK _ _ hR
theorem iI {m:Sem Next} {w:World} {R:Value→World→Prop} {v:Value} (h:m.run P w=.ok (.value v) w) (hR:R v w):dE P m w R:=by
 unfold dE;rw [h];exact hR
theorem eX {m:Sem Next} {w w':World} {R:Value→World→Prop} {v:Value} (h:m.run P w=.ok (.value v) w') (hR:R v w'):dE P m w R:=by
 unfold dE;rw [h];exact hR
theorem qM {m:Sem Next} {w:World} {R:Value→World→Prop} {f:FuncId} {args:Array Value} (h:m.run P w=.ok (.enter f args) w) (hR:Calls P f args w fun e w''=>∃ u,e=.returned u∧R u w''):dE P m w R:=by
 unfold dE;rw [h];exact hR
def ia (P:Program) (ops:Array Oper) (S:σ→World→Prop) (o:Oper) (v:Value) (a:Act):Prop:=
 (Region.wanted o (yielded ops a.tmps)=true∧∀ s w,S s w→dE P (execOp a.eval o) w fun u w'=>u=v∧S s w') ∨
 (Region.wanted o (yielded ops a.tmps)=false∧v=undef)
def kh (P:Program) (ops:Array Oper) (S:σ→World→Prop) (s:σ) (o:Oper) (a:Act) (N:Value→σ→Prop):Prop:=
 Region.wanted o (yielded ops a.tmps)=true∧∀ w,S s w→dE P (execOp a.eval o) w fun u w'=>∃ s',N u s'∧S s' w'
theorem ia.put {oi oj:Oper} {v u:Value} {a:Act} (hs:∀ cs b,oi.op≠.select cs b) (h:∀ d,oj.dst=some d→d∉oi.looksAt ops) (hy:ia P ops S oi v a):ia P ops S oi v (a.put oj.dst u):=by
 unfold ia at *
 rw [execOp_put oi hs a oj.dst u h,wanted_put oi a oj.dst u h]
 exact hy
theorem ia.sK {oi oj:Oper} {v u:Value} {a:Act} (hs:∀ cs b,oj.op≠.select cs b) (h:∀ d,oi.dst=some d→d∉oj.looksAt ops) (hy:ia P ops S oj v (a.put oi.dst u)):ia P ops S oj v a:=by
 unfold ia at *
 rw [execOp_put oj hs a oi.dst u h,wanted_put oj a oi.dst u h] at hy
 exact hy
theorem kh.put {oi oj:Oper} {s:σ} {u:Value} {N:Value→σ→Prop} {a:Act} (hs:∀ cs b,oi.op≠.select cs b) (h:∀ d,oj.dst=some d→d∉oi.looksAt ops) (hy:kh P ops S s oi a N):kh P ops S s oi (a.put oj.dst u) N:=by
 unfold kh at *
 rw [execOp_put oi hs a oj.dst u h,wanted_put oi a oj.dst u h]
 exact hy
theorem kh.sK {oi oj:Oper} {s:σ} {u:Value} {N:Value→σ→Prop} {a:Act} (hs:∀ cs b,oj.op≠.select cs b) (h:∀ d,oi.dst=some d→d∉oj.looksAt ops) (hy:kh P ops S s oj (a.put oi.dst u) N):kh P ops S s oj a N:=by
 unfold kh at *
 rw [execOp_put oj hs a oi.dst u h,wanted_put oj a oi.dst u h] at hy
 exact hy
def pI (md:Region.Mode) (ops:Array Oper) (listed:Array Bool) (i:Nat) (oi:Oper):Prop:=
 ∀ j oj,ops[j]?=some oj→j≠i→listed.getD j true=false→(∀ e∈oj.after,Region.binds md e=true→e.on≠i)→oi.apart ops oj=true
theorem mA {listed:Array Bool} {j k:Nat} (h:(listed.setIfInBounds j true).getD k true=false):listed.getD k true=false:=by
 by_cases hjk:j=k
 ·subst hjk
  rcases Nat.lt_or_ge j listed.size with h' | h'
  ·simp [h'] at h
  ·simp at h
 ·rw [getD_set_ne true hjk] at h;exact h
theorem pI.set {listed:Array Bool} {i j:Nat} {oi:Oper} (h:pI md ops listed i oi):pI md ops (listed.setIfInBounds j true) i oi:=
 fun k ok hk hki hun hno=>h k ok hk hki (mA hun) hno
theorem fQ {listed:Array Bool} {i j:Nat} {oj:Oper} (hr:i∈Region.ready md ops listed) (hj:j∈Region.ready md ops listed) (hoj:ops[j]?=some oj):∀ e∈oj.after,Region.binds md e=true→e.on≠i:=by
 intro e he hb heq
 obtain ⟨_,o,ho,hall⟩:=mem_ready.1 hj
 rw [hoj] at ho
 injection ho with ho
 subst ho
 have h1:=hall e he hb
 have h0:=(mem_ready.1 hr).1
 rw [heq] at h1
 rcases Nat.lt_or_ge i listed.size with h' | h'
 ·simp [h'] at h0 h1;rw [h0] at h1;cases h1
 ·simp [Array.getElem?_eq_none h'] at h1
def fI (md:Region.Mode) (ops:Array Oper) (sp:Nat→Bool) (listed:Array Bool) (i:Nat) (D:Nat→Bool):Prop:=
 (∀ k ok,ops[k]?=some ok→sp k=true→k≠i→listed.getD k true=false→D k=true) ∧
 (∀ u,D u=true→u≠i∧listed.getD u true=false∧∃ ou,ops[u]?=some ou∧∃ e∈ou.after,Region.binds md e=true∧(e.on=i∨D e.on=true))
theorem fI.oN {sp:Nat→Bool} {listed:Array Bool} {i:Nat} {D:Nat→Bool} (h:fI md ops sp listed i D) (hr:i∈Region.ready md ops listed) {j:Nat} (hj:j∈Region.ready md ops listed):D j=false:=by
 cases hD:D j with
 | false=>rfl
 |
  true=>
  exfalso
  obtain ⟨_,_,ou,hou,e,he,hb,hon⟩:=h.2 j hD
  rcases hon with hon | hon
  ·exact fQ hr hj hou e he hb hon
  ·obtain ⟨_,hun,ou2,hou2,_⟩:=h.2 e.on hon
   obtain ⟨_,o,ho,hall⟩:=mem_ready.1 hj
   rw [hou] at ho
   injection ho with ho
   subst ho
   have h1:=hall e he hb
   rcases Nat.lt_or_ge e.on listed.size with h' | h'
   ·simp [h'] at h1 hun;rw [h1] at hun;cases hun
   ·simp [Array.getElem?_eq_none h'] at hun
theorem fI.set {sp:Nat→Bool} {listed:Array Bool} {i:Nat} {D:Nat→Bool} (h:fI md ops sp listed i D) (hr:i∈Region.ready md ops listed) {j:Nat} (hj:j∈Region.ready md ops listed):fI md ops sp (listed.setIfInBounds j true) i D:=by
 refine ⟨fun k ok hk hks hki hun=>h.1 k ok hk hks hki (mA hun),fun u hu=>?_⟩
 obtain ⟨h1,h2,h3⟩:=h.2 u hu
 refine ⟨h1,?_,h3⟩
 have hne:j≠u:=fun e=>by rw [← e,h.oN hr hj] at hu;cases hu
 rw [getD_set_ne true hne];exact h2
inductive Lin (P:Program) (md:Region.Mode) (ops:Array Oper) (Q:Exit→Act→World→Prop) (S:σ→World→Prop) (sp:Nat→Bool) (vals:Nat→Value):Nat→σ→Array Bool→Act→Prop
 | done {n:Nat} {s:σ} {listed:Array Bool} {a:Act} (hr:Region.ready md ops listed=[]) (hQ:∀ w,S s w→Q .normal a w):Lin P md ops Q S sp vals n s listed a
 | ord {n:Nat} {s:σ} {listed:Array Bool} {a:Act} (i:Nat) (o:Oper) (hi:ops[i]?=some o) (hr:i∈Region.ready md ops listed) (hf:pI md ops listed i o) (hsp:sp i=false)
   (hy:ia P ops S o (vals i) a) (h:Lin P md ops Q S sp vals n s (listed.setIfInBounds i true) (a.put o.dst (vals i))):Lin P md ops Q S sp vals (n+1) s listed a
 | spec {n:Nat} {s:σ} {listed:Array Bool} {a:Act} (i:Nat) (o:Oper) (N:Value→σ→Prop) (hi:ops[i]?=some o) (hr:i∈Region.ready md ops listed) (hf:pI md ops listed i o) (hsp:sp i=true)
   (hw:∃ D:Nat→Bool,fI md ops sp listed i D)
   (hN:∃ u s',N u s') (hy:kh P ops S s o a N) (h:∀ u s',N u s'→Lin P md ops Q S sp vals n s' (listed.setIfInBounds i true) (a.put o.dst u)):Lin P md ops Q S sp vals (n+1) s listed a
variable (hsel:∀ (j:Nat) (o:Oper) cs b,ops[j]?=some o→o.op≠.select cs b)
include hsel
theorem Lin.first:∀ (n:Nat) (s:σ) (listed:Array Bool) (a:Act) (j:Nat) (oj:Oper),Lin P md ops Q S sp vals n s listed a→j∈Region.ready md ops listed→ops[j]?=some oj→sp j=false →
  ia P ops S oj (vals j) a∧∃ m,n=m+1∧Lin P md ops Q S sp vals m s (listed.setIfInBounds j true) (a.put oj.dst (vals j)):=by
 intro n
 induction n with
 |
  zero=>
  intro s listed a j oj hl hj _ _
  cases hl with
  | done hr _=>rw [hr] at hj;cases hj
 |
  succ n ih=>
  intro s listed a j oj hl hj hoj hsj
  cases hl with
  | done hr _=>rw [hr] at hj;cases hj
  |
   ord i o hi hr hf hsp hy h=>
   by_cases hji:j=i
   ·subst hji
    rw [hi] at hoj
    injection hoj with hoj
    subst hoj
    exact ⟨hy,n,rfl,h⟩
   ·obtain ⟨h1,m,rfl,h2⟩:=ih _ _ _ j oj h (ready_mono hj hji) hoj hsj
    obtain ⟨a1,a2,a3⟩:=Oper.apart_spec (hf j oj hoj hji (mem_ready.1 hj).1 (fQ hr hj hoj))
    refine ⟨h1.sK (fun cs b=>hsel j oj cs b hoj) a1,m+1,rfl,Lin.ord i o hi (ready_mono hr (Ne.symm hji)) hf.set hsp (hy.put (fun cs b=>hsel i o cs b hi) a3) ?_⟩
    rw [← Act.put_comm a _ _ a2,Array.setIfInBounds_comm _ _ hji]
    exact h2
  |
   spec i o N hi hr hf hsp hw hN hy h=>
   have hji:j≠i:=fun e=>by rw [e,hsp] at hsj;cases hsj
   obtain ⟨a1,a2,a3⟩:=Oper.apart_spec (hf j oj hoj hji (mem_ready.1 hj).1 (fQ hr hj hoj))
   obtain ⟨u0,s0,hN0⟩:=hN
   obtain ⟨h1,m,rfl,_⟩:=ih _ _ _ j oj (h u0 s0 hN0) (ready_mono hj hji) hoj hsj
   refine ⟨h1.sK (fun cs b=>hsel j oj cs b hoj) a1,m+1,rfl,Lin.spec i o N hi (ready_mono hr (Ne.symm hji)) hf.set hsp (hw.imp fun _ hW=>hW.set hr hj) ⟨u0,s0,hN0⟩ (hy.put (fun cs b=>hsel i o cs b hi) a3) ?_⟩
   intro u s' hus
   obtain ⟨_,m',hm',h2⟩:=ih _ _ _ j oj (h u s' hus) (ready_mono hj hji) hoj hsj
   obtain rfl:m=m':=by omega
   rw [← Act.put_comm a _ _ a2,Array.setIfInBounds_comm _ _ hji]
   exact h2
theorem Lin.turns:∀ (n:Nat) (s:σ) (listed:Array Bool) (a:Act) (j:Nat) (oj:Oper),Lin P md ops Q S sp vals n s listed a→j∈Region.ready md ops listed→ops[j]?=some oj→sp j=true →
  ∃ N,kh P ops S s oj a N∧∃ m,n=m+1∧∀ u s',N u s'→Lin P md ops Q S sp vals m s' (listed.setIfInBounds j true) (a.put oj.dst u):=by
 intro n
 induction n with
 |
  zero=>
  intro s listed a j oj hl hj _ _
  cases hl with
  | done hr _=>rw [hr] at hj;cases hj
 |
  succ n ih=>
  intro s listed a j oj hl hj hoj hsj
  cases hl with
  | done hr _=>rw [hr] at hj;cases hj
  |
   ord i o hi hr hf hsp hy h=>
   have hji:j≠i:=fun e=>by rw [e,hsp] at hsj;cases hsj
   obtain ⟨N,h1,m,rfl,h2⟩:=ih _ _ _ j oj h (ready_mono hj hji) hoj hsj
   obtain ⟨a1,a2,a3⟩:=Oper.apart_spec (hf j oj hoj hji (mem_ready.1 hj).1 (fQ hr hj hoj))
   refine ⟨N,h1.sK (fun cs b=>hsel j oj cs b hoj) a1,m+1,rfl,fun u s' hus=>Lin.ord i o hi (ready_mono hr (Ne.symm hji)) hf.set hsp (hy.put (fun cs b=>hsel i o cs b hi) a3) ?_⟩
   rw [← Act.put_comm a _ _ a2,Array.setIfInBounds_comm _ _ hji]
   exact h2 u s' hus
  |
   spec i o N hi hr hf hsp hw hN hy h=>
   by_cases hji:j=i
   ·subst hji
    rw [hi] at hoj
    injection hoj with hoj
    subst hoj
    exact ⟨N,hy,n,rfl,h⟩
   ·obtain ⟨D,hW⟩:=hw
    have h1:=hW.1 j oj hoj hsj hji (mem_ready.1 hj).1
    rw [hW.oN hr hj] at h1
    cases h1
theorem Lin.any:∀ (n:Nat) (s:σ) (listed:Array Bool) (a:Act) (w:World),Lin P md ops Q S sp vals n s listed a→S s w→wpAny P md ops Q n listed a w:=by
 intro n
 induction n with
 |
  zero=>
  intro s listed a w hl hS
  cases hl with
  | done hr hQ=>exact ⟨hr,hQ w hS⟩
 |
  succ n ih=>
  intro s listed a w hl hS
  refine ⟨fun h=>?_,fun j hj=>?_⟩
  ·cases hl with
   | done hr hQ=>exact hQ w hS
   | ord i o hi hr=>rw [h] at hr;cases hr
   | spec i o N hi hr=>rw [h] at hr;cases hr
  ·obtain ⟨_,oj,hoj,_⟩:=mem_ready.1 hj
   unfold wpOp
   simp only [hoj]
   cases hsj:sp j with
   |
    false=>
    obtain ⟨h1,m,hm,h2⟩:=Lin.first hsel _ _ _ _ j oj hl hj hoj hsj
    obtain rfl:n=m:=by omega
    rcases h1 with ⟨hw,hg⟩ | ⟨hw,hv⟩
    ·rw [if_pos hw]
     refine Or.inl ((hg s w hS).wp fun u w' ⟨hu,hS'⟩=>?_)
     subst hu
     exact ih _ _ _ _ h2 hS'
    ·rw [if_neg (by rw [hw];exact Bool.false_ne_true)]
     rw [hv] at h2
     exact ih _ _ _ _ h2 hS
   |
    true=>
    obtain ⟨N,⟨hw,hg⟩,m,hm,h2⟩:=Lin.turns hsel _ _ _ _ j oj hl hj hoj hsj
    obtain rfl:n=m:=by omega
    rw [if_pos hw]
    exact Or.inl ((hg w hS).wp fun u w' ⟨s',hu,hS'⟩=>ih _ _ _ _ (h2 u s' hu) hS')
end
section
variable {P:Program} {ops:Array Oper} {Q:Exit→Act→World→Prop} {σ:Type} {S:σ→World→Prop} {sp:Nat→Bool} {vals:Nat→Value}
theorem cq {id:Nat} {a:Act} {w:World} (S:σ→World→Prop) (sp:Nat→Bool) (vals:Nat→Value) (s:σ) (hm:P.follows .mixedOrders=true) (hs:Region.noSelect ops=true) (hS:S s w.drew)
  (h:Lin P .any ops Q S sp vals ops.size s (Array.replicate ops.size false) a):(Code.region id ops true).wp P Q a w:=
 wp_region_any hm (Lin.any (Region.noSelect_spec hs) _ _ _ _ _ h hS)
def yC (ops:Array Oper) (sp:Nat→Bool) (listed:Array Bool) (i:Nat):Bool:=
 (List.range ops.size).all fun k=>k == i || !sp k || listed.getD k true || match ops[k]? with
  | some ok=>ok.after.any fun e=>Region.binds .any e && e.on == i
  | none=>true
theorem yB {listed:Array Bool} {i:Nat} (h:yC ops sp listed i=true) (k:Nat) (ok:Oper) (hk:ops[k]?=some ok) (hs:sp k=true) (hne:k≠i) (hun:listed.getD k true=false):∃ e∈ok.after,Region.binds .any e=true∧e.on=i:=by
 simp only [yC,List.all_eq_true,List.mem_range] at h
 have h1:=h k (Array.getElem?_eq_some_iff.1 hk).1
 simp only [hk,Bool.or_eq_true,beq_iff_eq,hne,false_or,hun,hs,Bool.not_true,Bool.false_eq_true] at h1
 obtain ⟨e,he,hb⟩:=Array.any_eq_true'.1 h1
 simp only [Bool.and_eq_true,beq_iff_eq] at hb
 exact ⟨e,he,hb.1,hb.2⟩
theorem mz {listed:Array Bool} {i:Nat} (h:yC ops sp listed i=true):fI .any ops sp listed i (fun k=>decide (k<ops.size) && sp k && !(k == i) && !listed.getD k true):=by
 refine ⟨fun k ok hk hs hne hun=>?_,fun u hu=>?_⟩
 ·have:=(Array.getElem?_eq_some_iff.1 hk).1
  simp [this,hs,hun,hne]
 ·simp only [Bool.and_eq_true,decide_eq_true_eq,Bool.not_eq_true',beq_eq_false_iff_ne] at hu
  obtain ⟨⟨⟨h1,h2⟩,h3⟩,h4⟩:=hu
  obtain ⟨e,he,hb,hon⟩:=yB h u _ (Array.getElem?_eq_getElem h1) h2 h3 h4
  exact ⟨h3,h4,_,Array.getElem?_eq_getElem h1,e,he,hb,Or.inl hon⟩
theorem ar {n:Nat} {s:σ} {listed:Array Bool} {a:Act} {i:Nat} {o:Oper} {v:Value} {d:Option Tmp} (hi:ops[i]?=some o) (hd:o.dst=d) (hr:(Region.ready .any ops listed).contains i=true) (hf:Region.free .any ops listed i=true) (hsp:sp i=false) (hv:vals i=v)
  (hy:ia P ops S o v a) (h:Lin P .any ops Q S sp vals n s (listed.setIfInBounds i true) (a.put d v)):Lin P .any ops Q S sp vals (n+1) s listed a:=
 Lin.ord i o hi (by simpa using hr) (Region.free_spec hi hf) hsp (hv ▸ hy) (by rw [hd,hv];exact h)
theorem dS {n:Nat} {s:σ} {listed:Array Bool} {a:Act} {i:Nat} {o:Oper} {d:Option Tmp} (N:Value→σ→Prop) (hi:ops[i]?=some o) (hd:o.dst=d) (hr:(Region.ready .any ops listed).contains i=true) (hf:Region.free .any ops listed i=true) (hsp:sp i=true)
  (hw:yC ops sp listed i=true) (hN:∃ u s',N u s') (hwa:Region.wanted o (yielded ops a.tmps)=true) (hy:∀ w,S s w→dE P (execOp a.eval o) w fun u w'=>∃ s',N u s'∧S s' w')
  (h:∀ u s',N u s'→Lin P .any ops Q S sp vals n s' (listed.setIfInBounds i true) (a.put d u)):Lin P .any ops Q S sp vals (n+1) s listed a:=
 Lin.spec i o N hi (by simpa using hr) (Region.free_spec hi hf) hsp ⟨_,mz hw⟩ hN ⟨hwa,hy⟩ (by rw [hd];exact h)
def EO (ops:Array Oper) (sp:Nat→Bool) (listed:Array Bool) (i:Nat) (D:List Nat):Bool:=
 ((List.range ops.size).all fun k=>k == i || !sp k || listed.getD k true || D.contains k) &&
 D.all fun u=>!(u == i) && !listed.getD u true && match ops[u]? with
  | some ou=>ou.after.any fun e=>Region.binds .any e && (e.on == i || D.contains e.on)
  | none=>false
theorem pX {listed:Array Bool} {i:Nat} {D:List Nat} (h:EO ops sp listed i D=true):fI .any ops sp listed i (fun u=>D.contains u):=by
 simp only [EO,Bool.and_eq_true] at h
 obtain ⟨h1,h2⟩:=h
 simp only [List.all_eq_true,List.mem_range] at h1 h2
 refine ⟨fun k ok hk hs hne hun=>?_,fun u hu=>?_⟩
 ·have h3:=h1 k (Array.getElem?_eq_some_iff.1 hk).1
  simp only [Bool.or_eq_true,beq_iff_eq,hne,false_or,hun,hs,Bool.not_true,Bool.false_eq_true] at h3
  exact h3
 ·have h3:=h2 u (by simpa using hu)
  simp only [Bool.and_eq_true,Bool.not_eq_true',beq_eq_false_iff_ne] at h3
  obtain ⟨⟨h4,h5⟩,h6⟩:=h3
  cases ho:ops[u]? with
  | none=>rw [ho] at h6;cases h6
  |
   some ou=>
   rw [ho] at h6
   obtain ⟨e,he,hb⟩:=Array.any_eq_true'.1 h6
   simp only [Bool.and_eq_true,Bool.or_eq_true,beq_iff_eq] at hb
   exact ⟨h4,h5,ou,rfl,e,he,hb.1,hb.2⟩
theorem tY {n:Nat} {s:σ} {listed:Array Bool} {a:Act} {i:Nat} {o:Oper} {d:Option Tmp} (D:List Nat) (N:Value→σ→Prop) (hi:ops[i]?=some o) (hd:o.dst=d) (hr:(Region.ready .any ops listed).contains i=true) (hf:Region.free .any ops listed i=true) (hsp:sp i=true)
  (hw:EO ops sp listed i D=true) (hN:∃ u s',N u s') (hwa:Region.wanted o (yielded ops a.tmps)=true) (hy:∀ w,S s w→dE P (execOp a.eval o) w fun u w'=>∃ s',N u s'∧S s' w')
  (h:∀ u s',N u s'→Lin P .any ops Q S sp vals n s' (listed.setIfInBounds i true) (a.put d u)):Lin P .any ops Q S sp vals (n+1) s listed a:=
 Lin.spec i o N hi (by simpa using hr) (Region.free_spec hi hf) hsp ⟨_,pX hw⟩ hN ⟨hwa,hy⟩ (by rw [hd];exact h)
theorem fz {n:Nat} {s:σ} {listed:Array Bool} {a:Act} (hr:Region.ready .any ops listed=[]) (hQ:∀ w,S s w→Q .normal a w):Lin P .any ops Q S sp vals n s listed a:=Lin.done hr hQ
theorem ae {o:Oper} {v:Value} {a:Act} (hw:Region.wanted o (yielded ops a.tmps)=true) (h:∀ s w,S s w→(execOp a.eval o).run P w=.ok (.value v) w):ia P ops S o v a:=
 Or.inl ⟨hw,fun s w hS=>iI (h s w hS) ⟨rfl,hS⟩⟩
theorem gC {o:Oper} {a:Act} (hw:Region.wanted o (yielded ops a.tmps)=false):ia P ops S o undef a:=Or.inr ⟨hw,rfl⟩
theorem aR {o:Oper} {v:Value} {a:Act} {f:FuncId} {args:Array Value} (hw:Region.wanted o (yielded ops a.tmps)=true) (hop:∀ w,(execOp a.eval o).run P w=.ok (.enter f args) w)
  (h:∀ s w,S s w→Calls P f args w fun e w'=>e=.returned v∧S s w'):ia P ops S o v a:=
 Or.inl ⟨hw,fun s w hS=>qM (hop w) ((h s w hS).mono fun _ _ ⟨he,hS'⟩=>⟨v,he,rfl,hS'⟩)⟩
end
end

section
open Go.RowKit
open Dk (av aa)
open Hd (Head aA aM)
structure au (w:World) (b:Nat) (vs:List Value):Prop where
 range:w.rangeAt b 0 vs
 free:w.there b 0 vs.length
theorem au.cell {w:World} {b:Nat} {vs:List Value} (h:au w b vs) (j:Nat) (v:Value) (hv:vs[j]?=some v):w.cell? ⟨b,j,none⟩=some v:=by
 have:=h.range j v hv
 rwa [Nat.zero_add] at this
theorem au.lt {w:World} {b:Nat} {v:Value} {vs:List Value} (h:au w b (v::vs)):b<w.heap.size:=World.block_lt_of_cell? w _ (h.cell 0 v rfl)
theorem bh (w:World) (vs:List Value) (t:TypeId):au (w.alloc (.cells vs.toArray t)) w.heap.size vs where
 range:=fun j v hv=>by
  rw [Nat.zero_add,World.cell?_alloc_mark]
  simpa using hv
 free:=eY w _ t _ (by rw [List.size_toArray];exact Nat.le_refl _)
theorem au.alloc {w:World} {b:Nat} {vs:List Value} (h:au w b vs) (o:Obj):au (w.alloc o) b vs:=⟨World.rangeAt_alloc h.range o,World.there_alloc h.free o⟩
theorem au.drew {w:World} {b:Nat} {vs:List Value} (h:au w b vs):au w.drew b vs:=⟨(World.rangeAt_drew ..).2 h.range,(World.there_drew ..).2 h.free⟩
theorem au.below {n:Nat} {w w':World} {b:Nat} {vs:List Value} (h:au w b vs) (hb:Below n w w') (hn:b<n):au w' b vs where
 range:=fun j v hv=>(hb.cell (p:=⟨b,0+j,none⟩) hn).trans (h.range j v hv)
 free:=fun j hj=>by
  rw [hb.cell (p:=⟨b,0+j,none⟩) hn,hb.frozen (p:=⟨b,0+j,none⟩) hn]
  exact h.free j hj
theorem au.put {w:World} {b:Nat} {vs:List Value} (h:au w b vs) (us:List Value) (hl:us.length=vs.length):au (w.setCells b 0 us) b us where
 range:=World.rangeAt_setCells_same _ _ _ _ (by rw [hl];exact h.free)
 free:=World.there_setCells (by rw [hl];exact h.free) _ _ _
theorem au.bl {w:World} {b:Nat} {vs:List Value} (h:au w b vs) (b' o:Nat) (us:List Value) (hb:b≠b'):au (w.setCells b' o us) b vs where
 range:=World.rangeAt_setCells_apart h.range _ _ _ (Or.inl hb)
 free:=World.there_setCells h.free _ _ _
def ca (h:Head):List Value:=[.int .i64 h.seq,.bool h.live,.int .i64 h.count,.int .u32 h.sum]
theorem Dt (h:Head):Value.agg (ca h).toArray=dC h:=rfl
theorem jz (h:Head):∀ v∈ca h,v.oneCell'=true:=by
 intro v hv
 simp only [ca,List.mem_cons,List.not_mem_nil,or_false] at hv
 rcases hv with rfl | rfl | rfl | rfl <;> rfl
def dA (w:World) (b:Nat) (h:Head):Prop:=au w b (ca h)
theorem dA.c0 {w:World} {b:Nat} {h:Head} (k:dA w b h):w.cell? ⟨b,0,none⟩=some (.int .i64 h.seq):=au.cell k 0 _ rfl
theorem dA.c1 {w:World} {b:Nat} {h:Head} (k:dA w b h):w.cell? ⟨b,1,none⟩=some (.bool h.live):=au.cell k 1 _ rfl
theorem dA.lt {w:World} {b:Nat} {h:Head} (k:dA w b h):b<w.heap.size:=au.lt k
theorem dA.drew {w:World} {b:Nat} {h:Head} (k:dA w b h):dA w.drew b h:=au.drew k
theorem dA.below {n:Nat} {w w':World} {b:Nat} {h:Head} (k:dA w b h) (hb:Below n w w') (hn:b<n):dA w' b h:=au.below k hb hn
theorem dA.put {w:World} {b:Nat} {h:Head} (k:dA w b h) (g:Head):dA (w.setCells b 0 (ca g)) b g:=au.put k _ rfl
theorem lZ (w:World) (h:Head) (t:TypeId):dA (w.alloc (.cells (ca h).toArray t)) w.heap.size h:=bh w _ t
structure uT (t:TypeId):Prop where
 row:∃ d,Tryz.prog.underlying t=some d∧d.isRow=true
 info:(Tryz.prog.info? t).map (·.size)=some 4
theorem gZ:uT 259:=⟨⟨_,Tryz.underlying259,rfl⟩,by kernel_rfl⟩
theorem dA.mW {t:TypeId} (ht:uT t) {w:World} {b:Nat} {h:Head} (k:dA w b h):(loadVar t ⟨b,0,none⟩).run Tryz.prog w=.ok (dC h) w:=by
 obtain ⟨d,hd,hr⟩:=ht.row
 exact run_loadVar_mid (P:=Tryz.prog) w b 0 t (ca h) d k.range hd hr ht.info
theorem cb {t:TypeId} (ht:uT t) {ops:Array Oper} {rest:List Oper} {op:Oper} {a:Act} {Q:Exit→Act→World→Prop} {w:World} {b:Nat} {h:Head} (k:dA w b h) (hgd:op.guard=none) (x:Operand) (ho:op.op=.load t x)
  (hx:a.eval x=.pointer (some ⟨b,0,none⟩)) (hn:wpList Tryz.prog ops Q rest (a.put op.dst (dC h)) w):wpList Tryz.prog ops Q (op::rest) a w:=by
 obtain ⟨d,hd,hr⟩:=ht.row
 exact wpList_load_mid hgd t x ho b 0 hx (ca h) d k.range hd hr ht.info hn
theorem eP {t:TypeId} (ht:uT t) {ops:Array Oper} {rest:List Oper} {op:Oper} {a:Act} {Q:Exit→Act→World→Prop} {w:World} {b:Nat} {g h:Head} (k:dA w b g) (hgd:op.guard=none) (x y:Operand) (ho:op.op=.store t x y)
  (hx:a.eval x=.pointer (some ⟨b,0,none⟩)) (hy:a.eval y=dC h) (hn:wpList Tryz.prog ops Q rest (a.put op.dst undef) (w.setCells b 0 (ca h))):wpList Tryz.prog ops Q (op::rest) a w:=
 wpList_store_mid hgd t x y ho b 0 (ca h).toArray hx hy k.free ht.info (all_oneCell_toArray (jz h)) (by simpa using hn)
theorem cm {t:TypeId} (ht:uT t) {ops:Array Oper} {rest:List Oper} {op:Oper} {a:Act} {Q:Exit→Act→World→Prop} {w:World} {Z:Array Value} {u:TypeId} {h:Head} (hgd:op.guard=none) (x y:Operand) (ho:op.op=.store t x y)
  (hx:a.eval x=.pointer (some ⟨w.heap.size,0,none⟩)) (hy:a.eval y=dC h) (hZ:Z.size=4)
  (hn:∀ W2,dA W2 w.heap.size h→Below w.heap.size w W2→W2.heap.size=w.heap.size+1→wpList Tryz.prog ops Q rest (a.put op.dst undef) W2):
  wpList Tryz.prog ops Q (op::rest) a (w.alloc (.cells Z u)):=by
 have hth:(w.alloc (.cells Z u)).there w.heap.size 0 4:=eY w Z u _ (by omega)
 refine wpList_store_mid hgd t x y ho w.heap.size 0 (ca h).toArray hx hy hth ht.info (all_oneCell_toArray (jz h)) (hn _ ?_ ?_ ?_)
 ·exact ⟨World.rangeAt_setCells_same _ _ _ _ hth,World.there_setCells hth _ _ _⟩
 ·exact below_setCells _ (Nat.le_refl _) _ _ _ ((Below.refl _ _).alloc (Nat.le_refl _) _)
 ·rw [bC];simp
theorem tB {t:TypeId} (ht:uT t) (fn:Func) (s:Nat) (hf:fn.results=#[.cell s t]) {w:World} {b:Nat} {h:Head} (tmps:Array Value) (k:dA w b h) (hs:tmps.getD s undef=.pointer (some ⟨b,0,none⟩)):
  (results fn tmps).run Tryz.prog w=.ok (dC h) w:=by
 have hl:=k.mW ht
 unfold results
 rw [hf]
 simp only [Array.mapM_eq_mapM_toList,List.mapM_cons,List.mapM_nil,hs,asAddr,Sem.run_bind,Sem.run_pure,Result.andThen_ok,hl,Sem.run_map]
 rfl
theorem iz {t:TypeId} (ht:uT t) (fn:Func) (s r:Nat) (hf:fn.results=#[.cell s t,.tmp r]) {w:World} {b:Nat} {h:Head} {v:Value} (tmps:Array Value) (k:dA w b h) (hs:tmps.getD s undef=.pointer (some ⟨b,0,none⟩)) (hr:tmps.getD r undef=v):
  (results fn tmps).run Tryz.prog w=.ok (.tuple #[dC h,v]) w:=by
 have hl:=k.mW ht
 unfold results
 rw [hf]
 simp only [Array.mapM_eq_mapM_toList,List.mapM_cons,List.mapM_nil,hs,hr,asAddr,Sem.run_bind,Sem.run_pure,Result.andThen_ok,hl,Sem.run_map]
 rfl
section
variable {ops:Array Oper} {σ:Type} {S:σ→World→Prop}
theorem bf {o:Oper} {a:Act} {b:Nat} {p:List UInt8} (hw:Region.wanted o (yielded ops a.tmps)=true) (x:Operand) (ho:o.op=.load 87 x) (hx:a.eval x=.pointer (some ⟨b,0,none⟩)) (hS:∀ s w,S s w→aD w b p):
  ia Tryz.prog ops S o (an p) a:=
 ae hw fun s w hs=>by
  unfold execOp
  have:=(hS s w hs).mW
  simp only [ho,hx,Instr.loadAt,Instr.sureAddr,Sem.run_bind,Sem.run_pure,Result.andThen_ok,this]
theorem mY {t:TypeId} (ht:uT t) {o:Oper} {a:Act} {w:World} {b:Nat} {g h:Head} {R:Value→World→Prop} (k:dA w b g) (x y:Operand) (ho:o.op=.store t x y) (hx:a.eval x=.pointer (some ⟨b,0,none⟩)) (hy:a.eval y=dC h)
  (hR:R undef (w.setCells b 0 (ca h))):dE Tryz.prog (execOp a.eval o) w R:=by
 have hs:=run_storeVar_mid (P:=Tryz.prog) w b 0 t (ca h).toArray k.free ht.info (all_oneCell_toArray (jz h))
 rw [Dt] at hs
 have hrun:(execOp a.eval o).run Tryz.prog w=.ok .skip (w.setCells b 0 (ca h))∨(execOp a.eval o).run Tryz.prog w=.ok (.value undef) (w.setCells b 0 (ca h)):=by
  unfold execOp
  simp only [ho,hx,hy,Instr.storeAt,Instr.sureAddr,Sem.run_bind,Sem.run_pure,Result.andThen_ok,hs]
  simp
 unfold dE
 rcases hrun with h | h <;> (rw [h];exact hR)
end
end

section
open Go.RowKit
open Dk (av aa)
open Hd (Head aA aM)
structure RdS (w0:World) (p:List UInt8) (h:Head) (b:Bool) (W:World):Prop where
 aK:aD W w0.heap.size p
 res:dA W (w0.heap.size+1) (if b=true then h else Hd.zero)
 below:Below w0.heap.size w0 W
theorem RdS.call {w0:World} {p:List UInt8} {h:Head} {b:Bool} {W W':World} (k:RdS w0 p h b W) (hb:Below W.heap.size W W'):RdS w0 p h b W':=
 ⟨k.aK.below hb k.aK.lt,k.res.below hb k.res.lt,k.below.trans (hb.mono k.below.size)⟩
theorem RdS.put {w0:World} {p:List UInt8} {h:Head} {b:Bool} {W:World} (k:RdS w0 p h b W):RdS w0 p h true (W.setCells (w0.heap.size+1) 0 (ca h)):=
 ⟨k.aK.bl _ _ _ (by omega),k.res.put h,below_setCells _ (by omega) _ _ _ k.below⟩
theorem BR (w:World) (p:List UInt8) (h:Head) (hp:p.length=64):RdS w p h false ((w.alloc (.cells (ab p).toArray 87)).alloc (.cells #[.int .i64 0,.bool false,.int .i64 0,.int .u32 0] 259)).drew where
 aK:=((bF w p _ hp).alloc _).drew
 res:=by
  have:=lZ (w.alloc (.cells (ab p).toArray 87)) Hd.zero 259
  have e:(w.alloc (.cells (ab p).toArray 87)).heap.size=w.heap.size+1:=by simp
  rw [e] at this
  exact this.drew
 below:=(((Below.refl _ _).alloc (Nat.le_refl _) _).alloc (by simp) _).drew
theorem vg (v:Int) (h0:0≤v) (h1:v<4294967296):IntKind.u32.wrap v=v:=by
 have e:IntKind.u32.wrap v=v % 4294967296:=by simp [IntKind.wrap,IntKind.bits,IntKind.signed]
 rw [e];omega
theorem oZ (p:List UInt8) (w:World) (hp:p.length=64):
  Calls Tryz.prog 266 #[an p] w fun e w'=>e=.returned (dC (Hd.cE p))∧Below w.heap.size w w':=by
 have G0:=Lib.hid (fun (w:World)=>bx p 0 4 w hp (by omega) (by omega))
 have G4:=Lib.hid (fun (w:World)=>bx p 4 1 w hp (by omega) (by omega))
 have G5:=Lib.hid (fun (w:World)=>bx p 5 2 w hp (by omega) (by omega))
 have G7:=Lib.hid (fun (w:World)=>bx p 7 4 w hp (by omega) (by omega))
 have hbd:=Hd.rC p hp
 have HB:Hid (dC ⟨Pg.ba p 0 4,Pg.ba p 4 1 == 1,Pg.ba p 5 2,Pg.ba p 7 4⟩=dC (Hd.cE p)):=Lib.hid rfl
 obtain ⟨_,_,_,_,k0,k1⟩:=hbd
 change 0≤Pg.ba p 7 4 at k0
 change Pg.ba p 7 4<4294967296 at k1
 have HS:=Lib.hid (BR w p (Hd.cE p) hp)
 clear hp
 generalize Hd.cE p=h at HB HS ⊢
 generalize Pg.ba p 0 4=g0 at G0 HB
 generalize Pg.ba p 4 1=g4 at G4 HB
 generalize Pg.ba p 5 2=g5 at G5 HB
 generalize Pg.ba p 7 4=g7 at G7 HB k0 k1
 unfold dC at HB
 unfold an
 go_enter Tryz.func266,Tryz.ntmps266
 go_wp2_with fail
 refine cq (RdS w p h) (fun i=>i == 11) (fun i=>[an p,.int .i64 g0,an p,.int .i64 g4,.bool (g4 == 1),an p,.int .i64 g5,an p,.int .i64 g7,.int .u32 g7,dC h].getD i undef) (false) (by kernel_rfl) (by kernel_rfl) (HS.out) ?_
 refine ar (i:=0) (d:=some 3) (v:=an p) rfl rfl (by kernel_rfl) (by kernel_rfl) rfl rfl (bf (by kernel_rfl) (.tmp 1) rfl rfl (fun _ _ hS=>hS.aK)) ?_
 (try simp only [Act.put,puA,puB,puC])
 refine ar (i:=1) (d:=some 4) (v:=.int .i64 g0) rfl rfl (by kernel_rfl) (by kernel_rfl) rfl rfl (aR (f:=205) (args:=#[an p,.int .i64 0,.int .i64 4]) (by kernel_rfl) ?_ (fun _ _ hS=>(G0.out _).mono fun _ _ ⟨he,hb⟩=>⟨he,hS.call hb⟩)) ?_
 ·intro _;go_simp
 (try simp only [Act.put,puA,puB,puC])
 refine ar (i:=2) (d:=some 5) (v:=an p) rfl rfl (by kernel_rfl) (by kernel_rfl) rfl rfl (bf (by kernel_rfl) (.tmp 1) rfl rfl (fun _ _ hS=>hS.aK)) ?_
 (try simp only [Act.put,puA,puB,puC])
 refine ar (i:=3) (d:=some 6) (v:=.int .i64 g4) rfl rfl (by kernel_rfl) (by kernel_rfl) rfl rfl (aR (f:=205) (args:=#[an p,.int .i64 4,.int .i64 1]) (by kernel_rfl) ?_ (fun _ _ hS=>(G4.out _).mono fun _ _ ⟨he,hb⟩=>⟨he,hS.call hb⟩)) ?_
 ·intro _;go_simp
 (try simp only [Act.put,puA,puB,puC])
 refine ar (i:=4) (d:=some 7) (v:=.bool (g4 == 1)) rfl rfl (by kernel_rfl) (by kernel_rfl) rfl rfl (ae (by kernel_rfl) ?_) ?_
 ·intro _ _ _;go_simp
 (try simp only [Act.put,puA,puB,puC])
 refine ar (i:=5) (d:=some 8) (v:=an p) rfl rfl (by kernel_rfl) (by kernel_rfl) rfl rfl (bf (by kernel_rfl) (.tmp 1) rfl rfl (fun _ _ hS=>hS.aK)) ?_
 (try simp only [Act.put,puA,puB,puC])
 refine ar (i:=6) (d:=some 9) (v:=.int .i64 g5) rfl rfl (by kernel_rfl) (by kernel_rfl) rfl rfl (aR (f:=205) (args:=#[an p,.int .i64 5,.int .i64 2]) (by kernel_rfl) ?_ (fun _ _ hS=>(G5.out _).mono fun _ _ ⟨he,hb⟩=>⟨he,hS.call hb⟩)) ?_
 ·intro _;go_simp
 (try simp only [Act.put,puA,puB,puC])
 refine ar (i:=7) (d:=some 10) (v:=an p) rfl rfl (by kernel_rfl) (by kernel_rfl) rfl rfl (bf (by kernel_rfl) (.tmp 1) rfl rfl (fun _ _ hS=>hS.aK)) ?_
 (try simp only [Act.put,puA,puB,puC])
 refine ar (i:=8) (d:=some 11) (v:=.int .i64 g7) rfl rfl (by kernel_rfl) (by kernel_rfl) rfl rfl (aR (f:=205) (args:=#[an p,.int .i64 7,.int .i64 4]) (by kernel_rfl) ?_ (fun _ _ hS=>(G7.out _).mono fun _ _ ⟨he,hb⟩=>⟨he,hS.call hb⟩)) ?_
 ·intro _;go_simp
 (try simp only [Act.put,puA,puB,puC])
 refine ar (i:=9) (d:=some 12) (v:=.int .u32 g7) rfl rfl (by kernel_rfl) (by kernel_rfl) rfl rfl (ae (by kernel_rfl) ?_) ?_
 ·intro _ _ _;go_simp;exact vg _ k0 k1
 (try simp only [Act.put,puA,puB,puC])
 refine ar (i:=10) (d:=some 13) (v:=dC h) rfl rfl (by kernel_rfl) (by kernel_rfl) rfl rfl (ae (by kernel_rfl) ?_) ?_
 ·intro _ _ _;go_simp;exact HB.out
 (try simp only [Act.put,puA,puB,puC])
 refine dS (i:=11) (d:=none) (fun u s=>u=undef∧s=true) rfl rfl (by kernel_rfl) (by kernel_rfl) rfl (by kernel_rfl) (⟨_,_,rfl,rfl⟩) (by kernel_rfl) (fun W hS=>mY gZ hS.res (.tmp 2) (.tmp 13) rfl rfl rfl ⟨true,⟨rfl,rfl⟩,hS.put⟩) ?_
 rintro _ _ ⟨rfl,rfl⟩
 (try simp only [Act.put,puA,puB,puC])
 refine fz (by kernel_rfl) ?_
 intro W hS
 go_wp2_with fail
 exact bodyPost_ret (tB gZ _ 2 rfl _ hS.res rfl) rfl ⟨rfl,hS.below⟩
end

section
open Go.RowKit Go.Maps Go.MapKept Go.ChangeMaps
open Dk (av aa)
structure aB (l:List Nat) (w w':World):Prop where
 os:w'.os=w.os
 tape:w'.tape=w.tape
 output:w'.output=w.output
 size:w.heap.size≤w'.heap.size
 block:∀ k,k<w.heap.size→k∉l→w'.heap[k]?=w.heap[k]?
theorem aB.refl (l:List Nat) (w:World):aB l w w:=⟨rfl,rfl,rfl,Nat.le_refl _,fun _ _ _=>rfl⟩
theorem aB.trans {l:List Nat} {a b c:World} (h:aB l a b) (k:aB l b c):aB l a c:=
 ⟨k.os.trans h.os,k.tape.trans h.tape,k.output.trans h.output,Nat.le_trans h.size k.size,fun i hi hn=>(k.block i (Nat.lt_of_lt_of_le hi h.size) hn).trans (h.block i hi hn)⟩
theorem aB.mono {l l':List Nat} {w w':World} (h:aB l w w') (hl:∀ k∈l,k∈l'):aB l' w w':=⟨h.os,h.tape,h.output,h.size,fun k hk hn=>h.block k hk (fun e=>hn (hl k e))⟩
theorem aB.drew {l:List Nat} {a w:World} (h:aB l a w):aB l a w.drew:=⟨h.os,h.tape,h.output,h.size,h.block⟩
theorem aB.alloc {l:List Nat} {a w:World} (h:aB l a w) (o:Obj):aB l a (w.alloc o):=
 h.trans ⟨rfl,rfl,rfl,by simp,fun k hk _=>Below.heap_alloc _ _ _ hk⟩
theorem aB.setCell {l:List Nat} {a w:World} (h:aB l a w) {p:Addr} (hp:p.block∈l) (u:Value):aB l a (w.setCell p u):=
 h.trans ⟨rfl,rfl,rfl,by simp [World.setCell],fun k _ hn=>Below.heap_setCell _ _ _ _ (fun e=>hn (e ▸ hp))⟩
theorem aB.setCells {l:List Nat} {a:World} (b:Nat) (hb:b∈l):∀ (vs:List Value) (o:Nat) (w:World),aB l a w→aB l a (w.setCells b o vs)
 | [],_,_,h=>h
 |
  v::r,o,w,h=>by
  rw [World.setCells]
  exact aB.setCells b hb r (o+1) _ (h.setCell (by exact hb) v)
theorem aB.below {l:List Nat} {w w':World} (h:Below w.heap.size w w'):aB l w w':=⟨h.os,h.tape,h.output,h.size,fun k hk _=>h.block k hk⟩
theorem aB.oH {l:List Nat} {a w w':World} (h:aB l a w) (k:Below w.heap.size w w'):aB l a w':=h.trans (aB.below k)
theorem aB.grown {l:List Nat} {w w':World} {b:Nat} (h:w.grownBy w' (some b)) (hb:b∈l):aB l w w':=
 ⟨h.os,h.tape,h.output,h.size,fun k hk hn=>h.block k hk (fun e=>by injection e with e;exact hn (e ▸ hb))⟩
theorem aB.pe {l:List Nat} {w w':World} (h:w.grownBy w' none):aB l w w':=
 ⟨h.os,h.tape,h.output,h.size,fun k hk _=>h.block k hk (fun e=>by cases e)⟩
theorem aB.toBelow {l:List Nat} {B:Nat} {w w':World} (h:aB l w w') (hB:B≤w.heap.size) (hl:∀ k∈l,B≤k):Below B w w':=
 ⟨h.os,h.tape,h.output,h.size,fun k hk=>h.block k (by omega) (fun e=>by have:=hl k e;omega)⟩
theorem aB.lI {l:List Nat} {B:Nat} {a w w':World} (h0:Below B a w) (h:aB l w w') (hB:B≤w.heap.size) (hl:∀ k∈l,B≤k):Below B a w':=h0.trans (h.toBelow hB hl)
theorem aB.cell {l:List Nat} {w w':World} (h:aB l w w') {p:Addr} (hp:p.block<w.heap.size) (hn:p.block∉l):w'.cell? p=w.cell? p:=World.cell?_of_block (w:=w) (h.block _ hp hn)
theorem cu {w w':World} {b o:Nat} {cs:List Value} (h:w.rangeAt b o cs) (hb:w'.heap[b]?=w.heap[b]?):w'.rangeAt b o cs:=fun j v hv=>(World.cell?_of_block (w:=w) (a:=⟨b,o+j,none⟩) hb).trans (h j v hv)
theorem ki {w w':World} {b o n:Nat} (h:w.there b o n) (hb:w'.heap[b]?=w.heap[b]?):w'.there b o n:=fun j hj=>by
 rw [World.cell?_of_block (w:=w) (a:=⟨b,o+j,none⟩) hb,World.frozen?_of_block (w:=w) (a:=⟨b,o+j,none⟩) hb];exact h j hj
theorem gg (b:Nat):∀ (vs:List Value) (o:Nat) (w:World) (k:Nat),k≠b→(w.setCells b o vs).heap[k]?=w.heap[k]?
 | [],_,_,_,_=>rfl
 |
  v::r,o,w,k,hk=>by
  rw [World.setCells,gg b r (o+1) _ k hk]
  exact Below.heap_setCell _ _ _ _ hk
structure bG (w:World) (b:Nat) (ps:List (List UInt8)):Prop where
 size:∀ p∈ps,p.length=64
 range:∀ i p,ps[i]?=some p→w.rangeAt b (i*64) (ab p)
 free:w.there b 0 (ps.length*64)
theorem bG.block {w w':World} {b:Nat} {ps:List (List UInt8)} (h:bG w b ps) (hb:w'.heap[b]?=w.heap[b]?):bG w' b ps:=
 ⟨h.size,fun i p hp=>cu (h.range i p hp) hb,ki h.free hb⟩
theorem bG.qZ {w:World} {b:Nat} {ps:List (List UInt8)} (h:bG w b ps) (i:Nat) (hi:i<ps.length):w.there b (i*64) 64:=fun j hj=>by
 have:=h.free (i*64+j) (by have:(i+1)*64≤ps.length*64:=Nat.mul_le_mul_right _ hi;omega)
 rwa [Nat.zero_add] at this
theorem bG.lt {w:World} {b:Nat} {ps:List (List UInt8)} (h:bG w b ps) (h0:0<ps.length):b<w.heap.size:=by
 have:=(h.free 0 (by omega)).1
 cases hc:w.cell? ⟨b,0+0,none⟩ with
 | none=>rw [hc] at this;cases this
 | some v=>exact World.block_lt_of_cell? w _ hc
theorem bG.put {w:World} {b:Nat} {ps:List (List UInt8)} (h:bG w b ps) (i:Nat) (hi:i<ps.length) (p:List UInt8) (hp:p.length=64):bG (w.setCells b (i*64) (ab p)) b (ps.set i p) where
 size:=fun q hq=>by
  rcases List.mem_or_eq_of_mem_set hq with h1 | h1
  ·exact h.size q h1
  ·rw [h1];exact hp
 range:=fun j q hq=>by
  rw [List.getElem?_set] at hq
  by_cases e:i=j
  ·subst e
   rw [if_pos rfl,if_pos hi] at hq
   injection hq with hq
   subst hq
   exact World.rangeAt_setCells_same _ _ _ _ (by rw [aj,hp];exact h.qZ i hi)
  ·rw [if_neg e] at hq
   have hql:q.length=64:=h.size q (List.mem_of_getElem? hq)
   refine World.rangeAt_setCells_apart (h.range j q hq) _ _ _ (Or.inr ?_)
   rw [aj,aj,hp,hql]
   rcases Nat.lt_or_gt_of_ne e with g | g
   ·have:(i+1)*64≤j*64:=Nat.mul_le_mul_right _ g;omega
   ·have:(j+1)*64≤i*64:=Nat.mul_le_mul_right _ g;omega
 free:=by rw [List.length_set];exact World.there_setCells h.free _ _ _
theorem CL (N:Nat):madeCells (Value.agg zeroCells).cells N=(ab (List.replicate N 0)).toArray:=by
 apply Array.ext'
 have hz:∀ i,i<64→(zeroCells:Array Value)[i]! = .int .u8 0:=fun i hi=>by
  have h1:zeroCells[i]?=some (.int .u8 0):=by
   unfold zeroCells
   rw [List.getElem?_toArray,cd av i (by rw [aa];exact hi)]
   have h2:∀ (j:Nat) (hj:j<av.length),av[j]=0:=fun j hj=>List.getElem_replicate ..
   rw [h2];rfl
  rw [getElem!_def,h1]
 have hs:(Value.agg zeroCells).cells=zeroCells:=rfl
 have hsz:zeroCells.size=64:=rfl
 rw [hs]
 unfold madeCells
 rw [hsz,Array.toList_map,Array.toList_range]
 unfold ab
 rw [List.map_replicate]
 apply List.ext_getElem
 ·simp
 ·intro i h1 h2
  simp only [List.getElem_map,List.getElem_range,List.getElem_replicate]
  exact hz _ (Nat.mod_lt _ (by omega))
theorem Dq:(Tryz.prog.info? 87).map (fun i=>(i.zero,i.size,i.bytes))=some (some (.agg zeroCells),64,64):=by kernel_rfl
def eO (n:Nat):Array Value:=(ab (List.replicate (n*64) 0)).toArray
theorem gH (w:World) (n:Nat) (hn:n≤1000):(Instr.makeSlice 81 (.int .i64 (n:Int)) (.int .i64 (n:Int))).run Tryz.prog w=.ok (.slice (some ⟨w.heap.size,0,none⟩) n n) (w.alloc (.cells (eO n) 87)):=by
 obtain ⟨i,hi,hz,hs,hb⟩:=info_parts Dq
 have:=run_make (P:=Tryz.prog) w 81 87 i (.agg zeroCells) Tryz.underlying81 hi hz .i64 .i64 (n:Int) (n:Int) (by omega) (by omega) (by rw [hb];omega) (by omega)
 rw [hs,Int.toNat_natCast,CL] at this
 exact this
theorem lO (w:World) (n:Nat) (t:TypeId):bG (w.alloc (.cells (eO n) t)) w.heap.size (List.replicate n av) where
 size:=fun p hp=>by rw [List.eq_of_mem_replicate hp];exact aa
 range:=fun i p hp=>by
  have hi:i<n:=by
   have:=(List.getElem?_eq_some_iff.1 hp).1
   simpa using this
  have hp':p=av:=List.eq_of_mem_replicate (List.mem_of_getElem? hp)
  subst hp'
  intro j v hv
  rw [World.cell?_alloc_mark]
  have hj:j<64:=by
   have:=(List.getElem?_eq_some_iff.1 hv).1
   rw [aj,aa] at this;exact this
  have hk:i*64+j<n*64:=by have:(i+1)*64≤n*64:=Nat.mul_le_mul_right _ hi;omega
  have hz0:∀ (k:Nat) (hk:k<av.length),av[k]=0:=fun k hk=>List.getElem_replicate ..
  rw [cd av j (by rw [aa];exact hj),hz0] at hv
  unfold eO
  rw [List.getElem?_toArray,cd _ _ (by rw [List.length_replicate];exact hk),List.getElem_replicate]
  exact hv
 free:=eY w _ t _ (by unfold eO;rw [List.size_toArray,aj];simp)
open Classical in
noncomputable def eE (v:Value):Option (DataW (List UInt8) × List MemPlace):=
 if h:∃ p:List UInt8,p.length=64∧v=an p then some (.held h.choose,[]) else none
theorem oD {p q:List UInt8} (h:an p=an q):p=q:=by
 unfold an at h
 injection h with h
 exact uC p q (by simpa using congrArg Array.toList h)
theorem rK {p:List UInt8} (hp:p.length=64):eE (an p)=some (.held p,[]):=by
 unfold eE
 have hex:∃ q:List UInt8,q.length=64∧an p=an q:=⟨p,hp,rfl⟩
 rw [dif_pos hex]
 have:=oD hex.choose_spec.2
 rw [← this]
theorem ld {v:Value} {z:DataW (List UInt8) × List MemPlace} (h:eE v=some z):∃ p:List UInt8,p.length=64∧v=an p∧z=(.held p,[]):=by
 unfold eE at h
 split at h
 ·rename_i hex
  injection h with h
  exact ⟨_,hex.choose_spec.1,hex.choose_spec.2,h.symm⟩
 ·cases h
structure wV (D:DataW (List UInt8)) (c:List (Option (List UInt8))):Prop where
 has:∀ i:Int,Maps.has D (.int .i64 i)=(decide (0≤i) && (c.getD i.toNat none).isSome)
 held:∀ (i:Nat) p,c.getD i none=some p→∀ z,D.atKey (.int .i64 (i:Int)) z=.held p
 size:Maps.size D=c.countP (·.isSome)
def dw (w:World) (b:Nat) (c:List (Option (List UInt8))):Prop:=∃ D,w.ownsMap Tryz.prog 3 eE b (Maps.size D) D∧wV D c
theorem ju:Keyed Tryz.prog 3:=int_keyed Tryz.underlying3
theorem wY (w:World):(zeroValue 87).run Tryz.prog w=.ok (an av) w:=by kernel_rfl
theorem wf_i64 {i:Int} (h1:-9223372036854775808≤i) (h2:i≤9223372036854775807):(Lit.int .i64 i).wf=true:=WalkArith.wf_i64 (by omega)
theorem dw.block {w w':World} {b:Nat} {c:List (Option (List UInt8))} (h:dw w b c) (hb:w'.heap[b]?=w.heap[b]?):dw w' b c:=by
 obtain ⟨D,⟨es,clock,h1,h2⟩,h3⟩:=h
 exact ⟨D,⟨es,clock,hb.trans h1,h2⟩,h3⟩
theorem dw.lt {w:World} {b:Nat} {c:List (Option (List UInt8))} (h:dw w b c):b<w.heap.size:=by
 obtain ⟨D,h1,_⟩:=h
 exact h1.lt
theorem tight {w:World} {b n:Nat} {D:DataW (List UInt8)} (h:w.ownsMap Tryz.prog 3 eE b n D):w.ownsMap Tryz.prog 3 eE b (Maps.size D) D:=by
 obtain ⟨es,clock,hb,F,hs,rfl⟩:=h
 exact ⟨es,clock,hb,F,by simp [Maps.size,length_sorted],rfl⟩
theorem jT (w:World) (n:Nat):dw (w.alloc (.map #[] 0)) w.heap.size (List.replicate n none):=by
 refine ⟨.map [],World.ownsMap_made _ _ _ _,?_,?_,?_⟩
 ·intro i
  rw [has_eq]
  simp [List.getElem?_replicate]
  split <;> simp
 ·intro i p hp
  rw [List.getD_eq_getElem?_getD,List.getElem?_replicate] at hp
  split at hp <;> cases hp
 ·simp [Maps.size,List.countP_replicate]
theorem dw.value {D:DataW (List UInt8)} {c:List (Option (List UInt8))} (h3:wV D c) (i:Nat) {v:Value} {ps:List MemPlace} (hv:eE v=some (D.atKey (.int .i64 (i:Int)) (.held av),ps)):v=an ((c.getD i none).getD av):=by
 obtain ⟨p,_,rfl,e⟩:=ld hv
 injection e with e _
 cases hc:c.getD i none with
 |
  none=>
  have hh:Maps.has D (.int .i64 (i:Int))=false:=by rw [h3.has,Int.toNat_natCast,hc];simp
  rw [atKey_of_not_has hh] at e
  injection e with e
  rw [← e];rfl
 |
  some q=>
  rw [h3.held i q hc] at e
  injection e with e
  rw [← e];rfl
theorem dw.look {w:World} {b:Nat} {c:List (Option (List UInt8))} (h:dw w b c) (i:Nat) (hi:i≤1000):
  (Instr.lookup 82 (.map (some b)) (.int .i64 (i:Int)) true).run Tryz.prog w=.ok (.tuple #[an ((c.getD i none).getD av),.bool (c.getD i none).isSome]) w:=by
 obtain ⟨D,h1,h3⟩:=h
 obtain ⟨v,ps,hrun,hv⟩:=h1.look_ok (t:=82) (e:=87) ju Tryz.underlying82 (wY w) (rK aa) (key:=.int .i64 (i:Int)) (keyOf_int_mk Tryz.underlying3 (wf_i64 (by omega) (by omega)))
 rw [hrun,dw.value h3 i hv,h3.has,Int.toNat_natCast]
 simp
theorem dw.Mm {w:World} {b:Nat} {c:List (Option (List UInt8))} (h:dw w b c) (i:Nat) (hi:i≤1000):
  (Instr.lookup 82 (.map (some b)) (.int .i64 (i:Int)) false).run Tryz.prog w=.ok (an ((c.getD i none).getD av)) w:=by
 obtain ⟨D,h1,h3⟩:=h
 obtain ⟨v,ps,hrun,hv⟩:=h1.lookup (t:=82) (e:=87) ju Tryz.underlying82 (wY w) (rK aa) (key:=.int .i64 (i:Int)) (keyOf_int_mk Tryz.underlying3 (wf_i64 (by omega) (by omega)))
 rw [hrun,dw.value h3 i hv]
theorem dw.len {w:World} {b:Nat} {c:List (Option (List UInt8))} (h:dw w b c) (ty:TypeId):(Builtin.len_ #[82] ty #[.map (some b)]).run Tryz.prog w=.ok (.int .i64 (c.countP (·.isSome):Nat)) w:=by
 obtain ⟨D,h1,h3⟩:=h
 rw [h1.len Tryz.underlying82,h3.size]
theorem count_set (c:List (Option (List UInt8))):∀ (i:Nat) (p:List UInt8),i<c.length→(c.set i (some p)).countP (·.isSome)=if (c.getD i none).isSome then c.countP (·.isSome) else c.countP (·.isSome)+1:=by
 induction c with
 | nil=>intro i p hi;simp at hi
 |
  cons a c ih=>
  intro i p hi
  cases i with
  |
   zero=>
   cases a <;> simp
  |
   succ i=>
   rw [List.set_cons_succ,List.countP_cons,List.countP_cons,ih i p (by simpa using hi)]
   simp only [List.getD_cons_succ]
   split <;> omega
theorem dw.store {w:World} {b:Nat} {c:List (Option (List UInt8))} (h:dw w b c) (i:Nat) (hi:i<c.length) (hc:c.length≤1000) {p:List UInt8} (hp:p.length=64):
  ∃ w',(Instr.mapUpdate 82 (.map (some b)) (.int .i64 (i:Int)) (an p)).run Tryz.prog w=.ok () w'∧dw w' b (c.set i (some p))∧w.mapTurned w' b:=by
 obtain ⟨D,h1,h3⟩:=h
 have hsz:Maps.size D≤c.length:=by rw [h3.size];exact List.countP_le_length
 obtain ⟨w',hrun,hown,hturn⟩:=h1.store (t:=82) (e:=87) ju Tryz.underlying82 (by unfold maxLen;omega) (key:=.int .i64 (i:Int)) (val:=an p) (keyOf_int_mk Tryz.underlying3 (wf_i64 (by omega) (by omega))) (rK hp)
 refine ⟨w',hrun,⟨_,tight hown,?_,?_,?_⟩,hturn⟩
 ·intro j
  by_cases e:j=(i:Int)
  ·subst e
   rw [has_put_same (k:=.int .i64 (i:Int)) h1.isMap trivial,Int.toNat_natCast,List.getD_eq_getElem?_getD,List.getElem?_set_self hi]
   simp
  ·rw [has_put_other (fun q=>e (by injection q)),h3.has]
   by_cases hj:0≤j
   ·have:i≠j.toNat:=by omega
    rw [List.getD_eq_getElem?_getD,List.getD_eq_getElem?_getD,List.getElem?_set_ne this]
   ·simp [hj]
 ·intro j q hq z
  by_cases e:i=j
  ·subst e
   rw [List.getD_eq_getElem?_getD,List.getElem?_set_self hi] at hq
   have hq':p=q:=by simpa using hq
   rw [atKey_put_same (k:=.int .i64 (i:Int)) h1.isMap trivial,hq']
  ·rw [List.getD_eq_getElem?_getD,List.getElem?_set_ne e,← List.getD_eq_getElem?_getD] at hq
   rw [atKey_put_other (fun k=>e (Int.ofNat_inj.1 (Lit.int.inj k).2.symm))]
   exact h3.held j q hq z
 ·rw [size_put (h1.tidy ju),h3.has,Int.toNat_natCast,count_set c i p hi,h3.size]
  simp
theorem dw.clear {w:World} {b:Nat} {c:List (Option (List UInt8))} (h:dw w b c) (n:Nat) (ty:TypeId):
  ∃ w',(Builtin.clear_ #[82] ty #[.map (some b)]).run Tryz.prog w=.ok (.tuple #[]) w'∧dw w' b (List.replicate n none)∧w.mapTurned w' b:=by
 obtain ⟨D,⟨es,clock,hb,F,hs,hD⟩,h3⟩:=h
 have hrun:(Builtin.clear_ #[82] ty #[.map (some b)]).run Tryz.prog w=.ok (.tuple #[]) (setBlock w b (.map #[] clock)):=by
  simp [Builtin.clear_,run_underlying Tryz.underlying82,MapKept.run_getObj_map hb,MapKept.run_setObj_map _ hb,Result.andThen]
  rfl
 refine ⟨_,hrun,?_,⟨es,clock,#[],clock,hb,rfl⟩⟩
 obtain ⟨D0,_,h0⟩:=jT w n
 refine ⟨.map [],⟨#[],clock,heap_setBlock_same hb _,⟨by unfold maxLen;simp,(stamped_iff _ _).2 ⟨by simp,by simp,by simp⟩,by simp⟩,by simp,rfl⟩,?_⟩
 refine ⟨?_,?_,?_⟩
 ·intro i
  rw [has_eq]
  simp [List.getElem?_replicate]
  split <;> simp
 ·intro i p hp
  rw [List.getD_eq_getElem?_getD,List.getElem?_replicate] at hp
  split at hp <;> cases hp
 ·simp [Maps.size,List.countP_replicate]
structure aG (w:World) (d l m:Nat) (s:Dk.St):Prop where
 ok:s.Ok
 dl:d≠l
 dm:d≠m
 lm:l≠m
 c0:w.cell? ⟨d,0,none⟩=some (.bool s.lim)
 c1:w.cell? ⟨d,1,none⟩=some (.int .i64 s.left)
 c2:w.cell? ⟨d,2,none⟩=some (.bool s.down)
 c3:w.cell? ⟨d,3,none⟩=some (.slice (some ⟨l,0,none⟩) s.last.length s.last.length)
 c4:w.cell? ⟨d,4,none⟩=some (.map (some m))
 f0:w.frozen? ⟨d,0,none⟩=false
 f1:w.frozen? ⟨d,1,none⟩=false
 f2:w.frozen? ⟨d,2,none⟩=false
 rows:bG w l s.last
 map:dw w m s.cache
theorem aG.blocks {w w':World} {d l m:Nat} {s:Dk.St} (h:aG w d l m s) (hd:w'.heap[d]?=w.heap[d]?) (hl:w'.heap[l]?=w.heap[l]?) (hm:w'.heap[m]?=w.heap[m]?):aG w' d l m s where
 ok:=h.ok
 dl:=h.dl
 dm:=h.dm
 lm:=h.lm
 c0:=(World.cell?_of_block (w:=w) (a:=⟨d,0,none⟩) hd).trans h.c0
 c1:=(World.cell?_of_block (w:=w) (a:=⟨d,1,none⟩) hd).trans h.c1
 c2:=(World.cell?_of_block (w:=w) (a:=⟨d,2,none⟩) hd).trans h.c2
 c3:=(World.cell?_of_block (w:=w) (a:=⟨d,3,none⟩) hd).trans h.c3
 c4:=(World.cell?_of_block (w:=w) (a:=⟨d,4,none⟩) hd).trans h.c4
 f0:=(World.frozen?_of_block (w:=w) (a:=⟨d,0,none⟩) hd).trans h.f0
 f1:=(World.frozen?_of_block (w:=w) (a:=⟨d,1,none⟩) hd).trans h.f1
 f2:=(World.frozen?_of_block (w:=w) (a:=⟨d,2,none⟩) hd).trans h.f2
 rows:=h.rows.block hl
 map:=h.map.block hm
theorem aG.dlt {w:World} {d l m:Nat} {s:Dk.St} (h:aG w d l m s):d<w.heap.size:=World.block_lt_of_cell? w _ h.c0
theorem aG.llt {w:World} {d l m:Nat} {s:Dk.St} (h:aG w d l m s):l<w.heap.size:=h.rows.lt h.ok.pos
theorem aG.mlt {w:World} {d l m:Nat} {s:Dk.St} (h:aG w d l m s):m<w.heap.size:=h.map.lt
theorem aG.only {w w':World} {d l m:Nat} {s:Dk.St} {L:List Nat} (h:aG w d l m s) (ho:aB L w w') (hd:d∉L) (hl:l∉L) (hm:m∉L):aG w' d l m s:=
 h.blocks (ho.block d h.dlt hd) (ho.block l h.llt hl) (ho.block m h.mlt hm)
theorem aG.below {w w':World} {d l m:Nat} {s:Dk.St} (h:aG w d l m s) (hb:Below w.heap.size w w'):aG w' d l m s:=
 h.only (L:=[]) (aB.below hb) (by simp) (by simp) (by simp)
theorem aG.alloc {w:World} {d l m:Nat} {s:Dk.St} (h:aG w d l m s) (o:Obj):aG (w.alloc o) d l m s:=h.below ((Below.refl _ _).alloc (Nat.le_refl _) _)
theorem aG.drew {w:World} {d l m:Nat} {s:Dk.St} (h:aG w d l m s):aG w.drew d l m s:=h.blocks rfl rfl rfl
theorem aG.drewN {w:World} {d l m:Nat} {s:Dk.St} (h:aG w d l m s) (n:Nat):aG (w.drewN n) d l m s:=h.blocks rfl rfl rfl
theorem aG.IM {w:World} {d l m:Nat} {s:Dk.St} (h:aG w d l m s) (b:Bool):aG (w.setCell ⟨d,2,none⟩ (.bool b)) d l m { s with down:=b } where
 ok:=⟨h.ok.same,h.ok.pos,h.ok.small,h.ok.dJ,h.ok.mI,h.ok.lo,h.ok.hi,h.ok.live⟩
 dl:=h.dl
 dm:=h.dm
 lm:=h.lm
 c0:=by rw [World.cell?_setCell_other _ _ _ _ (fun q=>by injection q with _ q;omega)];exact h.c0
 c1:=by rw [World.cell?_setCell_other _ _ _ _ (fun q=>by injection q with _ q;omega)];exact h.c1
 c2:=World.cell?_setCell_same' _ _ _ (by rw [h.c2];rfl)
 c3:=by rw [World.cell?_setCell_other _ _ _ _ (fun q=>by injection q with _ q;omega)];exact h.c3
 c4:=by rw [World.cell?_setCell_other _ _ _ _ (fun q=>by injection q with _ q;omega)];exact h.c4
 f0:=by rw [World.frozen?_setCell];exact h.f0
 f1:=by rw [World.frozen?_setCell];exact h.f1
 f2:=by rw [World.frozen?_setCell];exact h.f2
 rows:=h.rows.block (Below.heap_setCell _ _ _ _ (Ne.symm h.dl))
 map:=h.map.block (Below.heap_setCell _ _ _ _ (Ne.symm h.dm))
theorem aG.IK {w:World} {d l m:Nat} {s:Dk.St} (h:aG w d l m s) (x:Int) (hok:Dk.St.Ok { s with left:=x }):aG (w.setCell ⟨d,1,none⟩ (.int .i64 x)) d l m { s with left:=x } where
 ok:=hok
 dl:=h.dl
 dm:=h.dm
 lm:=h.lm
 c0:=by rw [World.cell?_setCell_other _ _ _ _ (fun q=>by injection q with _ q;omega)];exact h.c0
 c1:=World.cell?_setCell_same' _ _ _ (by rw [h.c1];rfl)
 c2:=by rw [World.cell?_setCell_other _ _ _ _ (fun q=>by injection q with _ q;omega)];exact h.c2
 c3:=by rw [World.cell?_setCell_other _ _ _ _ (fun q=>by injection q with _ q;omega)];exact h.c3
 c4:=by rw [World.cell?_setCell_other _ _ _ _ (fun q=>by injection q with _ q;omega)];exact h.c4
 f0:=by rw [World.frozen?_setCell];exact h.f0
 f1:=by rw [World.frozen?_setCell];exact h.f1
 f2:=by rw [World.frozen?_setCell];exact h.f2
 rows:=h.rows.block (Below.heap_setCell _ _ _ _ (Ne.symm h.dl))
 map:=h.map.block (Below.heap_setCell _ _ _ _ (Ne.symm h.dm))
theorem aG.KH {w w':World} {d l m:Nat} {s:Dk.St} (h:aG w d l m s) (hg:w.grownBy w' (some m)) {c:List (Option (List UInt8))} (hm:dw w' m c) (hok:Dk.St.Ok { s with cache:=c }):aG w' d l m { s with cache:=c }:=by
 have hd:=hg.block d h.dlt (fun e=>h.dm (by injection e))
 have hl:=hg.block l h.llt (fun e=>h.lm (by injection e))
 exact {
     ok:=hok,dl:=h.dl,dm:=h.dm,lm:=h.lm
     c0:=(World.cell?_of_block (w:=w) (a:=⟨d,0,none⟩) hd).trans h.c0
     c1:=(World.cell?_of_block (w:=w) (a:=⟨d,1,none⟩) hd).trans h.c1
     c2:=(World.cell?_of_block (w:=w) (a:=⟨d,2,none⟩) hd).trans h.c2
     c3:=(World.cell?_of_block (w:=w) (a:=⟨d,3,none⟩) hd).trans h.c3
     c4:=(World.cell?_of_block (w:=w) (a:=⟨d,4,none⟩) hd).trans h.c4
     f0:=(World.frozen?_of_block (w:=w) (a:=⟨d,0,none⟩) hd).trans h.f0
     f1:=(World.frozen?_of_block (w:=w) (a:=⟨d,1,none⟩) hd).trans h.f1
     f2:=(World.frozen?_of_block (w:=w) (a:=⟨d,2,none⟩) hd).trans h.f2
     rows:=h.rows.block hl,map:=hm }
end

section
open Go.RowKit
open Dk (av aa)
theorem gT {w:World} {d l m:Nat} {s:Dk.St} (h:aG w d l m s):Calls Tryz.prog 141 #[.pointer (some ⟨d,0,none⟩)] w fun e w'=>e=.returned (.int .i64 (s.last.length:Int))∧w=w':=by
 have c3:=h.c3
 clear h
 go_enter Tryz.func141,Tryz.ntmps141
 go_wp2
 go_ret
 exact ⟨rfl,rfl⟩
theorem GN (w:World):Calls Tryz.prog 96 #[.pointer none] w fun e w'=>e=.returned (.bool true)∧w=w':=by
 go_enter Tryz.func96,Tryz.ntmps96
 go_wp2
 go_ret
 exact ⟨rfl,rfl⟩
theorem lz {w:World} {d l m:Nat} {s:Dk.St} (h:aG w d l m s):Calls Tryz.prog 96 #[.pointer (some ⟨d,0,none⟩)] w fun e w'=>e=.returned (.bool s.down)∧w=w':=by
 have c2:=h.c2
 clear h
 go_enter Tryz.func96,Tryz.ntmps96
 go_wp2
 go_ret
 exact ⟨rfl,rfl⟩
theorem Gn {w:World} {d l m:Nat} {s:Dk.St} (h:aG w d l m s) (i:Int):Calls Tryz.prog 243 #[.pointer (some ⟨d,0,none⟩),.int .i64 i] w fun e w'=>e=.returned (.bool (Dk.hasB s.last.length i))∧w=w':=by
 have HP:=Lib.hid (gT h)
 clear h
 generalize s.last.length=n at HP ⊢
 by_cases h0:0≤i
 ·go_enter Tryz.func243,Tryz.ntmps243
  go_wp2_with (go_at_call 141;refine HP.out.mono ?_;rintro e w' ⟨rfl,rfl⟩)
  go_ret
  exact ⟨bS (by unfold Dk.hasB;rw [decide_eq_decide];omega),rfl⟩
 ·go_enter Tryz.func243,Tryz.ntmps243
  go_wp2
  go_ret
  exact ⟨bS (by unfold Dk.hasB;symm;rw [decide_eq_false_iff_not];omega),rfl⟩
theorem tD {w:World} {d l m:Nat} {s:Dk.St} (h:aG w d l m s) (i:Int):Calls Tryz.prog 204 #[.pointer (some ⟨d,0,none⟩),.int .i64 i] w fun e w'=>e=.returned (.int .i64 (Dk.dh s i))∧w=w':=by
 have HD:=Lib.hid (lz h)
 have HH:=Lib.hid (Gn h i)
 clear h
 unfold Dk.dh
 generalize s.down=b at HD ⊢
 generalize Dk.hasB s.last.length i=c at HH ⊢
 cases b
 ·cases c
  ·go_enter Tryz.func204,Tryz.ntmps204
   go_wp2_with (first
    | (go_at_call 96;refine HD.out.mono ?_;rintro e w' ⟨rfl,rfl⟩)
    | (go_at_call 243;refine HH.out.mono ?_;rintro e w' ⟨rfl,rfl⟩))
   go_ret
   exact ⟨rfl,rfl⟩
  ·go_enter Tryz.func204,Tryz.ntmps204
   go_wp2_with (first
    | (go_at_call 96;refine HD.out.mono ?_;rintro e w' ⟨rfl,rfl⟩)
    | (go_at_call 243;refine HH.out.mono ?_;rintro e w' ⟨rfl,rfl⟩))
   go_ret
   exact ⟨rfl,rfl⟩
 ·go_enter Tryz.func204,Tryz.ntmps204
  go_wp2_with (first
   | (go_at_call 96;refine HD.out.mono ?_;rintro e w' ⟨rfl,rfl⟩))
  go_ret
  exact ⟨rfl,rfl⟩
theorem td {w:World} {d l m:Nat} {s:Dk.St} (h:aG w d l m s):Calls Tryz.prog 234 #[.pointer (some ⟨d,0,none⟩)] w fun e w'=>
  e=.returned (.int .i64 (Dk.cn s))∧aG w' d l m (Dk.df s)∧aB [d] w w'∧w'.heap.size=w.heap.size:=by
 have c0:=h.c0
 have c1:=h.c1
 have f1:=h.f1
 have f2:=h.f2
 have c2:=h.c2
 have HL:=Lib.hid h.ok.lo
 have HI:=Lib.hid h.ok.hi
 by_cases hl:s.lim=true
 ·have h0:=h.ok.live hl
  rw [hl] at c0
  by_cases hz:s.left=0
  ·have HE:Hid (Dk.cn s=5):=Lib.hid (by unfold Dk.cn;rw [if_pos ⟨hl,hz⟩])
   have HS:Hid (Dk.df s={ s with down:=true }):=Lib.hid (by unfold Dk.df;rw [if_pos hl,if_pos hz])
   rw [hz] at c1
   have HD:=Lib.hid h
   clear h hl hz h0
   go_enter Tryz.func234,Tryz.ntmps234
   go_wp2
   go_ret
   exact ⟨iy HE.out.symm,by rw [HS.out];exact HD.out.IM true,(aB.refl _ _).setCell (by simp) _,by simp⟩
  ·have HE:Hid (Dk.cn s=0):=Lib.hid (by unfold Dk.cn;rw [if_neg (fun e=>hz e.2)])
   have HS:Hid (Dk.df s={ s with left:=s.left - 1 }):=Lib.hid (by unfold Dk.df;rw [if_pos hl,if_neg hz])
   have hb:(s.left == 0)=false:=by simpa using hz
   have HD:=Lib.hid h
   have HK:Hid (Dk.St.Ok { s with left:=s.left - 1 }):=Lib.hid (HS.out ▸ Dk.il h.ok)
   have h1:=h.ok.hi
   clear h hl hz
   go_enter Tryz.func234,Tryz.ntmps234
   go_wp2
   go_ret
   exact ⟨iy HE.out.symm,by rw [HS.out];exact HD.out.IK _ HK.out,(aB.refl _ _).setCell (by simp) _,by simp⟩
 ·have HE:Hid (Dk.cn s=0):=Lib.hid (by unfold Dk.cn;rw [if_neg (fun e=>hl e.1)])
  have HS:Hid (Dk.df s=s):=Lib.hid (by unfold Dk.df;rw [if_neg hl])
  have hb:s.lim=false:=by simpa using hl
  rw [hb] at c0
  have HD:=Lib.hid h
  clear h hl hb
  go_enter Tryz.func234,Tryz.ntmps234
  go_wp2
  go_ret
  exact ⟨iy HE.out.symm,by rw [HS.out];exact HD.out,aB.refl _ _,rfl⟩
end

section
open Go.RowKit
open Dk (av aa)
theorem wpList_load_row {ops:Array Oper} {rest:List Oper} {op:Oper} {a:Act} {Q:Exit→Act→World→Prop} {w:World} {b:Nat} {ps:List (List UInt8)} (h:bG w b ps) (i:Nat) {p:List UInt8} (hi:ps[i]?=some p) (hgd:op.guard=none) (x:Operand) (ho:op.op=.load 87 x)
  (hx:a.eval x=.pointer (some ⟨b,i*64,none⟩)) (hK:wpList Tryz.prog ops Q rest (a.put op.dst (an p)) w):wpList Tryz.prog ops Q (op::rest) a w:=
 wpList_load_mid hgd 87 x ho b (i*64) hx (ab p) _ (h.range i p hi) Tryz.underlying87 rfl (by rw [aY,aj,h.size p (List.mem_of_getElem? hi)]) hK
theorem wpList_store_row {ops:Array Oper} {rest:List Oper} {op:Oper} {a:Act} {Q:Exit→Act→World→Prop} {w:World} {b:Nat} {ps:List (List UInt8)} (h:bG w b ps) (i:Nat) (hi:i<ps.length) {p:List UInt8} (hp:p.length=64) (hgd:op.guard=none) (x y:Operand) (ho:op.op=.store 87 x y)
  (hx:a.eval x=.pointer (some ⟨b,i*64,none⟩)) (hy:a.eval y=an p) (hK:wpList Tryz.prog ops Q rest (a.put op.dst undef) (w.setCells b (i*64) (ab p))):wpList Tryz.prog ops Q (op::rest) a w:=
 wpList_store_mid hgd 87 x y ho b (i*64) (ab p).toArray hx hy (by rw [List.size_toArray,aj,hp];exact h.qZ i hi) (by rw [aY,List.size_toArray,aj,hp]) (all_oneCell_toArray (bV p)) (by simpa using hK)
theorem aD.block {w w':World} {b:Nat} {p:List UInt8} (h:aD w b p) (hb:w'.heap[b]?=w.heap[b]?):aD w' b p:=⟨h.len,cu h.range hb,ki h.free hb⟩
theorem aU (fn:Func) (s t:Nat) (hf:fn.results=#[.cell s 87,.tmp t]) {w:World} {b:Nat} {q:List UInt8} (tmps:Array Value) (h:aD w b q) (ht:tmps.getD s undef=.pointer (some ⟨b,0,none⟩)):
  (results fn tmps).run Tryz.prog w=.ok (.tuple #[an q,tmps.getD t undef]) w:=by
 have hl:=run_loadVar_mid (P:=Tryz.prog) w b 0 87 (ab q) _ h.range Tryz.underlying87 rfl (by rw [aY,aj,h.len])
 unfold results
 rw [hf]
 simp only [Array.mapM_eq_mapM_toList,List.mapM_cons,List.mapM_nil,ht,asAddr,Sem.run_bind,Sem.run_pure,Result.andThen_ok,hl,Sem.run_map]
 rfl
def cR (w:World) (n:Nat):World:=((w.alloc (.cells (eO n) 87)).alloc (.map #[] 0)).alloc (.cells #[.bool false,.int .i64 0,.bool false,.slice (some ⟨w.heap.size,0,none⟩) n n,.map (some (w.heap.size+1))] 84)
theorem rS (w:World) (n:Nat):(cR w n).heap.size=w.heap.size+3:=by unfold cR;simp
theorem pN (w:World) (n:Nat):Below w.heap.size w (cR w n):=
 (((Below.refl _ _).alloc (Nat.le_refl _) _).alloc (by simp) _).alloc (by simp;omega) _
theorem rT (w:World) (n:Nat) (h1:1≤n) (h2:n≤512):aG (cR w n) (w.heap.size+2) w.heap.size (w.heap.size+1) (Dk.fresh n):=by
 have hl:(Dk.fresh n).last.length=n:=by unfold Dk.fresh;simp
 have hs:((w.alloc (.cells (eO n) 87)).alloc (.map #[] 0)).heap.size=w.heap.size+2:=by simp
 have hr:bG (cR w n) w.heap.size (List.replicate n av):=by
  refine (lO w n 87).block ?_
  unfold cR
  rw [Below.heap_alloc _ _ _ (by simp;omega),Below.heap_alloc _ _ _ (by simp)]
 have hm:dw (cR w n) (w.heap.size+1) (List.replicate n none):=by
  have:=jT (w.alloc (.cells (eO n) 87)) n
  have e:(w.alloc (.cells (eO n) 87)).heap.size=w.heap.size+1:=by simp
  rw [e] at this
  refine this.block ?_
  unfold cR
  rw [Below.heap_alloc _ _ _ (by simp)]
 exact {
     ok:=Dk.yc h1 h2,dl:=by omega,dm:=by omega,lm:=by omega
     c0:=by unfold cR;simp [go_sem];rfl
     c1:=by unfold cR;simp [go_sem];rfl
     c2:=by unfold cR;simp [go_sem];rfl
     c3:=by unfold cR;rw [hl];simp [go_sem]
     c4:=by unfold cR;simp [go_sem]
     f0:=by unfold cR;simp [go_sem]
     f1:=by unfold cR;simp [go_sem]
     f2:=by unfold cR;simp [go_sem]
     rows:=hr,map:=hm }
theorem Jl (n:Nat) (w:World) (h1:1≤n) (h2:n≤512):Calls Tryz.prog 30 #[.int .i64 (n:Int)] w fun e w'=>e=.returned (.tuple #[.pointer (some ⟨w.heap.size+2,0,none⟩),.int .i64 0])∧w'=cR w n:=by
 have hmk:=gH w n (by omega)
 have hmm:=@run_makeMap Tryz.prog
 have k1:¬ (n:Int)<1:=by omega
 have k2:¬ (512:Int)<(n:Int):=by omega
 go_enter Tryz.func30,Tryz.ntmps30
 go_wp2
 go_ret2
 exact ⟨rfl,rfl⟩
end

section
open Go.RowKit
open Dk (av aa)
theorem zk (w:World) {d l m:Nat} {s:Dk.St} (h:aG w d l m s):aD (w.alloc (.cells zeroCells 87)) w.heap.size av∧Below w.heap.size w (w.alloc (.cells zeroCells 87))∧aG (w.alloc (.cells zeroCells 87)) d l m s∧w.heap.size<(w.alloc (.cells zeroCells 87)).heap.size:=
 ⟨di w 87,(Below.refl _ _).alloc (Nat.le_refl _) _,h.alloc _,by simp⟩
theorem rD {w:World} {d l m:Nat} {s:Dk.St} (h:aG w d l m s) (i:Int):Calls Tryz.prog 155 #[.pointer (some ⟨d,0,none⟩),.int .i64 i] w fun e w'=>e=.returned (.tuple #[an (Dk.gJ s i),.int .i64 (Dk.dh s i)])∧Below w.heap.size w w':=by
 have HS:=Lib.hid (zk w h)
 have HR:=Lib.hid (tD HS.out.2.2.1 i)
 rw [az] at HR
 by_cases c:Dk.dh s i=0
 ·obtain ⟨a0,a1⟩:=Dk.wv (Dk.lR c).2
  obtain ⟨k,rfl⟩:=Int.eq_ofNat_of_zero_le a0
  have HP:Hid (Dk.gJ s (k:Int)=Dk.nowAt s k):=Lib.hid (by unfold Dk.gJ;rw [if_pos c,Int.toNat_natCast])
  rw [c] at HR
  have hk:k<s.last.length:=by omega
  have hk2:k≤1000:=by have:=h.ok.small;omega
  have HN:=Lib.hid (Dk.oM h.ok hk)
  rw [c,HP.out]
  clear HP
  have HLK:=Lib.hid (fun (W:World) (hW:aG W d l m s)=>hW.map.look k hk2)
  clear c h a0 a1
  cases hc:Dk.bU s k with
  |
   some p=>
   have HC:Hid (s.cache.getD k none=some p):=Lib.hid hc
   have HNP:Hid (Dk.nowAt s k=p):=Lib.hid (by unfold Dk.nowAt;rw [hc];rfl)
   rw [HNP.out] at HN ⊢
   clear HNP hc
   go_enter Tryz.func155,Tryz.ntmps155
   go_wp2_with fail
   refine HR.out.mono ?_
   rintro e w' ⟨rfl,rfl⟩
   rw [← az]
   clear HR
   generalize w.alloc (.cells zeroCells 87)=w1 at HS ⊢
   have c4:=HS.out.2.2.1.c4
   have hlook:=HLK.out w1 HS.out.2.2.1
   rw [HC.out] at hlook
   simp only [Option.getD_some,Option.isSome_some] at hlook
   go_wp2_with (first
    | ((with_reducible refine aq rfl (.tmp 7) (.tmp 23) rfl rfl ?_ ?_ HN.out ?_);(exact rfl);(exact rfl);intro W2 hP hB2 hz2;clear hlook;have HZ2:=Lib.hid (HS.out.1.below hB2 HS.out.2.2.2))
    | (with_reducible refine ah hP rfl (.tmp 7) rfl rfl ?_)
    | (with_reducible refine ax HZ2.out HN.out rfl (.tmp 4) (.tmp 26) rfl rfl rfl ?_))
   exact bodyPost_ret (aU _ 4 5 rfl _ (HZ2.out.put _ HN.out) rfl) rfl ⟨rfl,below_setCells _ (Nat.le_refl _) _ _ _ (HS.out.2.1.trans (hB2.mono HS.out.2.1.size))⟩
  |
   none=>
   have HC:Hid (s.cache.getD k none=none):=Lib.hid hc
   obtain ⟨p,hp⟩:∃ p,s.last[k]?=some p:=⟨_,List.getElem?_eq_getElem hk⟩
   have HNP:Hid (Dk.nowAt s k=p):=Lib.hid (by unfold Dk.nowAt Dk.eG;rw [hc,List.getD_eq_getElem?_getD,hp];rfl)
   rw [HNP.out] at HN ⊢
   have HI:=Lib.hid hp
   clear HNP hc hp
   go_enter Tryz.func155,Tryz.ntmps155
   go_wp2_with fail
   refine HR.out.mono ?_
   rintro e w' ⟨rfl,rfl⟩
   rw [← az]
   clear HR
   generalize w.alloc (.cells zeroCells 87)=w1 at HS ⊢
   have c4:=HS.out.2.2.1.c4
   have hlook:=HLK.out w1 HS.out.2.2.1
   rw [HC.out] at hlook
   simp only [Option.getD_none,Option.isSome_none] at hlook
   go_wp2_with (first
    | ((with_reducible refine aq rfl (.tmp 7) (.tmp 23) rfl rfl ?_ ?_ aa ?_);(exact rfl);(exact rfl);intro W2 hP hB2 hz2;clear hlook;have HZ2:=Lib.hid (HS.out.1.below hB2 HS.out.2.2.2);have HD2:=Lib.hid (HS.out.2.2.1.below hB2);have c3:=HD2.out.c3)
    | (with_reducible refine wpList_load_row HD2.out.rows k HI.out rfl (.tmp 32) rfl rfl ?_)
    | (with_reducible refine ax HZ2.out HN.out rfl (.tmp 4) (.tmp 33) rfl rfl rfl ?_))
   exact bodyPost_ret (aU _ 4 5 rfl _ (HZ2.out.put _ HN.out) rfl) rfl ⟨rfl,below_setCells _ (Nat.le_refl _) _ _ _ (HS.out.2.1.trans (hB2.mono HS.out.2.1.size))⟩
 ·have HP:Hid (Dk.gJ s i=av):=Lib.hid (by unfold Dk.gJ;rw [if_neg c])
  rw [HP.out]
  have hne:(Dk.dh s i == 0)=false:=by simpa using c
  have hne2:(Dk.dh s i != 0)=true:=by simpa using c
  generalize Dk.dh s i=E at HR hne hne2 ⊢
  clear c h HP
  go_enter Tryz.func155,Tryz.ntmps155
  go_wp2_with fail
  refine HR.out.mono ?_
  rintro e w' ⟨rfl,rfl⟩
  rw [← az]
  clear HR
  generalize w.alloc (.cells zeroCells 87)=w1 at HS ⊢
  go_wp2_with ((with_reducible refine ax HS.out.1 aa rfl (.tmp 4) (.tmp 14) rfl rfl ?_ ?_);(exact rfl))
  exact bodyPost_ret (aU _ 4 5 rfl _ (HS.out.1.put _ aa) rfl) rfl ⟨rfl,below_setCells _ (Nat.le_refl _) _ _ _ HS.out.2.1⟩
theorem dN {ops:Array Oper} {rest:List Oper} {op:Oper} {a:Act} {Q:Act→Prop} {w:World} {b:Nat} {p:List UInt8} (hp:aD w b p) (hgd:op.guard=none) (x:Operand) (ho:op.op=.load 87 x)
  (hx:a.eval x=.pointer (some ⟨b,0,none⟩)) (h:wpStill Tryz.prog ops w Q rest (a.put op.dst (an p))):wpStill Tryz.prog ops w Q (op::rest) a:=by
 refine wpStill_step (fun K hK=>?_)
 have hw:Region.wanted op (yielded ops a.tmps)=true:=by simp only [Region.wanted,hgd]
 have hrun:(execOp a.eval op).run Tryz.prog w=.ok (.value (an p)) w:=by
  unfold execOp
  simp only [ho,hx,hp.Jr,Sem.run_bind,Sem.run_pure,Result.andThen_ok]
 rw [if_pos hw]
 unfold Oper.still
 rw [hrun]
 exact ⟨rfl,hK _ h⟩
theorem ef {ops:Array Oper} {rest:List Oper} {o:Oper} {a:Act} {Q:Exit→Act→World→Prop} {w:World} {b:Nat} {c:List (Option (List UInt8))} (h:dw w b c) (i:Nat) (hi:i<c.length) (hc:c.length≤1000) {p:List UInt8} (hp:p.length=64)
  (hgd:o.guard=none) (m x v:Operand) (hop:o.op=.mapUpdate 82 m x v) (hm:a.eval m=.map (some b)) (hx:a.eval x=.int .i64 (i:Int)) (hv:a.eval v=an p)
  (hK:∀ w',dw w' b (c.set i (some p))→w.mapTurned w' b→wpList Tryz.prog ops Q rest (a.put o.dst undef) w'):wpList Tryz.prog ops Q (o::rest) a w:=by
 refine wpList_plain hgd fun K' hK'=>?_
 obtain ⟨w',hrun,r1,r2⟩:=h.store i hi hc hp
 unfold Oper.wp
 simp [execOp,hop,hm,hx,hv,hrun,Result.andThen]
 exact hK' _ _ (hK w' r1 r2)
theorem nF {w:World} {d l m:Nat} {s:Dk.St} (h:aG w d l m s) (i:Int) (p:List UInt8) (hp:p.length=64):Calls Tryz.prog 196 #[.pointer (some ⟨d,0,none⟩),.int .i64 i,an p] w fun e w'=>
  e=.returned (.int .i64 (Dk.dg s i))∧aG w' d l m (Dk.write s i p)∧aB [d,m] w w':=by
 have HP:=Lib.hid hp
 have HQ:=Lib.hid (bF w p 87 hp)
 have HD:=Lib.hid (h.alloc (.cells (ab p).toArray 87))
 have HO:Hid (aB [d,m] w (w.alloc (.cells (ab p).toArray 87))):=Lib.hid ((aB.refl _ _).alloc _)
 have HR:=Lib.hid (tD HD.out i)
 have HS:=Lib.hid (td HD.out)
 have hne:w.heap.size≠d:=by have:=h.dlt;omega
 have HNE:=Lib.hid hne
 have hlt:w.heap.size<(w.alloc (.cells (ab p).toArray 87)).heap.size:=by simp
 have HLT:=Lib.hid hlt
 have HOK:=Lib.hid h.ok
 clear hp h hne hlt
 unfold an
 by_cases c:Dk.dh s i=0
 ·obtain ⟨a0,a1⟩:=Dk.wv (Dk.lR c).2
  obtain ⟨k,rfl⟩:=Int.eq_ofNat_of_zero_le a0
  rw [c] at HR
  have HK:Hid (k<s.last.length):=Lib.hid (by omega)
  have HW:Hid (Dk.dg s (k:Int)=Dk.cn s):=Lib.hid (by unfold Dk.dg;rw [if_pos c])
  by_cases e:Dk.cn s=0
  ·have HW2:Hid (Dk.write s (k:Int) p=Dk.put (Dk.df s) k p):=Lib.hid (by unfold Dk.write;rw [if_pos c,if_pos e,Int.toNat_natCast])
   rw [e] at HS
   rw [HW.out,HW2.out,e]
   clear a0 a1 c e HW HW2
   go_enter Tryz.func196,Tryz.ntmps196
   go_wp2_with fail
   generalize w.alloc (.cells (ab p).toArray 87)=w1 at HQ HD HO HR HS HLT ⊢
   refine HR.out.mono ?_
   rintro e w' ⟨rfl,rfl⟩
   go_wp2_with fail
   refine HS.out.mono ?_
   rintro e w2 ⟨rfl,hd2,ho2,hz2⟩
   have c4:=hd2.c4
   have HQ2:=Lib.hid (HQ.out.block (ho2.block _ HLT.out (by simpa using HNE.out)))
   have HD2:=Lib.hid hd2
   have HO2:=Lib.hid (HO.out.trans (ho2.mono (by simp)))
   clear hd2 ho2 hz2 HQ HD HO HR HS HLT
   go_wp2_with fail
   refine wp_region_still_tail 6 (by kernel_rfl) (by kernel_rfl) ?_
   simp only [List.take_succ_cons,List.take_zero,List.drop_succ_cons,List.drop_zero]
   change wpStill _ _ w2.drew (fun a'=>wpList _ _ _ _ a' w2.drew) _ _
   have c4':w2.drew.cell? ⟨d,4,none⟩=some (.map (some m)):=c4
   still_step
   still_step
   still_step
   still_step
   still_step
   refine dN (HQ2.out.block rfl) rfl (.tmp 5) rfl rfl ?_
   refine wpStill_nil ?_
   refine ef (HD2.out.map.block (w':=w2.drew) rfl) k (by rw [Dk.eQ,HOK.out.same];exact HK.out) (by rw [Dk.eQ,HOK.out.same];have:=HOK.out.small;omega) HP.out rfl (.tmp 25) (.tmp 26) (.tmp 27) rfl rfl rfl rfl ?_
   intro w3 hm3 ht3
   go_wp2
   go_ret
   refine ⟨rfl,HD2.out.drew.KH ht3.grown hm3 (Dk.Ie (Dk.il HOK.out) k HP.out),HO2.out.drew.trans (aB.grown ht3.grown (by simp))⟩
  ·have HW2:Hid (Dk.write s (k:Int) p=Dk.df s):=Lib.hid (by unfold Dk.write;rw [if_pos c,if_neg e])
   rw [HW.out,HW2.out]
   have hne2:(Dk.cn s == 0)=false:=by simpa using e
   have hne3:(Dk.cn s != 0)=true:=by simpa using e
   generalize Dk.cn s=E at HS hne2 hne3 ⊢
   clear a0 a1 c e HW HW2
   go_enter Tryz.func196,Tryz.ntmps196
   go_wp2_with fail
   generalize w.alloc (.cells (ab p).toArray 87)=w1 at HQ HD HO HR HS HLT ⊢
   refine HR.out.mono ?_
   rintro e w' ⟨rfl,rfl⟩
   go_wp2_with fail
   refine HS.out.mono ?_
   rintro e w2 ⟨rfl,hd2,ho2,hz2⟩
   go_wp2
   go_ret
   exact ⟨rfl,hd2,HO.out.trans (ho2.mono (by simp))⟩
 ·have HW:Hid (Dk.dg s i=Dk.dh s i):=Lib.hid (by unfold Dk.dg;rw [if_neg c])
  have HW2:Hid (Dk.write s i p=s):=Lib.hid (by unfold Dk.write;rw [if_neg c])
  rw [HW.out,HW2.out]
  have hne2:(Dk.dh s i == 0)=false:=by simpa using c
  have hne3:(Dk.dh s i != 0)=true:=by simpa using c
  generalize Dk.dh s i=E at HR hne2 hne3 ⊢
  clear c HW HW2
  go_enter Tryz.func196,Tryz.ntmps196
  go_wp2_with fail
  generalize w.alloc (.cells (ab p).toArray 87)=w1 at HQ HD HO HR HS HLT ⊢
  refine HR.out.mono ?_
  rintro e w' ⟨rfl,rfl⟩
  go_wp2
  go_ret
  exact ⟨rfl,HD.out,HO.out⟩
end

section
open Go.RowKit
open Dk (av aa)
end
end Go.Proofs.YtagfoogfpabdfaaGreat
