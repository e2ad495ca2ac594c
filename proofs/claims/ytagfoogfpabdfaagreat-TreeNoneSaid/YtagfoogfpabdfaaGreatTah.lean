/- Texts of the proof. -/
import Derived.Test.YtagfoogfpabdfaaGreatTab
import Derived.Test.YtagfoogfpabdfaaGreatTaf
import Derived.Test.YtagfoogfpabdfaaGreatTag
import Derived.BigQuiet
import Derived.Deep.QuietTactic
import Derived.Test.YtagfoogfpabdfaaGreatTaa
import Derived.Laws.IdiomStrings
import Derived.Laws.IdiomCopy
import Derived.Lib.SliceRun
set_option maxRecDepth 100000
set_option maxHeartbeats 16000000
namespace Go.Proofs.YtagfoogfpabdfaaGreat
section
open Go.RowKit
section
variable {P:Program} {ops:Array Oper} {Q:Exit→Act→World→Prop} {md:Region.Mode} {σ:Type} {S:σ→World→Prop} {sp:Nat→Bool} {vals:Nat→Value} {B:List PanicEntry→World→Prop}
theorem put_defers (a:Act) (d:Option Tmp) (v:Value):(a.put d v).defers=a.defers:=by
 cases d <;> rfl
def eK (P:Program) (m:Sem Next) (w:World) (R:Value→World→Prop) (B:List PanicEntry→World→Prop):Prop:=
 match m.run P w with
 | .ok (.value u) w'=>R u w'
 | .ok .skip w'=>R undef w'
 | .ok (.enter f args) w'=>Calls P f args w' fun e w''=>(∃ u,e=.returned u∧R u w'')∨(∃ ch,e=.panicked ch∧B ch w'')
 | _=>False
theorem eK.wp {o:Oper} {a:Act} {w:World} {R:Value→World→Prop} {K:Act→World→Prop} (h:eK P (execOp a.eval o) w R B) (hK:∀ u w',R u w'→K (a.put o.dst u) w') (hB:∀ ch w',B ch w'→Q (.panic ch) a w'):Oper.wp P o a w K Q:=by
 unfold eK at h
 unfold Oper.wp
 generalize (execOp a.eval o).run P w=r at *
 cases r with
 | halt x w'=>exact h.elim
 |
  ok n w'=>
  cases n <;> simp only [Oper.upon] at h ⊢
  case value u=>exact hK _ _ h
  case skip=>exact hK _ _ h
  case enter f args=>
   refine h.mono fun e w'' hh=>?_
   rcases hh with ⟨u,hu,hR⟩ | ⟨ch,hc,hb⟩
   ·subst hu
    exact hK _ _ hR
   ·subst hc
    exact hB _ _ hb
theorem cJ {m:Sem Next} {w:World} {R:Value→World→Prop} (h:dE P m w R):eK P m w R B:=by
 unfold dE at h
 unfold eK
 generalize m.run P w=r at *
 cases r with
 | halt x w'=>exact h
 |
  ok n w'=>
  cases n <;> simp only at h ⊢
  case value u=>exact h
  case skip=>exact h
  case enter f args=>exact h.mono fun e w'' hh=>Or.inl hh
theorem ky {m:Sem Next} {w:World} {R:Value→World→Prop} {f:FuncId} {args:Array Value} (h:m.run P w=.ok (.enter f args) w) (hR:Calls P f args w fun e w''=>(∃ u,e=.returned u∧R u w'')∨(∃ ch,e=.panicked ch∧B ch w'')):eK P m w R B:=by
 unfold eK;rw [h];exact hR
def fu (P:Program) (ops:Array Oper) (S:σ→World→Prop) (B:List PanicEntry→World→Prop) (s:σ) (o:Oper) (a:Act) (N:Value→σ→Prop):Prop:=
 Region.wanted o (yielded ops a.tmps)=true∧∀ w,S s w→eK P (execOp a.eval o) w (fun u w'=>∃ s',N u s'∧S s' w') B
theorem fu.put {oi oj:Oper} {s:σ} {u:Value} {N:Value→σ→Prop} {a:Act} (hs:∀ cs b,oi.op≠.select cs b) (h:∀ d,oj.dst=some d→d∉oi.looksAt ops) (hy:fu P ops S B s oi a N):fu P ops S B s oi (a.put oj.dst u) N:=by
 unfold fu at *
 rw [execOp_put oi hs a oj.dst u h,wanted_put oi a oj.dst u h]
 exact hy
theorem fu.sK {oi oj:Oper} {s:σ} {u:Value} {N:Value→σ→Prop} {a:Act} (hs:∀ cs b,oj.op≠.select cs b) (h:∀ d,oi.dst=some d→d∉oj.looksAt ops) (hy:fu P ops S B s oj (a.put oi.dst u) N):fu P ops S B s oj a N:=by
 unfold fu at *
 rw [execOp_put oj hs a oi.dst u h,wanted_put oj a oi.dst u h] at hy
 exact hy
def Gh (ops:Array Oper) (i:Nat):Bool:=(List.range ops.size).all fun k=>k == i || match ops[i]? with
 | some o=>o.after.any fun e=>Region.binds .any e && e.on == k
 | none=>false
def yu (md:Region.Mode) (ops:Array Oper) (i:Nat):Prop:=∀ listed,i∈Region.ready md ops listed→∀ k,k<ops.size→k≠i→listed.getD k true=true
inductive gF (P:Program) (md:Region.Mode) (ops:Array Oper) (Q:Exit→Act→World→Prop) (S:σ→World→Prop) (B:List PanicEntry→World→Prop) (sp:Nat→Bool) (vals:Nat→Value):Nat→σ→Array Bool→Act→Prop
 | done {n:Nat} {s:σ} {listed:Array Bool} {a:Act} (hr:Region.ready md ops listed=[]) (hQ:∀ w,S s w→Q .normal a w):gF P md ops Q S B sp vals n s listed a
 | ord {n:Nat} {s:σ} {listed:Array Bool} {a:Act} (i:Nat) (o:Oper) (hi:ops[i]?=some o) (hr:i∈Region.ready md ops listed) (hf:pI md ops listed i o) (hsp:sp i=false)
   (hy:ia P ops S o (vals i) a) (h:gF P md ops Q S B sp vals n s (listed.setIfInBounds i true) (a.put o.dst (vals i))):gF P md ops Q S B sp vals (n+1) s listed a
 | spec {n:Nat} {s:σ} {listed:Array Bool} {a:Act} (i:Nat) (o:Oper) (N:Value→σ→Prop) (hi:ops[i]?=some o) (hr:i∈Region.ready md ops listed) (hf:pI md ops listed i o) (hsp:sp i=true)
   (hw:∃ D:Nat→Bool,fI md ops sp listed i D)
   (hN:∃ u s',N u s') (hy:fu P ops S B s o a N) (h:∀ u s',N u s'→gF P md ops Q S B sp vals n s' (listed.setIfInBounds i true) (a.put o.dst u)):gF P md ops Q S B sp vals (n+1) s listed a
 | last {n:Nat} {s:σ} {listed:Array Bool} {a:Act} (i:Nat) (o:Oper) (hi:ops[i]?=some o) (hr:i∈Region.ready md ops listed) (hsp:sp i=true) (hl:yu md ops i)
   (hw:Region.wanted o (yielded ops a.tmps)=true) (hy:∀ w,S s w→eK P (execOp a.eval o) w (fun u w'=>Q .normal (a.put o.dst u) w') B):gF P md ops Q S B sp vals (n+1) s listed a
 | fork {n:Nat} {s:σ} {listed:Array Bool} {a:Act} (N:Nat→Value→σ→Prop) (hall:∀ j∈Region.ready md ops listed,sp j=true) (hne:Region.ready md ops listed≠[])
   (hy:∀ j o,j∈Region.ready md ops listed→ops[j]?=some o→fu P ops S B s o a (N j)) (h:∀ j o u s',j∈Region.ready md ops listed→ops[j]?=some o→N j u s'→gF P md ops Q S B sp vals n s' (listed.setIfInBounds j true) (a.put o.dst u)):gF P md ops Q S B sp vals (n+1) s listed a
variable (hsel:∀ (j:Nat) (o:Oper) cs b,ops[j]?=some o→o.op≠.select cs b)
include hsel
theorem gF.first:∀ (n:Nat) (s:σ) (listed:Array Bool) (a:Act) (j:Nat) (oj:Oper),gF P md ops Q S B sp vals n s listed a→j∈Region.ready md ops listed→ops[j]?=some oj→sp j=false →
  ia P ops S oj (vals j) a∧∃ m,n=m+1∧gF P md ops Q S B sp vals m s (listed.setIfInBounds j true) (a.put oj.dst (vals j)):=by
 intro n
 induction n with
 |
  zero=>
  intro s listed a j oj hl hj _ _
  cases hl with
  | done hr _=>rw [hr] at hj;cases hj
 |
  succ n ih=>
  intro s listed a j oj hl hj hoj hsj
  cases hl with
  | done hr _=>rw [hr] at hj;cases hj
  |
   ord i o hi hr hf hsp hy h=>
   by_cases hji:j=i
   ·subst hji
    rw [hi] at hoj
    injection hoj with hoj
    subst hoj
    exact ⟨hy,n,rfl,h⟩
   ·obtain ⟨h1,m,rfl,h2⟩:=ih _ _ _ j oj h (ready_mono hj hji) hoj hsj
    obtain ⟨a1,a2,a3⟩:=Oper.apart_spec (hf j oj hoj hji (mem_ready.1 hj).1 (fQ hr hj hoj))
    refine ⟨h1.sK (fun cs b=>hsel j oj cs b hoj) a1,m+1,rfl,gF.ord i o hi (ready_mono hr (Ne.symm hji)) hf.set hsp (hy.put (fun cs b=>hsel i o cs b hi) a3) ?_⟩
    rw [← Act.put_comm a _ _ a2,Array.setIfInBounds_comm _ _ hji]
    exact h2
  |
   spec i o N hi hr hf hsp hw hN hy h=>
   have hji:j≠i:=fun e=>by rw [e,hsp] at hsj;cases hsj
   obtain ⟨a1,a2,a3⟩:=Oper.apart_spec (hf j oj hoj hji (mem_ready.1 hj).1 (fQ hr hj hoj))
   obtain ⟨u0,s0,hN0⟩:=hN
   obtain ⟨h1,m,rfl,_⟩:=ih _ _ _ j oj (h u0 s0 hN0) (ready_mono hj hji) hoj hsj
   refine ⟨h1.sK (fun cs b=>hsel j oj cs b hoj) a1,m+1,rfl,gF.spec i o N hi (ready_mono hr (Ne.symm hji)) hf.set hsp (hw.imp fun _ hW=>hW.set hr hj) ⟨u0,s0,hN0⟩ (hy.put (fun cs b=>hsel i o cs b hi) a3) ?_⟩
   intro u s' hus
   obtain ⟨_,m',hm',h2⟩:=ih _ _ _ j oj (h u s' hus) (ready_mono hj hji) hoj hsj
   obtain rfl:m=m':=by omega
   rw [← Act.put_comm a _ _ a2,Array.setIfInBounds_comm _ _ hji]
   exact h2
  |
   last i o hi hr hsp hlo _ _=>
   have hji:j≠i:=fun e=>by rw [e,hsp] at hsj;cases hsj
   have h1:=hlo _ hr j (Array.getElem?_eq_some_iff.1 hoj).1 hji
   rw [(mem_ready.1 hj).1] at h1
   cases h1
  |
   fork N hall=>
   rw [hall j hj] at hsj
   cases hsj
theorem gF.turns:∀ (n:Nat) (s:σ) (listed:Array Bool) (a:Act) (j:Nat) (oj:Oper),gF P md ops Q S B sp vals n s listed a→j∈Region.ready md ops listed→ops[j]?=some oj→sp j=true →
  (∃ N,fu P ops S B s oj a N∧∃ m,n=m+1∧∀ u s',N u s'→gF P md ops Q S B sp vals m s' (listed.setIfInBounds j true) (a.put oj.dst u)) ∨
  (yu md ops j∧Region.wanted oj (yielded ops a.tmps)=true∧∀ w,S s w→eK P (execOp a.eval oj) w (fun u w'=>Q .normal (a.put oj.dst u) w') B):=by
 intro n
 induction n with
 |
  zero=>
  intro s listed a j oj hl hj _ _
  cases hl with
  | done hr _=>rw [hr] at hj;cases hj
 |
  succ n ih=>
  intro s listed a j oj hl hj hoj hsj
  cases hl with
  | done hr _=>rw [hr] at hj;cases hj
  |
   ord i o hi hr hf hsp hy h=>
   have hji:j≠i:=fun e=>by rw [e,hsp] at hsj;cases hsj
   rcases ih _ _ _ j oj h (ready_mono hj hji) hoj hsj with ⟨N,h1,m,rfl,h2⟩ | ⟨hlo,_⟩
   case inr=>
    have h1:=hlo _ hj i (Array.getElem?_eq_some_iff.1 hi).1 (Ne.symm hji)
    rw [(mem_ready.1 hr).1] at h1
    cases h1
   obtain ⟨a1,a2,a3⟩:=Oper.apart_spec (hf j oj hoj hji (mem_ready.1 hj).1 (fQ hr hj hoj))
   refine Or.inl ⟨N,h1.sK (fun cs b=>hsel j oj cs b hoj) a1,m+1,rfl,fun u s' hus=>gF.ord i o hi (ready_mono hr (Ne.symm hji)) hf.set hsp (hy.put (fun cs b=>hsel i o cs b hi) a3) ?_⟩
   rw [← Act.put_comm a _ _ a2,Array.setIfInBounds_comm _ _ hji]
   exact h2 u s' hus
  |
   spec i o N hi hr hf hsp hw hN hy h=>
   by_cases hji:j=i
   ·subst hji
    rw [hi] at hoj
    injection hoj with hoj
    subst hoj
    exact Or.inl ⟨N,hy,n,rfl,h⟩
   ·obtain ⟨D,hW⟩:=hw
    have h1:=hW.1 j oj hoj hsj hji (mem_ready.1 hj).1
    rw [hW.oN hr hj] at h1
    cases h1
  |
   last i o hi hr hsp hlo hw hy=>
   by_cases hji:j=i
   ·subst hji
    rw [hi] at hoj
    injection hoj with hoj
    subst hoj
    exact Or.inr ⟨hlo,hw,hy⟩
   ·have h1:=hlo _ hr j (Array.getElem?_eq_some_iff.1 hoj).1 hji
    rw [(mem_ready.1 hj).1] at h1
    cases h1
  | fork N hall hne hy h=>exact Or.inl ⟨N j,hy j oj hj hoj,n,rfl,fun u s' hu=>h j oj u s' hj hoj hu⟩
omit hsel in
theorem Df {n i:Nat} {listed:Array Bool} {a:Act} {w:World} (hlo:yu md ops i) (hr:i∈Region.ready md ops listed) (h:Q .normal a w):wpAny P md ops Q n (listed.setIfInBounds i true) a w:=by
 have hz:Region.ready md ops (listed.setIfInBounds i true)=[]:=by
  rw [List.eq_nil_iff_forall_not_mem]
  intro k hk
  obtain ⟨h1,ok,h2,_⟩:=mem_ready.1 hk
  have hkl:=(Array.getElem?_eq_some_iff.1 h2).1
  by_cases e:k=i
  ·subst e
   have hu:=(mem_ready.1 hr).1
   have hks:k<listed.size:=by
    rcases Nat.lt_or_ge k listed.size with c | c
    ·exact c
    ·simp [Array.getElem?_eq_none c] at hu
   simp [hks] at h1
  ·have:=hlo _ hr k hkl e
   rw [getD_set_ne true (Ne.symm e)] at h1
   rw [this] at h1
   cases h1
 cases n with
 | zero=>exact ⟨hz,h⟩
 | succ n=>exact ⟨fun _=>h,fun j hj=>by rw [hz] at hj;cases hj⟩
theorem gF.any {D:List Deferred} (hB:∀ ch (a:Act) w,a.defers=D→B ch w→Q (.panic ch) a w):∀ (n:Nat) (s:σ) (listed:Array Bool) (a:Act) (w:World),gF P md ops Q S B sp vals n s listed a→S s w→a.defers=D→wpAny P md ops Q n listed a w:=by
 intro n
 induction n with
 |
  zero=>
  intro s listed a w hl hS hD
  cases hl with
  | done hr hQ=>exact ⟨hr,hQ w hS⟩
 |
  succ n ih=>
  intro s listed a w hl hS hD
  refine ⟨fun h=>?_,fun j hj=>?_⟩
  ·cases hl with
   | done hr hQ=>exact hQ w hS
   | ord i o hi hr=>rw [h] at hr;cases hr
   | spec i o N hi hr=>rw [h] at hr;cases hr
   | last i o hi hr=>rw [h] at hr;cases hr
   | fork N hall hne=>exact absurd h hne
  ·obtain ⟨_,oj,hoj,_⟩:=mem_ready.1 hj
   unfold wpOp
   simp only [hoj]
   cases hsj:sp j with
   |
    false=>
    obtain ⟨h1,m,hm,h2⟩:=gF.first hsel _ _ _ _ j oj hl hj hoj hsj
    obtain rfl:n=m:=by omega
    rcases h1 with ⟨hw,hg⟩ | ⟨hw,hv⟩
    ·rw [if_pos hw]
     refine Or.inl ((hg s w hS).wp fun u w' ⟨hu,hS'⟩=>?_)
     subst hu
     exact ih _ _ _ _ h2 hS' ((put_defers _ _ _).trans hD)
    ·rw [if_neg (by rw [hw];exact Bool.false_ne_true)]
     rw [hv] at h2
     exact ih _ _ _ _ h2 hS ((put_defers _ _ _).trans hD)
   |
    true=>
    rcases gF.turns hsel _ _ _ _ j oj hl hj hoj hsj with ⟨N,⟨hw,hg⟩,m,hm,h2⟩ | ⟨hlo,hw,hg⟩
    case inr=>
     rw [if_pos hw]
     exact Or.inl ((hg w hS).wp (fun u w' hq=>Df hlo hj hq) (fun ch w' hb=>hB ch a w' hD hb))
    obtain rfl:n=m:=by omega
    rw [if_pos hw]
    exact Or.inl ((hg w hS).wp (fun u w' ⟨s',hu,hS'⟩=>ih _ _ _ _ (h2 u s' hu) hS' ((put_defers _ _ _).trans hD)) (fun ch w' hb=>hB ch a w' hD hb))
end
section
variable {P:Program} {ops:Array Oper} {Q:Exit→Act→World→Prop} {σ:Type} {S:σ→World→Prop} {sp:Nat→Bool} {vals:Nat→Value} {B:List PanicEntry→World→Prop}
theorem aO {id:Nat} {a:Act} {w:World} (S:σ→World→Prop) (B:List PanicEntry→World→Prop) (sp:Nat→Bool) (vals:Nat→Value) (s:σ) (hm:P.follows .mixedOrders=true) (hs:Region.noSelect ops=true) (hB:∀ ch (a':Act) w',a'.defers=a.defers→B ch w'→Q (.panic ch) a' w') (hS:S s w.drew)
  (h:gF P .any ops Q S B sp vals ops.size s (Array.replicate ops.size false) a):(Code.region id ops true).wp P Q a w:=
 wp_region_any hm (gF.any (Region.noSelect_spec hs) hB _ _ _ _ _ h hS rfl)
theorem ag {n:Nat} {s:σ} {listed:Array Bool} {a:Act} {i:Nat} {o:Oper} {v:Value} {d:Option Tmp} (hi:ops[i]?=some o) (hd:o.dst=d) (hr:(Region.ready .any ops listed).contains i=true) (hf:Region.free .any ops listed i=true) (hsp:sp i=false) (hv:vals i=v)
  (hy:ia P ops S o v a) (h:gF P .any ops Q S B sp vals n s (listed.setIfInBounds i true) (a.put d v)):gF P .any ops Q S B sp vals (n+1) s listed a:=
 gF.ord i o hi (by simpa using hr) (Region.free_spec hi hf) hsp (hv ▸ hy) (by rw [hd,hv];exact h)
theorem bw {n:Nat} {s:σ} {listed:Array Bool} {a:Act} {i:Nat} {o:Oper} {d:Option Tmp} (N:Value→σ→Prop) (hi:ops[i]?=some o) (hd:o.dst=d) (hr:(Region.ready .any ops listed).contains i=true) (hf:Region.free .any ops listed i=true) (hsp:sp i=true)
  (hw:yC ops sp listed i=true) (hN:∃ u s',N u s') (hwa:Region.wanted o (yielded ops a.tmps)=true) (hy:∀ w,S s w→eK P (execOp a.eval o) w (fun u w'=>∃ s',N u s'∧S s' w') B)
  (h:∀ u s',N u s'→gF P .any ops Q S B sp vals n s' (listed.setIfInBounds i true) (a.put d u)):gF P .any ops Q S B sp vals (n+1) s listed a:=
 gF.spec i o N hi (by simpa using hr) (Region.free_spec hi hf) hsp ⟨_,mz hw⟩ hN ⟨hwa,hy⟩ (by rw [hd];exact h)
theorem cO {n:Nat} {s:σ} {listed:Array Bool} {a:Act} {i:Nat} {o:Oper} {d:Option Tmp} (D:List Nat) (N:Value→σ→Prop) (hi:ops[i]?=some o) (hd:o.dst=d) (hr:(Region.ready .any ops listed).contains i=true) (hf:Region.free .any ops listed i=true) (hsp:sp i=true)
  (hw:EO ops sp listed i D=true) (hN:∃ u s',N u s') (hwa:Region.wanted o (yielded ops a.tmps)=true) (hy:∀ w,S s w→eK P (execOp a.eval o) w (fun u w'=>∃ s',N u s'∧S s' w') B)
  (h:∀ u s',N u s'→gF P .any ops Q S B sp vals n s' (listed.setIfInBounds i true) (a.put d u)):gF P .any ops Q S B sp vals (n+1) s listed a:=
 gF.spec i o N hi (by simpa using hr) (Region.free_spec hi hf) hsp ⟨_,pX hw⟩ hN ⟨hwa,hy⟩ (by rw [hd];exact h)
theorem Ab {i:Nat} (h:Gh ops i=true):yu .any ops i:=by
 intro listed hr k hk hne
 obtain ⟨_,o,ho,hall⟩:=mem_ready.1 hr
 simp only [Gh,List.all_eq_true,List.mem_range] at h
 have h1:=h k hk
 simp only [ho,Bool.or_eq_true,beq_iff_eq,hne,false_or] at h1
 obtain ⟨e,he,hb⟩:=Array.any_eq_true'.1 h1
 simp only [Bool.and_eq_true,beq_iff_eq] at hb
 have:=hall e he hb.1
 rw [hb.2] at this
 rcases Nat.lt_or_ge k listed.size with c | c
 ·simp [c] at this ⊢;exact this
 ·simp [Array.getElem?_eq_none c]
theorem jt {n:Nat} {s:σ} {listed:Array Bool} {a:Act} {i:Nat} {o:Oper} {d:Option Tmp} (hi:ops[i]?=some o) (hd:o.dst=d) (hr:(Region.ready .any ops listed).contains i=true) (hsp:sp i=true) (hl:Gh ops i=true)
  (hwa:Region.wanted o (yielded ops a.tmps)=true) (hy:∀ w,S s w→eK P (execOp a.eval o) w (fun u w'=>Q .normal (a.put d u) w') B):gF P .any ops Q S B sp vals (n+1) s listed a:=
 gF.last i o hi (by simpa using hr) hsp (Ab hl) hwa (by rw [hd];exact hy)
theorem cH {n:Nat} {s:σ} {listed:Array Bool} {a:Act} (hr:Region.ready .any ops listed=[]) (hQ:∀ w,S s w→Q .normal a w):gF P .any ops Q S B sp vals n s listed a:=gF.done hr hQ
end
end

section
open Go.RowKit Go.Maps
open Dk (av aa)
open Ii (Ino)
def nv (s:Sto) (i:Nat):List UInt8:=(jZ s i).getD (s.dk.last.getD i [])
structure Vs (s:Sto) (n I:Int):Prop where
 snd:Sound s
 a:s.a=1
 z:s.z=40
 r:s.r=37
 len:(s.dk.last.length:Int)=n
 pl:Pl.aA n I=true
def okP (n i:Int):Prop:=0≤i∧i<n∧(i<1∨41≤i)
theorem Vs.bd {s:Sto} {n I:Int} (h:Vs s n I):1≤I∧I≤128∧n≤512∧Pl.aS I<n∧44≤Pl.aS I∧Pl.aS I≤107:=by
 obtain ⟨h1,h2,h3,h4⟩:=Pl.aW h.pl
 have:=Pl.dZ h1 h2
 exact ⟨h1,h2,h3,h4,this.1,this.2⟩
theorem Vs.other {s:Sto} {n I i:Int} (h:Vs s n I) (hi:okP n i):cG s.dk.last.length s.a s.z i=true:=by
 unfold okP at hi
 unfold cG
 rw [decide_eq_true_iff,h.a,h.z,h.len]
 omega
theorem Vs.reach {s:Sto} {n I i:Int} (h:Vs s n I) (hi:okP n i):cr s i=0:=by
 unfold cr
 rw [if_neg (by rw [h.snd.up];simp),if_pos (h.other hi)]
theorem Bs {s:Sto} (ho:s.Ok) (hd:s.dk.Ok) (i:Int):(gy s i).length=64:=by
 unfold gy
 split
 ·unfold jZ
  cases e1:s.step.getD i.toNat none with
  | some p=>exact (ho.spg _ _ e1).1
  |
   none=>
   cases e2:s.group.getD i.toNat none with
   | some p=>exact (ho.gpg _ _ e2).1
   | none=>exact Dk.ot hd i
 ·exact aa
theorem Vs.read {s:Sto} {n I i:Int} (h:Vs s n I) (hi:okP n i):gy s i=nv s i.toNat∧ji s i=0∧(nv s i.toNat).length=64:=by
 have hr:=h.reach hi
 obtain ⟨k,rfl⟩:=Int.eq_ofNat_of_zero_le hi.1
 have hk:k<s.dk.last.length:=by have:=h.len;have:=hi.2.1;omega
 have e:gy s (k:Int)=nv s k:=by
  unfold gy nv
  rw [if_pos hr,Int.toNat_natCast,lQ h.snd.cl hk]
 rw [Int.toNat_natCast]
 refine ⟨e,?_,?_⟩
 ·unfold ji
  rw [if_pos hr]
  split
  ·rfl
  ·exact Dk.kZ h.snd.cl.up (Dk.pa hk)
 ·rw [← e];exact Bs h.snd.ok h.snd.cl.ok _
structure nh (s s':Sto) (L:List Nat):Prop where
 same:s'={ s with step:=s'.step }
 dom:Fs.Dom s.step s'.step L
theorem nh.refl (s:Sto):nh s s []:=⟨rfl,Fs.Dom.refl _⟩
theorem nh.trans {s s' s'':Sto} {L L':List Nat} (h:nh s s' L) (k:nh s' s'' L'):nh s s'' (L++L'):=
 ⟨by rw [k.same,h.same],h.dom.trans k.dom⟩
theorem Vs.Ms {s s':Sto} {n I:Int} {L:List Nat} (h:Vs s n I) (g:nh s s' L) (hok:s'.Ok):Vs s' n I:=by
 rw [g.same] at hok ⊢
 exact ⟨h.snd.step hok,h.a,h.z,h.r,h.len,h.pl⟩
theorem La {s:Sto} {i:Nat} {p:List UInt8} (hi:i<s.step.length):nv { s with step:=s.step.set i (some p) }=Fs.upd (nv s) i p:=by
 funext j
 unfold nv Fs.upd jZ
 simp only
 rw [jQ _ _ _ _ hi]
 by_cases e:i=j
 ·subst e;simp
 ·rw [if_neg e,if_neg (fun q=>e q.symm)]
theorem Vs.put {s:Sto} {n I i:Int} {p:List UInt8} (h:Vs s n I) (hi:okP n i) (hp:p.length=64):
  (mT s i=0∧nv (tc s i p)=Fs.upd (nv s) i.toNat p∧nh s (tc s i p) [i.toNat]∧Vs (tc s i p) n I) ∨
  (mT s i=28∧tc s i p=s∧s.r<Fs.uZ s.step [i.toNat]):=by
 have hr:=h.reach hi
 obtain ⟨k,rfl⟩:=Int.eq_ofNat_of_zero_le hi.1
 have hk:k<s.step.length:=by rw [h.snd.ok.AD];have:=h.len;have:=hi.2.1;omega
 unfold mT tc
 unfold mT
 rw [if_pos hr,Int.toNat_natCast]
 by_cases c:(s.step.getD k none).isSome=false∧s.r≤ey s.step
 ·right
  rw [if_pos c,if_neg (by decide)]
  refine ⟨rfl,rfl,?_⟩
  rw [Fs.GQ _ _ hk,if_neg (by rw [c.1];decide)]
  omega
 ·left
  rw [if_neg c,if_pos rfl]
  have hg:nh s { s with step:=s.step.set k (some p) } [k]:=⟨rfl,Fs.Dom.set _ _ _ hk⟩
  exact ⟨rfl,La hk,hg,h.Ms hg (Bu h.snd.ok hp (h.other hi) c)⟩
def eN (st:Nat) (n I:Int):List Value:=[.pointer (some ⟨st,0,none⟩),.int .i64 n,.int .i64 I]
def bW (st:Nat) (n I:Int):Value:=.agg #[.pointer (some ⟨st,0,none⟩),.int .i64 n,.int .i64 I]
def gO (st:Nat) (n I:Int) (doing:Bool) (failed:Int):List Value:=[.pointer (some ⟨st,0,none⟩),.int .i64 n,.int .i64 I,.bool doing,.int .i64 failed]
def Hu (st:Nat) (n I:Int) (steps:Int):List Value:=[.pointer (some ⟨st,0,none⟩),.int .i64 n,.int .i64 I,.int .i64 steps]
structure Ctx (w:World) (B:Nat) (b:Blk) (s:Sto) (n I:Int):Prop where
 step:au w B (gO b.s n I true 0)
 store:ay w b s
 vs:Vs s n I
 nb:B∉b.all
theorem Ctx.below {w w':World} {B:Nat} {b:Blk} {s:Sto} {n I:Int} (h:Ctx w B b s n I) (hb:Below w.heap.size w w'):Ctx w' B b s n I:=
 ⟨h.step.step hb,h.store.below hb,h.vs,h.nb⟩
theorem Ctx.only {w w':World} {B:Nat} {b:Blk} {s:Sto} {n I:Int} {L:List Nat} (h:Ctx w B b s n I) (ho:aB L w w') (hB:B∉L) (hL:∀ k∈b.all,k∉L):Ctx w' B b s n I:=
 ⟨h.step.block (ho.block B h.step.lt hB),h.store.only ho hL,h.vs,h.nb⟩
theorem Ctx.lt {w:World} {B:Nat} {b:Blk} {s:Sto} {n I:Int} (h:Ctx w B b s n I):B<w.heap.size:=h.step.lt
structure gq (w:World) (B:Nat) (b:Blk) (s:Sto) (n I er:Int):Prop where
 step:au w B (gO b.s n I true er)
 store:∃ s',ay w b s'∧s'={ s with step:=s'.step }
def DO (B:Nat):Value:=.iface 156 (.agg #[.pointer (some ⟨B,0,none⟩)])
def bn (B:Nat):PanicEntry:={ v:=DO B,recovered:=false }
def eo {α:Type} (s:Sto) (m:Fs.M α) (er:Int):Prop:=(∃ V L,m (nv s)=(.error er,V,L))∨(er=28∧s.r<Fs.uZ s.step (m (nv s)).2.2)
def Ends {α:Type} (B:Nat) (b:Blk) (n I:Int) (Ls:List Nat) (w0:World) (s:Sto) (m:Fs.M α) (K:α→Ending→World→Prop) (e:Ending) (w':World):Prop:=
 (∃ a s' L,m (nv s)=(.ok a,nv s',L)∧nh s s' L∧Ctx w' B b s' n I∧K a e w'∧aB (b.t::Ls) w0 w') ∨
 (∃ er,eo s m er∧er≠0∧gq w' B b s n I er∧e=.panicked [bn B]∧aB (B::b.t::Ls) w0 w')
theorem eo.bind {α β:Type} {s:Sto} {m:Fs.M α} {f:α→Fs.M β} {er:Int} (h:eo s m er):eo s (Fs.andThen m f) er:=by
 rcases h with ⟨V,L,h⟩ | ⟨h1,h2⟩
 ·exact Or.inl ⟨V,L,Fs.kC h⟩
 ·refine Or.inr ⟨h1,?_⟩
  obtain ⟨L,e⟩:=Fs.wT m f (nv s)
  rw [e]
  exact Nat.lt_of_lt_of_le h2 (Fs.DY _ _ _)
theorem eo.next {α β:Type} {s s1:Sto} {m:Fs.M α} {f:α→Fs.M β} {a:α} {L:List Nat} {er:Int} (E:m (nv s)=(.ok a,nv s1,L)) (G:nh s s1 L) (h:eo s1 (f a) er):eo s (Fs.andThen m f) er:=by
 rcases h with ⟨V,L1,h⟩ | ⟨h1,h2⟩
 ·exact Or.inl ⟨V,L++L1,by rw [Fs.andThen_ok E,h]⟩
 ·refine Or.inr ⟨h1,?_⟩
  rw [Fs.andThen_ok E]
  simp only
  rw [G.dom.uZ] at h2
  have:s1.r=s.r:=by rw [G.same]
  rwa [this] at h2
theorem gq.Ms {w:World} {B:Nat} {b:Blk} {s s1:Sto} {n I er:Int} {L:List Nat} (h:gq w B b s1 n I er) (G:nh s s1 L):gq w B b s n I er:=
 ⟨h.step,by
  obtain ⟨s',h1,h2⟩:=h.store
  exact ⟨s',h1,by rw [h2,G.same]⟩⟩
theorem Ends.next {α β:Type} {B:Nat} {b:Blk} {n I:Int} {Ls:List Nat} {w0:World} {s s1:Sto} {m:Fs.M α} {f:α→Fs.M β} {K:β→Ending→World→Prop} {a:α} {L:List Nat} (E:m (nv s)=(.ok a,nv s1,L)) (G:nh s s1 L) {e:Ending} {w':World}
  (h:Ends B b n I Ls w0 s1 (f a) K e w'):Ends B b n I Ls w0 s (Fs.andThen m f) K e w':=by
 rcases h with ⟨c,s',L',E',G',C,hK,O⟩ | ⟨er,F,h0,R,he,O⟩
 ·exact Or.inl ⟨c,s',L++L',by rw [Fs.andThen_ok E,E'],G.trans G',C,hK,O⟩
 ·exact Or.inr ⟨er,F.next E G,h0,R.Ms G,he,O⟩
theorem Ends.Kc {α β:Type} {B:Nat} {b:Blk} {n I:Int} {Ls:List Nat} {w0 w':World} {s:Sto} {m:Fs.M α} {f:α→Fs.M β} {K:β→Ending→World→Prop} {er:Int} (F:eo s m er) (h0:er≠0) (R:gq w' B b s n I er) (O:aB (B::b.t::Ls) w0 w'):
  Ends B b n I Ls w0 s (Fs.andThen m f) K (.panicked [bn B]) w':=Or.inr ⟨er,F.bind,h0,R,rfl,O⟩
theorem Ends.done {α:Type} {B:Nat} {b:Blk} {n I:Int} {Ls:List Nat} {w0 w':World} {s:Sto} {K:α→Ending→World→Prop} {a:α} {e:Ending} (C:Ctx w' B b s n I) (hK:K a e w') (O:aB (b.t::Ls) w0 w'):Ends B b n I Ls w0 s (Fs.ret a) K e w':=
 Or.inl ⟨a,s,[],rfl,nh.refl s,C,hK,O⟩
theorem aB.via {L L':List Nat} {w0 w w':World} (h:aB L w0 w) (k:aB L' w w') (hL:∀ i∈L',i∈L∨w0.heap.size≤i):aB L w0 w' where
 os:=k.os.trans h.os
 tape:=k.tape.trans h.tape
 output:=k.output.trans h.output
 size:=Nat.le_trans h.size k.size
 block:=fun i hi hn=>(k.block i (Nat.lt_of_lt_of_le hi h.size) (fun q=>by
  rcases hL i q with x | x
  ·exact hn x
  ·omega)).trans (h.block i hi hn)
end

section
open Go.RowKit Go.Maps
open Dk (av aa)
open Ii (Ino)
theorem aQ {P:Program} {f:FuncId} {args:Array Value} {w:World} {Q:Ending→World→Prop} (h:∀ R:Ending→World→Prop,Hid (∀ e w',Q e w'→R e w')→Calls P f args w R):Calls P f args w Q:=
 h Q (Lib.hid fun _ _ x=>x)
theorem dT {w:World} {B:Nat} {b:Blk} {s:Sto} {n I:Int} (h:Ctx w B b s n I):Calls Tryz.prog 117 #[.pointer (some ⟨B,0,none⟩)] w fun e w'=>e=.returned (.bool true)∧w=w':=by
 have c3:w.cell? ⟨B,3,none⟩=some (.bool true):=h.step.cell 3 _ rfl
 have c4:w.cell? ⟨B,4,none⟩=some (.int .i64 0):=h.step.cell 4 _ rfl
 clear h
 go_enter Tryz.func117,Tryz.ntmps117
 go_wp2
 go_ret
 exact ⟨rfl,rfl⟩
theorem Ctx.fail {w:World} {B:Nat} {b:Blk} {s:Sto} {n I:Int} (h:Ctx w B b s n I) (er:Int):gq (w.setCell ⟨B,4,none⟩ (.int .i64 er)) B b s n I er∧aB [B] w (w.setCell ⟨B,4,none⟩ (.int .i64 er)):=by
 have hs:=h.step.range
 refine ⟨⟨⟨fun j v hv=>?_,fun j hj=>?_⟩,s,h.store.only ((aB.refl [B] w).setCell (by simp) _) (fun k hk=>by simp;intro q;subst q;exact h.nb hk),rfl⟩,(aB.refl [B] w).setCell (by simp) _⟩
 ·rw [Nat.zero_add]
  have h4:=h.step.cell 4 (.int .i64 0) rfl
  by_cases e:j=4
  ·subst e
   have hv':v=.int .i64 er:=by simpa [gO] using hv.symm
   rw [hv']
   exact World.cell?_setCell_same' _ _ _ (by rw [h4];rfl)
  ·rw [World.cell?_setCell_other _ _ _ _ (fun q=>e (by injection q with _ q;exact q.symm))]
   refine h.step.cell j v ?_
   rw [← hv]
   unfold gO
   match j with
   | 0=>rfl | 1=>rfl | 2=>rfl | 3=>rfl | 4=>exact absurd rfl e | k+5=>rfl
 ·have hf:=h.step.free j hj
  refine ⟨?_,by rw [World.frozen?_setCell];exact hf.2⟩
  rw [Nat.zero_add] at hf ⊢
  by_cases e:j=4
  ·subst e
   rw [World.cell?_setCell_same' _ _ _ hf.1];rfl
  ·rw [World.cell?_setCell_other _ _ _ _ (fun q=>e (by injection q with _ q;exact q.symm))]
   exact hf.1
theorem cM {w:World} {B:Nat} {b:Blk} {s:Sto} {n I:Int} (h:Ctx w B b s n I) (er:Int) (h0:er≠0):Calls Tryz.prog 58 #[.pointer (some ⟨B,0,none⟩),.int .i64 er] w fun e w'=>e=.panicked [bn B]∧gq w' B b s n I er∧aB [B] w w':=by
 have HF:=Lib.hid (h.fail er)
 have c4:w.cell? ⟨B,4,none⟩=some (.int .i64 0):=h.step.cell 4 _ rfl
 have f4:w.frozen? ⟨B,4,none⟩=false:=by
  have:=(h.step.free 4 (show 4<5 by decide)).2
  rwa [Nat.zero_add] at this
 have HG:=Lib.hid (dT h)
 have he:(er == 0)=false:=by simpa using h0
 clear h h0
 go_enter Tryz.func58,Tryz.ntmps58
 go_wp2_with (go_at_call 117;(with_reducible refine HG.out.mono ?_);rintro e w' ⟨rfl,rfl⟩)
 exact ⟨rfl,rfl,HF.out⟩
theorem js {w:World} (B:Nat):Calls Tryz.prog 133 #[.pointer (some ⟨B,0,none⟩),.int .i64 0] w fun e w'=>e=.returned (.tuple #[])∧w=w':=by
 go_enter Tryz.func133,Tryz.ntmps133
 go_wp2
 go_end0
 exact ⟨rfl,rfl⟩
theorem oP {w:World} {B:Nat} {b:Blk} {s:Sto} {n I:Int} (h:Ctx w B b s n I) (er:Int) (h0:er≠0):Calls Tryz.prog 133 #[.pointer (some ⟨B,0,none⟩),.int .i64 er] w fun e w'=>e=.panicked [bn B]∧gq w' B b s n I er∧aB [B] w w':=by
 have HF:=Lib.hid (cM h er h0)
 have he:(er != 0)=true:=by simpa using h0
 clear h h0
 go_enter Tryz.func133,Tryz.ntmps133
 go_wp2_with (go_at_call 58;(with_reducible refine HF.out.mono ?_);rintro e w' ⟨rfl,hR⟩)
 exact ⟨rfl,rfl,hR⟩
end

section
open Dk (av aa)
open Go.RowKit
open Ii (Ino)
theorem iD (h:Int) (w:World) (h0:0≤h) (h1:h<2):Calls Tryz.prog 226 #[.int .i64 h] w fun e w'=>e=.returned (.bool true)∧w=w':=by
 have g0:decide (0≤h)=true:=decide_eq_true h0
 have g1:decide (h<2)=true:=decide_eq_true h1
 go_enter Tryz.func226,Tryz.ntmps226
 go_wp2
 go_ret
 exact ⟨rfl,rfl⟩
theorem nk (m n:Int) (w:World):Calls Tryz.prog 212 #[.int .i64 m,.int .i64 n] w fun e w'=>e=.returned (.bool (decide (0≤n∧n≤m)))∧w=w':=by
 by_cases c:0≤n
 ·have g0:decide (0≤n)=true:=decide_eq_true c
  have HE:Hid (decide (0≤n∧n≤m)=decide (n≤m)):=Lib.hid (by rw [decide_eq_decide];exact ⟨fun h=>h.2,fun h=>⟨c,h⟩⟩)
  rw [HE.out]
  clear c
  go_enter Tryz.func212,Tryz.ntmps212
  go_wp2
  go_ret
  exact ⟨rfl,rfl⟩
 ·have g0:decide (0≤n)=false:=decide_eq_false c
  have HE:Hid (decide (0≤n∧n≤m)=false):=Lib.hid (decide_eq_false fun h=>c h.1)
  rw [HE.out]
  clear c
  go_enter Tryz.func212,Tryz.ntmps212
  go_wp2
  go_ret
  exact ⟨rfl,rfl⟩
theorem Kf (p i n:Int) (w:World) (h:Pl.aA p i=true):
  Calls Tryz.prog 225 #[bz p i,.int .i64 n] w fun e w'=>e=.returned (.int .i64 (if Pl.aS i≤n∧n<p then n - Pl.aS i else -1))∧Below w.heap.size w w':=by
 by_cases c:Pl.aS i≤n∧n<p
 ·rw [if_pos c];exact pC p i n w h c.1 c.2
 ·rw [if_neg c];exact uH p i n w h (by omega)
theorem oI (p i n:Int) (w:World) (h:Pl.aA p i=true):
  Calls Tryz.prog 213 #[.int .i64 n,bz p i] w fun e w'=>e=.returned (.bool (Ii.gN p i n))∧Below w.heap.size w w':=by
 have HB:=Lib.hid (fun w=>Kf p i n w h)
 clear h
 by_cases c:n=0
 ·have HE:Hid (Ii.gN p i n=true):=Lib.hid (decide_eq_true (Or.inl c))
  have g0:(n == 0)=true:=by simpa using c
  rw [HE.out]
  clear c HB
  unfold bz
  go_enter Tryz.func213,Tryz.ntmps213
  go_wp2
  go_ret
  exact ⟨rfl,(Below.refl _ _).alloc (Nat.le_refl _) _⟩
 ·have g0:(n == 0)=false:=by simpa using c
  by_cases d:Pl.aS i≤n∧n<p
  ·have HE:Hid (Ii.gN p i n=true):=Lib.hid (decide_eq_true (Or.inr d))
   rw [HE.out]
   rw [if_pos d] at HB
   have d0:0≤n - Pl.aS i:=by omega
   clear c d
   generalize n - Pl.aS i=r at HB d0
   unfold bz at HB ⊢
   go_enter Tryz.func213,Tryz.ntmps213
   go_wp2_with (go_at_call 225;refine (HB.out _).mono ?_;rintro e w' ⟨rfl,hb⟩)
   go_ret
   exact ⟨rfl,((Below.refl _ _).alloc (Nat.le_refl _) _).trans (hb.mono (by simp))⟩
  ·have HE:Hid (Ii.gN p i n=false):=Lib.hid (decide_eq_false fun h=>by rcases h with h | h;exact c h;exact d h)
   rw [HE.out]
   rw [if_neg d] at HB
   clear c d
   unfold bz at HB ⊢
   go_enter Tryz.func213,Tryz.ntmps213
   go_wp2_with (go_at_call 225;refine (HB.out _).mono ?_;rintro e w' ⟨rfl,hb⟩)
   go_ret
   exact ⟨rfl,((Below.refl _ _).alloc (Nat.le_refl _) _).trans (hb.mono (by simp))⟩
end

section
open Dk (av aa)
open Go.RowKit
def strOf (l:List UInt8):ByteArray:=⟨l.toArray⟩
theorem dO (l:List UInt8):(strOf l).size=l.length:=by simp [strOf,ByteArray.size]
theorem Fu {w:World} {b:Nat} {p:List UInt8} (h:aD w b p) (a n:Nat) (hn:a+n≤64):
  ∃
   S,(Instr.sliceAt 87 (.pointer (some ⟨b,0,none⟩)) (some (.int .i64 (a:Int))) (some (.int .i64 ((a:Int)+(n:Int)))) none).run Tryz.prog w=.ok S w ∧
   (convert 40 9 S).run Tryz.prog w=.ok (.string (strOf ((p.drop a).take n))) w:=by
 have hl:((p.drop a).take n).length=n:=by have:=h.len;simp;omega
 have hs:=run_sliceAt_array_lh (P:=Tryz.prog) w 87 ⟨b,0,none⟩ sL .i64 .i64 (a:Int) ((a:Int)+(n:Int)) (by omega) (by omega) (by rw [Hl];omega)
 rw [Ai,fU,Hl,Result.andThen_ok] at hs
 unfold slicedAt at hs
 have e1:(a:Int).toNat=a:=Int.toNat_natCast a
 have e2:((a:Int)+(n:Int)).toNat - a=n:=by omega
 rw [e1,e2] at hs
 refine ⟨_,hs,?_⟩
 have:=run_convert_bytes_back (P:=Tryz.prog) w 40 9 5 (if 64=a then ⟨b,0,none⟩ else (⟨b,0,none⟩:Addr).add (a*1)) (64 - a) ((p.drop a).take n) Tryz.underlying40 Tryz.underlying5 Tryz.underlying9 (fun j hj=>by
  rw [if_neg (by omega),Addr.add_mid,Addr.add_mid,Nat.mul_one,Nat.zero_add,h.cell (a+j) (by omega),List.getElem_take,List.getElem_drop,List.getD_eq_getElem?_getD,List.getElem?_eq_getElem (by have:=h.len;omega)]
  rfl)
 rw [hl] at this
 exact this
theorem EV (p:List UInt8) (a n:Nat) (w:World) (hp:p.length=64) (h:a+n≤64):
  Calls Tryz.prog 189 #[an p,.int .i64 (a:Int),.int .i64 (n:Int)] w fun e w'=>e=.returned (.string (strOf ((p.drop a).take n)))∧Below w.heap.size w w':=by
 obtain ⟨S,hS,hc⟩:=Fu (bF w p 87 hp) a n h
 have HN:Hid (Pg.sA (a:Int) (n:Int)=true):=Lib.hid (Pg.qL (by omega) (by omega) (by omega))
 generalize strOf ((p.drop a).take n)=s at hc ⊢
 clear hp
 unfold an
 go_enter Tryz.func189,Tryz.ntmps189
 go_wp2_with (go_at_call 179;refine (lY _ _ _ (by omega) (by omega) HN.out).mono ?_;rintro e w' ⟨rfl,rfl⟩)
 go_ret
 exact ⟨rfl,(Below.refl _ _).alloc (Nat.le_refl _) _⟩
theorem Iy (p:List UInt8) (a n:Int) (w:World) (h1:-9223372036854775808≤n) (h2:n≤9223372036854775807) (h:Pg.sA a n=false):
  Calls Tryz.prog 189 #[an p,.int .i64 a,.int .i64 n] w fun e w'=>e=.returned (.string (strOf []))∧Below w.heap.size w w':=by
 have HN:=Lib.hid h;clear h
 unfold an
 go_enter Tryz.func189,Tryz.ntmps189
 go_wp2_with (go_at_call 179;refine (oY _ _ _ h1 h2 HN.out).mono ?_;rintro e w' ⟨rfl,rfl⟩)
 go_ret
 exact ⟨rfl,(Below.refl _ _).alloc (Nat.le_refl _) _⟩
theorem xe (p:List UInt8) (a n:Int) (w:World) (hp:p.length=64) (h1:-9223372036854775808≤n) (h2:n≤9223372036854775807):
  Calls Tryz.prog 189 #[an p,.int .i64 a,.int .i64 n] w fun e w'=>e=.returned (.string (strOf (Pg.kj p a n)))∧Below w.heap.size w w':=by
 by_cases h:Pg.sA a n=true
 ·obtain ⟨c1,c2,c3⟩:=Pg.se h
  obtain ⟨A,rfl⟩:=Int.eq_ofNat_of_zero_le c1
  obtain ⟨N,rfl⟩:=Int.eq_ofNat_of_zero_le c2
  have:=EV p A N w hp (by omega)
  unfold Pg.kj
  rw [if_pos h]
  exact this
 ·have:=Iy p a n w h1 h2 (by simpa using h)
  unfold Pg.kj
  rw [if_neg h]
  exact this
theorem aD.over {w:World} {b:Nat} {p:List UInt8} (h:aD w b p) (a:Nat) (s:List UInt8) (hs:a+s.length≤64):aD (w.setCells b a (ab s)) b (Pg.over p a s) where
 len:=by rw [Pg.bj _ _ _ (by rw [h.len];exact hs),h.len]
 range:=fun j v hv=>by
  rw [Nat.zero_add]
  have hj:j<64:=by
   have:=(List.getElem?_eq_some_iff.1 hv).1
   rw [aj,Pg.bj _ _ _ (by rw [h.len];exact hs),h.len] at this
   exact this
  have hv':(Pg.over p a s)[j]?.map (fun c=>Value.int .u8 (c.toNat:Int))=Option.some v:=by rw [← hv];unfold ab;rw [List.getElem?_map]
  rw [Pg.eF _ _ _ _ (by rw [h.len];exact hs)] at hv'
  by_cases h1:a≤j∧j<a+s.length
  ·rw [if_neg (by omega),if_pos h1.2] at hv'
   have hin:=World.cell?_setCells_in b (ab s) a w (fun i hi=>h.isSome (a+i) (by rw [aj] at hi;omega)) (j - a) (by rw [aj];omega)
   rw [show a+(j - a)=j by omega] at hin
   rw [hin,← hv',← List.getElem?_eq_getElem]
   unfold ab
   rw [List.getElem?_map]
  ·rw [World.cell?_setCells_out b (ab s) a w ⟨b,j,none⟩ (fun _ _=>by rw [aj];show j<a∨a+s.length≤j;omega)]
   have hpj:p[j]?.map (fun c=>Value.int .u8 (c.toNat:Int))=Option.some v:=by
    by_cases h2:j<a
    ·rw [if_pos h2] at hv';exact hv'
    ·rw [if_neg h2,if_neg (by omega)] at hv';exact hv'
   have:=h.range j v (by unfold ab;rw [List.getElem?_map];exact hpj)
   rwa [Nat.zero_add] at this
 free:=World.there_setCells h.free _ _ _
theorem ru {w:World} {b:Nat} {p:List UInt8} (h:aD w b p) (a:Nat) (s:ByteArray) (hs:a+s.size≤64):
  ∃
   S,(Instr.sliceAt 87 (.pointer (some ⟨b,0,none⟩)) (some (.int .i64 (a:Int))) none none).run Tryz.prog w=.ok S w ∧
   (Builtin.copy_ #[40,9] 3 #[S,.string s]).run Tryz.prog w=.ok (goInt s.size) (w.setCells b a (ab s.data.toList)):=by
 have hsl:=run_sliceAt_array_l (P:=Tryz.prog) w 87 ⟨b,0,none⟩ sL .i64 (a:Int) (by omega) (by rw [Hl];omega)
 rw [Ai,fU,Hl,Result.andThen_ok] at hsl
 unfold slicedAt at hsl
 have e1:(a:Int).toNat=a:=Int.toNat_natCast a
 rw [e1] at hsl
 refine ⟨_,hsl,?_⟩
 have hmin:Nat.min s.size (64 - a)=s.size:=Nat.min_eq_left (by omega)
 have hcells:(s.extract 0 s.size).data.map (fun b=>Value.int .u8 (b.toNat:Int))=(ab s.data.toList).toArray:=by
  have:s.extract 0 s.size=s:=by apply ByteArray.ext;simp
  rw [this];unfold ab;rw [← Array.toList_map,Array.toArray_toList]
 have hst:(storeCells (if 64=a then ⟨b,0,none⟩ else (⟨b,0,none⟩:Addr).add (a*1)) (ab s.data.toList)).run Tryz.prog w=.ok () (w.setCells b a (ab s.data.toList)):=by
  by_cases h64:64=a
  ·have hz:s.data.toList=[]:=List.eq_nil_of_length_eq_zero (by
                                    have:s.size=s.data.toList.length:=by simp
                                    omega)
   rw [hz];rfl
  ·rw [if_neg h64,Addr.add_mid,Nat.mul_one,Nat.zero_add]
   have hlen:(ab s.data.toList).length=s.size:=by rw [aj];simp
   exact run_storeCells_cells (P:=Tryz.prog) b a (ab s.data.toList) 0 w (fun j hj=>h.isSome (a+j) (by omega)) (fun j hj=>h.frozen (a+j) (by omega)) (bV _)
 obtain ⟨i8,hi8⟩:=Jw
 have hsz:=fU w
 unfold Builtin.copy_
 simp only [List.getElem?_toArray,List.getElem?_cons_zero,List.getElem?_cons_succ,Sem.run_bind,run_underlying Tryz.underlying40,Result.andThen_ok,Builtin.lenOf,Sem.run_pure,hmin,hsz,Builtin.firstCells,hcells,hst]
theorem vv (p:List UInt8) (a:Nat) (s:ByteArray) (w:World) (hp:p.length=64) (h:a+s.size≤64):
  Calls Tryz.prog 122 #[an p,.int .i64 (a:Int),.string s] w fun e w'=>e=.returned (an (Pg.over p a s.data.toList))∧Below w.heap.size w w':=by
 have hs:=jj w p hp
 rw [az] at hs
 have HS:=Lib.hid hs
 obtain ⟨S,hS,hc⟩:=ru hs.1 a s h
 have HN:Hid (Pg.sA (a:Int) (s.size:Int)=true):=Lib.hid (Pg.qL (by omega) (by omega) (by omega))
 have hlen:s.data.toList.length=s.size:=by simp
 have HO:=Lib.hid (HS.out.1.over a s.data.toList (by omega))
 have HZ:=Lib.hid (HS.out.2.1.bl w.heap.size a (ab s.data.toList) (by omega))
 have HB:=Lib.hid (below_setCells w.heap.size (Nat.le_refl _) (ab s.data.toList) a _ HS.out.2.2)
 clear hp hlen hs HS
 unfold an
 go_enter Tryz.func122,Tryz.ntmps122
 go_wp2_with (first
  | (go_at_call 179;refine (lY _ _ _ (by omega) (by omega) HN.out).mono ?_;rintro e w' ⟨rfl,rfl⟩)
  | (with_reducible refine ah HO.out rfl (.tmp 3) rfl rfl ?_)
  | (with_reducible refine ax HZ.out HO.out.len rfl (.tmp 6) (.tmp 15) rfl rfl rfl ?_))
 exact bodyPost_ret (bE _ 6 rfl _ (HZ.out.put _ HO.out.len) rfl) rfl ⟨rfl,below_setCells _ (by omega) _ _ _ HB.out⟩
theorem yZ (p:List UInt8) (a:Int) (s:ByteArray) (w:World) (hp:p.length=64) (hm:s.size≤maxLen) (h:Pg.sA a s.size=false):
  Calls Tryz.prog 122 #[an p,.int .i64 a,.string s] w fun e w'=>e=.returned (an p)∧Below w.heap.size w w':=by
 unfold maxLen at hm
 have hs:=jj w p hp
 rw [az] at hs
 have HS:=Lib.hid hs
 have HN:=Lib.hid h
 have HL:=Lib.hid hp
 clear hp hs h
 unfold an
 go_enter Tryz.func122,Tryz.ntmps122
 go_wp2_with (first
  | (go_at_call 179;refine (oY _ _ _ (by omega) (by omega) HN.out).mono ?_;rintro e w' ⟨rfl,rfl⟩)
  | (with_reducible refine ah HS.out.1 rfl (.tmp 3) rfl rfl ?_)
  | (with_reducible refine ax HS.out.2.1 HL.out rfl (.tmp 6) (.tmp 15) rfl rfl rfl ?_))
 exact bodyPost_ret (bE _ 6 rfl _ (HS.out.2.1.put _ HL.out) rfl) rfl ⟨rfl,below_setCells _ (by omega) _ _ _ HS.out.2.2⟩
theorem kn (p:List UInt8) (a:Int) (s:ByteArray) (w:World) (hp:p.length=64) (hm:s.size≤maxLen):
  Calls Tryz.prog 122 #[an p,.int .i64 a,.string s] w fun e w'=>e=.returned (an (Pg.br p a s.data.toList))∧Below w.heap.size w w':=by
 have hlen:(s.data.toList.length:Int)=(s.size:Int):=by simp
 by_cases h:Pg.sA a s.size=true
 ·obtain ⟨c1,c2,c3⟩:=Pg.se h
  obtain ⟨A,rfl⟩:=Int.eq_ofNat_of_zero_le c1
  have:=vv p A s w hp (by omega)
  unfold Pg.br
  rw [hlen,if_pos h]
  exact this
 ·have:=yZ p a s w hp hm (by simpa using h)
  unfold Pg.br
  rw [hlen,if_neg h]
  exact this
end

section
open Dk (av aa)
open Go.RowKit
open Ii (Ino)
theorem AH (w:World):(zeroValue 5).run Tryz.prog w=.ok (.int .u8 0) w:=by kernel_rfl
theorem Ar {w0 W:World} {q z:List UInt8} {x:Ino} (k:nE w0 q z x W) (A:Nat) (hA:A+32≤64) (ty:TypeId) (c:Nat):
  (Builtin.clear_ #[40] ty #[.slice (some ⟨w0.heap.size,A,none⟩) 32 c]).run Tryz.prog W=.ok (.tuple #[]) (W.setCells w0.heap.size A (ab Ii.z32)):=
 Lib.run_clear_slice W _ _ ty (.int .u8 0) Tryz.underlying40 AH rfl rfl w0.heap.size A 32 c (by omega) (fun j hj=>k.aK.isSome (A+j) (by omega)) (fun j hj=>k.aK.frozen (A+j) (by omega))
theorem nE.wM {w0 W:World} {q z:List UInt8} {x:Ino} (k:nE w0 q z x W) (A:Nat) (hA:A+32≤64):nE w0 (Pg.over q A Ii.z32) z x (W.setCells w0.heap.size A (ab Ii.z32)):=
 ⟨k.aK.over A Ii.z32 (by rw [Ii.pV];exact hA),k.ino.bl _ _ _ (by omega),k.out.bl _ _ _ (by omega),below_setCells _ (Nat.le_refl _) _ _ _ k.below⟩
theorem ts {w0 W:World} {q z:List UInt8} {x:Ino} {ρ:Operand→Value} {op:Oper} (k:nE w0 q z x W) (A:Nat) (hA:A+32≤64) (n:Nat) (v:Operand) (c:Call) (ho:op.op=.call c) (hc:c.callee=.builtin .clear) (ha:c.args=#[v]) (ht:c.argTypes=#[40])
  (hv:ρ v=.slice (some ⟨w0.heap.size,A,none⟩) 32 n):(execOp ρ op).run Tryz.prog W=.ok (.value (.tuple #[])) (W.setCells w0.heap.size A (ab Ii.z32)):=by
 have h:=fun ty=>Ar k A hA ty n
 unfold execOp
 simp [ho,resolve,hc,ha,ht,hv,Go.invoke,Go.builtin,h]
theorem iO {ops:Array Oper} {rest:List Oper} {op:Oper} {a:Act} {Q:Exit→Act→World→Prop} {w0 W:World} {q z:List UInt8} {x:Ino} (k:nE w0 q z x W) (A:Nat) (hA:A+32≤64) (n:Nat) (hgd:op.guard=none) (v:Operand) (c:Call) (ho:op.op=.call c) (hc:c.callee=.builtin .clear) (ha:c.args=#[v]) (ht:c.argTypes=#[40])
  (hv:a.eval v=.slice (some ⟨w0.heap.size,A,none⟩) 32 n) (h:∀ W2,nE w0 (Pg.over q A Ii.z32) z x W2→wpList Tryz.prog ops Q rest (a.put op.dst (.tuple #[])) W2):wpList Tryz.prog ops Q (op::rest) a W:=
 wpList_plain hgd fun _ hK=>by
  unfold Oper.wp
  rw [ts k A hA n v c ho hc ha ht hv]
  exact hK _ _ (h _ (k.wM A hA))
theorem au.four {w:World} {b:Nat} {x:Ino} (k:au w b (aH x)):w.rangeAt b 5 [.int .i64 x.a,.int .i64 x.b,.int .i64 x.c,.int .i64 x.d]:=by
 intro j v hv
 have h:(aH x)[5+j]?=some v:=by
  match j,hv with
  | 0,hv=>exact hv
  | 1,hv=>exact hv
  | 2,hv=>exact hv
  | 3,hv=>exact hv
  | n+4,hv=>simp at hv
 have:=k.range (5+j) v h
 rwa [Nat.zero_add] at this
theorem fm {ops:Array Oper} {rest:List Oper} {op:Oper} {a:Act} {Q:Exit→Act→World→Prop} {w:World} {b:Nat} {x:Ino} (k:au w b (aH x)) (hgd:op.guard=none) (u:Operand) (ho:op.op=.load 101 u)
  (hx:a.eval u=.pointer (some ⟨b,5,none⟩)) (hn:wpList Tryz.prog ops Q rest (a.put op.dst (.agg #[.int .i64 x.a,.int .i64 x.b,.int .i64 x.c,.int .i64 x.d])) w):wpList Tryz.prog ops Q (op::rest) a w:=
 wpList_load_mid hgd 101 u ho b 5 hx _ _ k.four Tryz.underlying101 rfl (by kernel_rfl) hn
theorem iH (x:Ino) (w:World):(Instr.index 101 (.agg #[.int .i64 x.a,.int .i64 x.b,.int .i64 x.c,.int .i64 x.d]) (.int .i64 0)).run Tryz.prog w=.ok (.int .i64 x.a) w:=by kernel_rfl
theorem iG (x:Ino) (w:World):(Instr.index 101 (.agg #[.int .i64 x.a,.int .i64 x.b,.int .i64 x.c,.int .i64 x.d]) (.int .i64 1)).run Tryz.prog w=.ok (.int .i64 x.b) w:=by kernel_rfl
theorem iF (x:Ino) (w:World):(Instr.index 101 (.agg #[.int .i64 x.a,.int .i64 x.b,.int .i64 x.c,.int .i64 x.d]) (.int .i64 2)).run Tryz.prog w=.ok (.int .i64 x.c) w:=by kernel_rfl
theorem iE (x:Ino) (w:World):(Instr.index 101 (.agg #[.int .i64 x.a,.int .i64 x.b,.int .i64 x.c,.int .i64 x.d]) (.int .i64 3)).run Tryz.prog w=.ok (.int .i64 x.d) w:=by kernel_rfl
theorem fq (p:List UInt8) (a n v:Int) (w:World) (hp:p.length=64) (h1:-9223372036854775808≤n) (h2:n≤9223372036854775807):
  Calls Tryz.prog 195 #[an p,.int .i64 a,.int .i64 n,.int .i64 v] w fun e w'=>(e=.returned (an (Pg.eV p a n v))∧(Pg.eV p a n v).length=64)∧Below w.heap.size w w':=
 (ek p a n v w hp h1 h2).mono fun _ _ h=>⟨⟨h.1,Pg.aP p a n v hp⟩,h.2⟩
end

section
open Dk (av aa)
open Go.RowKit
open Ii (Ino)
theorem Mi (p:List UInt8) (x:Ino) (w:World) (hp:p.length=64):
  Calls Tryz.prog 183 #[an p,.int .i64 0,bH x] w fun e w'=>e=.returned (an (Ii.uW p 0 x))∧Below w.heap.size w w':=by
 have hs:=xA w p x 103 hp
 rw [az] at hs
 have HS:=Lib.hid hs;clear hs
 have HL:=Lib.hid (Ii.fV p 0 x hp (by decide))
 clear hp
 unfold an bH
 go_enter Tryz.func183,Tryz.ntmps183
 go_wp2_with fail
 refine (iD _ _ (by decide) (by decide)).mono ?_
 rintro e w1 ⟨rfl,hw⟩
 have S:Hid (nE w p av x w1):=Lib.hid (by rw [← hw];exact HS.out)
 clear hw HS
 have hsl:(Instr.sliceAt 87 (.pointer (some ⟨w.heap.size,0,none⟩)) (some (.int .i64 0)) (some (.int .i64 32)) none).run Tryz.prog w1=.ok (.slice (some ⟨w.heap.size,0,none⟩) 32 64) w1:=eW w1 w.heap.size 0 32 (by decide) (by decide)
 go_wp2_with (first
  | ((with_reducible refine iO S.out 0 (by decide) 64 rfl (.tmp 19) _ rfl rfl rfl rfl ?_ ?_);(exact rfl);clear hsl;intro W2 S2;replace S:=Lib.hid S2;clear S2;have hc:=S.out.ino.cell 0 _ rfl)
  | (with_reducible refine ah S.out.aK rfl (.tmp 3) rfl rfl ?_)
  | (go_at_call 195;refine (fq _ _ _ _ _ S.out.aK.len (by decide) (by decide)).mono ?_;rintro e w' ⟨⟨rfl,hl⟩,hb⟩;have L:=Lib.hid hl;clear hl;clear hc;replace S:=Lib.hid (S.out.call hb);clear hb)
  | ((with_reducible refine aI S.out L.out rfl (.tmp 3) (.tmp 25) rfl rfl ?_ ?_);(exact rfl);intro W2 S2;replace S:=Lib.hid S2;clear S2 L;have hc:=S.out.ino.cell 1 _ rfl)
  | ((with_reducible refine aI S.out L.out rfl (.tmp 3) (.tmp 31) rfl rfl ?_ ?_);(exact rfl);intro W2 S2;replace S:=Lib.hid S2;clear S2 L;have hc:=S.out.ino.cell 2 _ rfl)
  | ((with_reducible refine aI S.out L.out rfl (.tmp 3) (.tmp 37) rfl rfl ?_ ?_);(exact rfl);intro W2 S2;replace S:=Lib.hid S2;clear S2 L;have hc:=S.out.ino.cell 3 _ rfl)
  | ((with_reducible refine aI S.out L.out rfl (.tmp 3) (.tmp 43) rfl rfl ?_ ?_);(exact rfl);intro W2 S2;replace S:=Lib.hid S2;clear S2 L;have hc:=S.out.ino.cell 4 _ rfl)
  | ((with_reducible refine aI S.out L.out rfl (.tmp 3) (.tmp 49) rfl rfl ?_ ?_);(exact rfl);intro W2 S2;replace S:=Lib.hid S2;clear S2 L)
  | (with_reducible refine fm S.out.ino rfl (.tmp 50) rfl rfl ?_))
 replace S:Hid (nE w (Ii.JQ p 0 x 0) av x W2):=S
 go_loopw [52] (fun i wr=>∃ k:Nat,k≤4∧i=.int .i64 (k:Int)∧nE w (Ii.JQ p 0 x k) av x wr) (fun i _=>4 - (intOf i).toNat)
 case atStart=>exact ⟨0,by omega,rfl,S.out⟩
 case round=>
  clear S
  obtain ⟨k,hk,rfl,hS⟩:=hrel
  have hk:k=0∨k=1∨k=2∨k=3∨k=4:=by omega
  rcases hk with rfl | rfl | rfl | rfl | rfl
  ·have S:=Lib.hid hS
   clear hS
   have hix:=fun W=>iH x W
   go_wp2_with (first
   | (with_reducible refine ah S.out.aK rfl (.tmp 3) rfl rfl ?_)
   | (go_at_call 195;refine (fq _ _ _ _ _ S.out.aK.len (by decide) (by decide)).mono ?_;rintro e w' ⟨⟨rfl,hl⟩,hb⟩;have L:=Lib.hid hl;clear hl;replace S:=Lib.hid (S.out.call hb);clear hb)
   | ((with_reducible refine aI S.out L.out rfl (.tmp 3) (.tmp 63) rfl rfl ?_ ?_);(exact rfl);intro W2 S2;replace S:=Lib.hid S2;clear S2 L))
   go_roundw
   case rel=>exact ⟨1,by omega,rfl,S.out⟩
   case measure=>simp [intOf]
  ·have S:=Lib.hid hS
   clear hS
   have hix:=fun W=>iG x W
   go_wp2_with (first
   | (with_reducible refine ah S.out.aK rfl (.tmp 3) rfl rfl ?_)
   | (go_at_call 195;refine (fq _ _ _ _ _ S.out.aK.len (by decide) (by decide)).mono ?_;rintro e w' ⟨⟨rfl,hl⟩,hb⟩;have L:=Lib.hid hl;clear hl;replace S:=Lib.hid (S.out.call hb);clear hb)
   | ((with_reducible refine aI S.out L.out rfl (.tmp 3) (.tmp 63) rfl rfl ?_ ?_);(exact rfl);intro W2 S2;replace S:=Lib.hid S2;clear S2 L))
   go_roundw
   case rel=>exact ⟨2,by omega,rfl,S.out⟩
   case measure=>simp [intOf]
  ·have S:=Lib.hid hS
   clear hS
   have hix:=fun W=>iF x W
   go_wp2_with (first
   | (with_reducible refine ah S.out.aK rfl (.tmp 3) rfl rfl ?_)
   | (go_at_call 195;refine (fq _ _ _ _ _ S.out.aK.len (by decide) (by decide)).mono ?_;rintro e w' ⟨⟨rfl,hl⟩,hb⟩;have L:=Lib.hid hl;clear hl;replace S:=Lib.hid (S.out.call hb);clear hb)
   | ((with_reducible refine aI S.out L.out rfl (.tmp 3) (.tmp 63) rfl rfl ?_ ?_);(exact rfl);intro W2 S2;replace S:=Lib.hid S2;clear S2 L))
   go_roundw
   case rel=>exact ⟨3,by omega,rfl,S.out⟩
   case measure=>simp [intOf]
  ·have S:=Lib.hid hS
   clear hS
   have hix:=fun W=>iE x W
   go_wp2_with (first
   | (with_reducible refine ah S.out.aK rfl (.tmp 3) rfl rfl ?_)
   | (go_at_call 195;refine (fq _ _ _ _ _ S.out.aK.len (by decide) (by decide)).mono ?_;rintro e w' ⟨⟨rfl,hl⟩,hb⟩;have L:=Lib.hid hl;clear hl;replace S:=Lib.hid (S.out.call hb);clear hb)
   | ((with_reducible refine aI S.out L.out rfl (.tmp 3) (.tmp 63) rfl rfl ?_ ?_);(exact rfl);intro W2 S2;replace S:=Lib.hid S2;clear S2 L))
   go_roundw
   case rel=>exact ⟨4,by omega,rfl,S.out⟩
   case measure=>simp [intOf]
  ·have S:=Lib.hid hS
   clear hS
   have hc:=S.out.ino.cell 9 _ rfl
   go_wp2_with (first
   | (with_reducible refine ah S.out.aK rfl (.tmp 3) rfl rfl ?_)
   | (go_at_call 195;refine (fq _ _ _ _ _ S.out.aK.len (by decide) (by decide)).mono ?_;rintro e w' ⟨⟨rfl,hl⟩,hb⟩;have L:=Lib.hid hl;clear hl;clear hc;replace S:=Lib.hid (S.out.call hb);clear hb)
   | ((with_reducible refine aI S.out L.out rfl (.tmp 3) (.tmp 70) rfl rfl ?_ ?_);(exact rfl);intro W2 S2;replace S:=Lib.hid S2;clear S2 L;have hc:=S.out.ino.cell 10 _ rfl)
   | ((with_reducible refine ax S.out.out HL.out rfl (.tmp 6) (.tmp 76) rfl rfl ?_ ?_);(exact rfl)))
   exact bodyPost_ret (bE _ 6 rfl _ (S.out.back HL.out).1 rfl) rfl ⟨rfl,(S.out.back HL.out).2⟩
theorem Mh (p:List UInt8) (x:Ino) (w:World) (hp:p.length=64):
  Calls Tryz.prog 183 #[an p,.int .i64 1,bH x] w fun e w'=>e=.returned (an (Ii.uW p 32 x))∧Below w.heap.size w w':=by
 have hs:=xA w p x 103 hp
 rw [az] at hs
 have HS:=Lib.hid hs;clear hs
 have HL:=Lib.hid (Ii.fV p 32 x hp (by decide))
 clear hp
 unfold an bH
 go_enter Tryz.func183,Tryz.ntmps183
 go_wp2_with fail
 refine (iD _ _ (by decide) (by decide)).mono ?_
 rintro e w1 ⟨rfl,hw⟩
 have S:Hid (nE w p av x w1):=Lib.hid (by rw [← hw];exact HS.out)
 clear hw HS
 have hsl:(Instr.sliceAt 87 (.pointer (some ⟨w.heap.size,0,none⟩)) (some (.int .i64 32)) (some (.int .i64 64)) none).run Tryz.prog w1=.ok (.slice (some ⟨w.heap.size,32,none⟩) 32 32) w1:=eW w1 w.heap.size 32 32 (by decide) (by decide)
 go_wp2_with (first
  | ((with_reducible refine iO S.out 32 (by decide) 32 rfl (.tmp 19) _ rfl rfl rfl rfl ?_ ?_);(exact rfl);clear hsl;intro W2 S2;replace S:=Lib.hid S2;clear S2;have hc:=S.out.ino.cell 0 _ rfl)
  | (with_reducible refine ah S.out.aK rfl (.tmp 3) rfl rfl ?_)
  | (go_at_call 195;refine (fq _ _ _ _ _ S.out.aK.len (by decide) (by decide)).mono ?_;rintro e w' ⟨⟨rfl,hl⟩,hb⟩;have L:=Lib.hid hl;clear hl;clear hc;replace S:=Lib.hid (S.out.call hb);clear hb)
  | ((with_reducible refine aI S.out L.out rfl (.tmp 3) (.tmp 25) rfl rfl ?_ ?_);(exact rfl);intro W2 S2;replace S:=Lib.hid S2;clear S2 L;have hc:=S.out.ino.cell 1 _ rfl)
  | ((with_reducible refine aI S.out L.out rfl (.tmp 3) (.tmp 31) rfl rfl ?_ ?_);(exact rfl);intro W2 S2;replace S:=Lib.hid S2;clear S2 L;have hc:=S.out.ino.cell 2 _ rfl)
  | ((with_reducible refine aI S.out L.out rfl (.tmp 3) (.tmp 37) rfl rfl ?_ ?_);(exact rfl);intro W2 S2;replace S:=Lib.hid S2;clear S2 L;have hc:=S.out.ino.cell 3 _ rfl)
  | ((with_reducible refine aI S.out L.out rfl (.tmp 3) (.tmp 43) rfl rfl ?_ ?_);(exact rfl);intro W2 S2;replace S:=Lib.hid S2;clear S2 L;have hc:=S.out.ino.cell 4 _ rfl)
  | ((with_reducible refine aI S.out L.out rfl (.tmp 3) (.tmp 49) rfl rfl ?_ ?_);(exact rfl);intro W2 S2;replace S:=Lib.hid S2;clear S2 L)
  | (with_reducible refine fm S.out.ino rfl (.tmp 50) rfl rfl ?_))
 replace S:Hid (nE w (Ii.JQ p 32 x 0) av x W2):=S
 go_loopw [52] (fun i wr=>∃ k:Nat,k≤4∧i=.int .i64 (k:Int)∧nE w (Ii.JQ p 32 x k) av x wr) (fun i _=>4 - (intOf i).toNat)
 case atStart=>exact ⟨0,by omega,rfl,S.out⟩
 case round=>
  clear S
  obtain ⟨k,hk,rfl,hS⟩:=hrel
  have hk:k=0∨k=1∨k=2∨k=3∨k=4:=by omega
  rcases hk with rfl | rfl | rfl | rfl | rfl
  ·have S:=Lib.hid hS
   clear hS
   have hix:=fun W=>iH x W
   go_wp2_with (first
   | (with_reducible refine ah S.out.aK rfl (.tmp 3) rfl rfl ?_)
   | (go_at_call 195;refine (fq _ _ _ _ _ S.out.aK.len (by decide) (by decide)).mono ?_;rintro e w' ⟨⟨rfl,hl⟩,hb⟩;have L:=Lib.hid hl;clear hl;replace S:=Lib.hid (S.out.call hb);clear hb)
   | ((with_reducible refine aI S.out L.out rfl (.tmp 3) (.tmp 63) rfl rfl ?_ ?_);(exact rfl);intro W2 S2;replace S:=Lib.hid S2;clear S2 L))
   go_roundw
   case rel=>exact ⟨1,by omega,rfl,S.out⟩
   case measure=>simp [intOf]
  ·have S:=Lib.hid hS
   clear hS
   have hix:=fun W=>iG x W
   go_wp2_with (first
   | (with_reducible refine ah S.out.aK rfl (.tmp 3) rfl rfl ?_)
   | (go_at_call 195;refine (fq _ _ _ _ _ S.out.aK.len (by decide) (by decide)).mono ?_;rintro e w' ⟨⟨rfl,hl⟩,hb⟩;have L:=Lib.hid hl;clear hl;replace S:=Lib.hid (S.out.call hb);clear hb)
   | ((with_reducible refine aI S.out L.out rfl (.tmp 3) (.tmp 63) rfl rfl ?_ ?_);(exact rfl);intro W2 S2;replace S:=Lib.hid S2;clear S2 L))
   go_roundw
   case rel=>exact ⟨2,by omega,rfl,S.out⟩
   case measure=>simp [intOf]
  ·have S:=Lib.hid hS
   clear hS
   have hix:=fun W=>iF x W
   go_wp2_with (first
   | (with_reducible refine ah S.out.aK rfl (.tmp 3) rfl rfl ?_)
   | (go_at_call 195;refine (fq _ _ _ _ _ S.out.aK.len (by decide) (by decide)).mono ?_;rintro e w' ⟨⟨rfl,hl⟩,hb⟩;have L:=Lib.hid hl;clear hl;replace S:=Lib.hid (S.out.call hb);clear hb)
   | ((with_reducible refine aI S.out L.out rfl (.tmp 3) (.tmp 63) rfl rfl ?_ ?_);(exact rfl);intro W2 S2;replace S:=Lib.hid S2;clear S2 L))
   go_roundw
   case rel=>exact ⟨3,by omega,rfl,S.out⟩
   case measure=>simp [intOf]
  ·have S:=Lib.hid hS
   clear hS
   have hix:=fun W=>iE x W
   go_wp2_with (first
   | (with_reducible refine ah S.out.aK rfl (.tmp 3) rfl rfl ?_)
   | (go_at_call 195;refine (fq _ _ _ _ _ S.out.aK.len (by decide) (by decide)).mono ?_;rintro e w' ⟨⟨rfl,hl⟩,hb⟩;have L:=Lib.hid hl;clear hl;replace S:=Lib.hid (S.out.call hb);clear hb)
   | ((with_reducible refine aI S.out L.out rfl (.tmp 3) (.tmp 63) rfl rfl ?_ ?_);(exact rfl);intro W2 S2;replace S:=Lib.hid S2;clear S2 L))
   go_roundw
   case rel=>exact ⟨4,by omega,rfl,S.out⟩
   case measure=>simp [intOf]
  ·have S:=Lib.hid hS
   clear hS
   have hc:=S.out.ino.cell 9 _ rfl
   go_wp2_with (first
   | (with_reducible refine ah S.out.aK rfl (.tmp 3) rfl rfl ?_)
   | (go_at_call 195;refine (fq _ _ _ _ _ S.out.aK.len (by decide) (by decide)).mono ?_;rintro e w' ⟨⟨rfl,hl⟩,hb⟩;have L:=Lib.hid hl;clear hl;clear hc;replace S:=Lib.hid (S.out.call hb);clear hb)
   | ((with_reducible refine aI S.out L.out rfl (.tmp 3) (.tmp 70) rfl rfl ?_ ?_);(exact rfl);intro W2 S2;replace S:=Lib.hid S2;clear S2 L;have hc:=S.out.ino.cell 10 _ rfl)
   | ((with_reducible refine ax S.out.out HL.out rfl (.tmp 6) (.tmp 76) rfl rfl ?_ ?_);(exact rfl)))
   exact bodyPost_ret (bE _ 6 rfl _ (S.out.back HL.out).1 rfl) rfl ⟨rfl,(S.out.back HL.out).2⟩
end

section
open Dk (av aa)
open Go.RowKit
open Ii (Ino)
structure BxS (w0:World) (p:List UInt8) (W:World):Prop where
 aK:aD W w0.heap.size p
 out:au W (w0.heap.size+1) (aH Ii.zero)
 below:Below w0.heap.size w0 W
theorem BxS.call {w0:World} {p:List UInt8} {W W':World} (k:BxS w0 p W) (hb:Below W.heap.size W W'):BxS w0 p W':=
 ⟨k.aK.step hb,au.step k.out hb,k.below.trans (hb.mono k.below.size)⟩
theorem BxS.drew {w0:World} {p:List UInt8} {W:World} (k:BxS w0 p W):BxS w0 p W.drew:=⟨k.aK.drew,k.out.drew,k.below.drew⟩
theorem Ed (w:World) (p:List UInt8) (t:TypeId) (hp:p.length=64):BxS w p ((w.alloc (.cells (ab p).toArray 87)).alloc (.cells (aH Ii.zero).toArray t)) where
 aK:=(bF w p _ hp).alloc _
 out:=by
  have h:=bh (w.alloc (.cells (ab p).toArray 87)) (aH Ii.zero) t
  rw [World.size_alloc] at h
  exact h
 below:=((Below.refl _ _).alloc (Nat.le_refl _) _).alloc (by simp) _
theorem au.gz {w:World} {b:Nat} {vs:List Value} (h:au w b vs) (b' i:Nat) (v:Value) (hb:b≠b'):au (w.setCell ⟨b',i,none⟩ v) b vs:=
 ⟨fun j u hu=>by rw [World.cell?_setCell_other _ _ _ _ (fun q=>hb (by injection q with q;exact q.symm))];exact h.range j u hu,
  fun j hj=>by rw [World.cell?_setCell_other _ _ _ _ (fun q=>hb (by injection q with q;exact q.symm)),World.frozen?_setCell];exact h.free j hj⟩
theorem au.dH {w:World} {b:Nat} {vs:List Value} (h:au w b vs) (i:Nat) (v:Value) (hi:i<vs.length):au (w.setCell ⟨b,i,none⟩ v) b (vs.set i v) where
 range:=fun j u hu=>by
  rw [Nat.zero_add]
  rw [List.getElem?_set] at hu
  by_cases e:i=j
  ·subst e
   rw [if_pos rfl,if_pos hi] at hu
   injection hu with hu
   rw [← hu]
   exact World.cell?_setCell_same' _ _ _ (by rw [h.cell i _ (List.getElem?_eq_getElem hi)];rfl)
  ·rw [if_neg e] at hu
   rw [World.cell?_setCell_other _ _ _ _ (fun q=>e (by injection q))]
   exact h.cell j u hu
 free:=fun j hj=>by
  rw [List.length_set] at hj
  rw [Nat.zero_add]
  refine ⟨?_,by rw [World.frozen?_setCell];exact h.frozen j hj⟩
  by_cases e:i=j
  ·subst e
   rw [World.cell?_setCell_same' _ _ _ (by rw [h.cell i _ (List.getElem?_eq_getElem hi)];rfl)];rfl
  ·rw [World.cell?_setCell_other _ _ _ _ (fun q=>e (by injection q)),h.cell j _ (List.getElem?_eq_getElem hj)];rfl
theorem BxS.mB {w0:World} {p:List UInt8} {W:World} (k:BxS w0 p W) (g i:Nat) (v:Value) (hg:w0.heap.size+1<g):BxS w0 p (W.setCell ⟨g,i,none⟩ v):=
 ⟨k.aK.kR _ _ _ (by omega),k.out.gz _ _ _ (by omega),k.below.setCell (by show w0.heap.size≤g;omega) _⟩
theorem BxS.back {w0:World} {p:List UInt8} {W:World} (k:BxS w0 p W) (y:Ino):au (W.setCells (w0.heap.size+1) 0 (aH y)) (w0.heap.size+1) (aH y)∧Below w0.heap.size w0 (W.setCells (w0.heap.size+1) 0 (aH y)):=
 ⟨k.out.put (aH y) rfl,below_setCells _ (by omega) _ _ _ k.below⟩
def GtS (w0:World) (p:List UInt8) (y:Ino) (s:Option (Nat × Bool)) (W:World):Prop:=
 BxS w0 p W∧match s with
  | none=>True
  | some (g,b)=>w0.heap.size+1<g∧au W g (aH (if b=true then y else Ii.zero))
theorem GtS.call {w0:World} {p:List UInt8} {y:Ino} {s:Option (Nat × Bool)} {W W':World} (k:GtS w0 p y s W) (hb:Below W.heap.size W W'):GtS w0 p y s W':=by
 refine ⟨BxS.call k.1 hb,?_⟩
 match s,k with
 | none,_=>trivial
 | some (g,b),k=>exact ⟨k.2.1,au.step k.2.2 hb⟩
theorem GtS.alloc {w0:World} {p:List UInt8} {y:Ino} {W:World} {t:TypeId} (k:BxS w0 p W):GtS w0 p y (some (W.heap.size,false)) (W.alloc (.cells (aH Ii.zero).toArray t)):=
 ⟨⟨k.aK.alloc _,k.out.alloc _,k.below.alloc k.below.size _⟩,k.out.lt,bh W (aH Ii.zero) t⟩
theorem GtS.put {w0:World} {p:List UInt8} {y:Ino} {g:Nat} {b:Bool} {W:World} (k:GtS w0 p y (some (g,b)) W):GtS w0 p y (some (g,true)) (W.setCells g 0 (aH y)):=by
 obtain ⟨k1,k2,k3⟩:=k
 exact ⟨⟨k1.aK.bl _ _ _ (by omega),k1.out.bl _ _ _ (by omega),below_setCells _ (by omega) _ _ _ k1.below⟩,k2,k3.put (aH y) rfl⟩
theorem aC {t:TypeId} {n:Nat} (ht:mN t n) (fn:Func) (s:Nat) (hf:fn.results=#[.cell s t]) {w:World} {b:Nat} {vs:List Value} (tmps:Array Value) (k:au w b vs) (hl:vs.length=n) (hs:tmps.getD s undef=.pointer (some ⟨b,0,none⟩)):
  (results fn tmps).run Tryz.prog w=.ok (.agg vs.toArray) w:=vA ht fn s hf tmps k hl hs
end
end Go.Proofs.YtagfoogfpabdfaaGreat
