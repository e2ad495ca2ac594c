/- Texts of the proof. -/
import Derived.Test.YtagfoogfpabdfaaGreatRows
import Derived.WalkKit
import Derived.WalkSpells
import Derived.WalkLawsBesides
import Derived.Laws.BitsAllLaws
import Derived.Lib.Hide
import Derived.Deep.MidRow
import Derived.ChangeKeysEq
import Derived.Below
import Derived.Deep.QuietTactic
import Derived.BigQuiet
set_option maxRecDepth 100000
set_option maxHeartbeats 16000000
namespace Go.Proofs.YtagfoogfpabdfaaGreat
theorem puA {α:Type _} (l:List α) (i:Nat) (a:α):l.toArray.setIfInBounds i a=(l.set i a).toArray:=List.setIfInBounds_toArray ..
theorem puB {α:Type _} (a b:α) (l:List α):(a::l).set 0 b=b::l:=List.set_cons_zero ..
theorem puC {α:Type _} (a b:α) (l:List α) (n:Nat):(a::l).set (n+1) b=a::l.set n b:=List.set_cons_succ ..
namespace Dk
structure St where
 last:List (List UInt8)
 cache:List (Option (List UInt8))
 lim:Bool
 left:Int
 down:Bool
structure St.Ok (s:St):Prop where
 same:s.cache.length=s.last.length
 pos:1≤s.last.length
 small:s.last.length≤512
 dJ:∀ p∈s.last,p.length=64
 mI:∀ p,some p∈s.cache→p.length=64
 lo:-9223372036854775808≤s.left
 hi:s.left≤9223372036854775807
 live:s.lim=true→0≤s.left
def av:List UInt8:=List.replicate 64 0
theorem aa:av.length=64:=List.length_replicate
def hasB (n:Nat) (i:Int):Bool:=decide (0≤i∧i<(n:Int))
theorem wv {n:Nat} {i:Int} (h:hasB n i=true):0≤i∧i<(n:Int):=of_decide_eq_true h
theorem pa {n k:Nat} (h:k<n):hasB n (k:Int)=true:=decide_eq_true ⟨by omega,by omega⟩
def dh (s:St) (i:Int):Int:=if s.down=true then 5 else if hasB s.last.length i=true then 0 else 22
def cn (s:St):Int:=if s.lim=true∧s.left=0 then 5 else 0
def df (s:St):St:=if s.lim=true then (if s.left=0 then { s with down:=true } else { s with left:=s.left - 1 }) else s
def put (s:St) (i:Nat) (p:List UInt8):St:={ s with cache:=s.cache.set i (some p) }
def dg (s:St) (i:Int):Int:=if dh s i=0 then cn s else dh s i
def write (s:St) (i:Int) (p:List UInt8):St:=if dh s i=0 then (if cn s=0 then put (df s) i.toNat p else df s) else s
def eG (s:St) (i:Nat):List UInt8:=s.last.getD i []
def bU (s:St) (i:Nat):Option (List UInt8):=s.cache.getD i none
def nowAt (s:St) (i:Nat):List UInt8:=(bU s i).getD (eG s i)
def gJ (s:St) (i:Int):List UInt8:=if dh s i=0 then nowAt s i.toNat else av
def eH (s:St):St:={ s with last:=(List.range s.last.length).map (nowAt s),cache:=List.replicate s.last.length none }
def kf (s:St):Int:=if s.down=true then 5 else cn s
def flush (s:St):St:=if s.down=true then s else if cn s=0 then eH (df s) else df s
def qY (old new:List UInt8) (c:UInt8):List UInt8:=new.take (c.toNat % 65)++old.drop (c.toNat % 65)
def fD (s:St) (i:Nat) (x:List (List UInt8) × List UInt8):List (List UInt8) × List UInt8:=
 match bU s i,x.2 with
 | some p,c::r=>(x.1.set i (qY (eG s i) p c),r)
 | _,_=>x
def eJ (s:St) (gL:List UInt8):Nat→List (List UInt8) × List UInt8
 | 0=>(s.last,gL)
 | k+1=>fD s k (eJ s gL k)
def JV (s:St) (gL:List UInt8):St:={ last:=(eJ s gL s.last.length).1,cache:=List.replicate s.last.length none,lim:=false,left:=0,down:=false }
def count (s:St):Nat:=s.cache.countP (·.isSome)
def fresh (n:Nat):St:={ last:=List.replicate n av,cache:=List.replicate n none,lim:=false,left:=0,down:=false }
theorem lR {s:St} {i:Int} (h:dh s i=0):s.down=false∧hasB s.last.length i=true:=by
 unfold dh at h
 by_cases c:s.down=true
 ·rw [if_pos c] at h;omega
 ·rw [if_neg c] at h
  by_cases e:hasB s.last.length i=true
  ·exact ⟨by simpa using c,e⟩
  ·rw [if_neg e] at h;omega
theorem kZ {s:St} {i:Int} (h1:s.down=false) (h2:hasB s.last.length i=true):dh s i=0:=by
 unfold dh;rw [h1,h2];rfl
theorem yX (s:St):cn s=0∨cn s=5:=by
 unfold cn
 by_cases c:s.lim=true∧s.left=0
 ·rw [if_pos c];omega
 ·rw [if_neg c];omega
theorem qH {s:St} (h:s.Ok) {i:Nat} (hi:i<s.last.length):(eG s i).length=64:=by
 unfold eG
 rw [List.getD_eq_getElem?_getD,List.getElem?_eq_getElem hi]
 exact h.dJ _ (List.getElem_mem hi)
theorem pB {s:St} (h:s.Ok) {i:Nat} {p:List UInt8} (hp:bU s i=some p):p.length=64:=by
 unfold bU at hp
 rw [List.getD_eq_getElem?_getD] at hp
 by_cases hi:i<s.cache.length
 ·rw [List.getElem?_eq_getElem hi] at hp
  exact h.mI p (by rw [← hp];exact List.getElem_mem hi)
 ·rw [List.getElem?_eq_none (by omega)] at hp;cases hp
theorem oM {s:St} (h:s.Ok) {i:Nat} (hi:i<s.last.length):(nowAt s i).length=64:=by
 unfold nowAt
 cases hc:bU s i with
 | none=>exact qH h hi
 | some p=>exact pB h hc
theorem ot {s:St} (h:s.Ok) (i:Int):(gJ s i).length=64:=by
 unfold gJ
 by_cases c:dh s i=0
 ·rw [if_pos c]
  have:=wv (lR c).2
  exact oM h (by omega)
 ·rw [if_neg c];exact aa
theorem qX {old new:List UInt8} (c:UInt8) (h1:old.length=64) (h2:new.length=64):(qY old new c).length=64:=by
 unfold qY
 rw [List.length_append,List.length_take,List.length_drop,h1,h2]
 have:c.toNat % 65<65:=Nat.mod_lt _ (by omega)
 omega
theorem dP (s:St):(df s).last=s.last:=by unfold df;split <;> (try split) <;> rfl
theorem eQ (s:St):(df s).cache=s.cache:=by unfold df;split <;> (try split) <;> rfl
theorem nX (s:St):(df s).lim=s.lim:=by unfold df;split <;> (try split) <;> rfl
theorem il {s:St} (h:s.Ok):(df s).Ok:=by
 unfold df
 split
 ·rename_i hl
  have:=h.live hl
  split
  ·exact ⟨h.same,h.pos,h.small,h.dJ,h.mI,h.lo,h.hi,h.live⟩
  ·rename_i hn
   exact ⟨h.same,h.pos,h.small,h.dJ,h.mI,by show _≤s.left - 1;omega,by show s.left - 1≤_;have:=h.hi;omega,fun _=>by show 0≤s.left - 1;omega⟩
 ·exact h
theorem Ie {s:St} (h:s.Ok) (i:Nat) {p:List UInt8} (hp:p.length=64):(put s i p).Ok where
 same:=by unfold put;rw [List.length_set];exact h.same
 pos:=h.pos
 small:=h.small
 dJ:=h.dJ
 mI:=fun q hq=>by
  rcases List.mem_or_eq_of_mem_set hq with h1 | h1
  ·exact h.mI q h1
  ·injection h1 with h1;rw [h1];exact hp
 lo:=h.lo
 hi:=h.hi
 live:=h.live
theorem qO {s:St} (h:s.Ok):(eH s).Ok where
 same:=by unfold eH;simp
 pos:=by unfold eH;simpa using h.pos
 small:=by unfold eH;simpa using h.small
 dJ:=fun p hp=>by
  obtain ⟨i,hi,rfl⟩:=List.mem_map.1 hp
  exact oM h (List.mem_range.1 hi)
 mI:=fun p hp=>by
  have:=List.eq_of_mem_replicate hp
  cases this
 lo:=h.lo
 hi:=h.hi
 live:=h.live
theorem sj {s:St} {i:Nat} {x:List (List UInt8) × List UInt8} {p:List UInt8} {c:UInt8} {r:List UInt8} (h1:bU s i=some p) (h2:x.2=c::r):fD s i x=(x.1.set i (qY (eG s i) p c),r):=by
 unfold fD;rw [h1,h2]
theorem sl {s:St} {i:Nat} {x:List (List UInt8) × List UInt8} (h1:bU s i=none):fD s i x=x:=by
 unfold fD;rw [h1]
theorem uy {s:St} {i:Nat} {x:List (List UInt8) × List UInt8} (h1:x.2=[]):fD s i x=x:=by
 unfold fD;rw [h1];cases bU s i <;> rfl
theorem gM (s:St) (i:Nat) (x:List (List UInt8) × List UInt8):fD s i x=x∨∃ p c r,bU s i=some p∧x.2=c::r∧fD s i x=(x.1.set i (qY (eG s i) p c),r):=by
 cases h1:bU s i with
 | none=>exact Or.inl (sl h1)
 |
  some p=>
  cases h2:x.2 with
  | nil=>exact Or.inl (uy h2)
  | cons c r=>exact Or.inr ⟨p,c,r,rfl,rfl,sj h1 h2⟩
theorem iL (s:St) (gL:List UInt8):∀ k,(eJ s gL k).1.length=s.last.length
 | 0=>rfl
 |
  k+1=>by
  rw [eJ]
  rcases gM s k (eJ s gL k) with e | ⟨p,c,r,_,_,e⟩
  ·rw [e];exact iL s gL k
  ·rw [e,List.length_set];exact iL s gL k
theorem iK {s:St} (h:s.Ok) (gL:List UInt8):∀ k,k≤s.last.length→∀ p∈(eJ s gL k).1,p.length=64
 | 0,_=>h.dJ
 |
  k+1,hk=>by
  rw [eJ]
  rcases gM s k (eJ s gL k) with e | ⟨p,c,r,hp,_,e⟩
  ·rw [e];exact iK h gL k (by omega)
  ·rw [e]
   intro q hq
   rcases List.mem_or_eq_of_mem_set hq with h1 | h1
   ·exact iK h gL k (by omega) q h1
   ·rw [h1];exact qX c (qH h (by omega)) (pB h hp)
theorem yc {n:Nat} (h1:1≤n) (h2:n≤512):(fresh n).Ok where
 same:=by unfold fresh;simp
 pos:=by unfold fresh;simpa using h1
 small:=by unfold fresh;simpa using h2
 dJ:=fun p hp=>by rw [List.eq_of_mem_replicate hp];exact aa
 mI:=fun p hp=>by
  have:=List.eq_of_mem_replicate hp
  cases this
 lo:=by show _≤(0:Int);omega
 hi:=by show (0:Int)≤_;omega
 live:=fun e=>by cases e
theorem sE (s:St) (i:Int) (p:List UInt8):(write s i p).last.length=s.last.length:=by
 unfold write
 split
 ·split
  ·show (put (df s) _ p).last.length=_;unfold put;rw [dP]
  ·rw [dP]
 ·rfl
theorem DG (s:St):(flush s).last.length=s.last.length:=by
 unfold flush
 split
 ·rfl
 ·split
  ·unfold eH;simp [dP]
  ·rw [dP]
theorem DW (s:St) (gL:List UInt8):(JV s gL).last.length=s.last.length:=iL _ _ _
end Dk

section
open Go.RowKit
theorem iy {k:IntKind} {a b:Int} (h:a=b):Ending.returned (.int k a)=.returned (.int k b):=by rw [h]
theorem bS {a b:Bool} (h:a=b):Ending.returned (.bool a)=.returned (.bool b):=by rw [h]
def ab (p:List UInt8):List Value:=p.map fun c=>Value.int .u8 (c.toNat:Int)
theorem aj (p:List UInt8):(ab p).length=p.length:=by simp [ab]
theorem bV (p:List UInt8):∀ v∈ab p,v.oneCell'=true:=by
 intro v hv
 obtain ⟨c,_,rfl⟩:=List.mem_map.1 hv
 rfl
theorem cd (p:List UInt8) (j:Nat) (h:j<p.length):(ab p)[j]?=some (.int .u8 (p[j].toNat:Int)):=by
 unfold ab
 rw [List.getElem?_map,List.getElem?_eq_getElem h];rfl
theorem mL (p:List UInt8) (i:Nat) (c:UInt8):(ab p).set i (.int .u8 (c.toNat:Int))=ab (p.set i c):=by
 unfold ab;rw [List.map_set]
theorem uC (p q:List UInt8) (h:ab p=ab q):p=q:=by
 unfold ab at h
 refine List.map_inj_right (fun a b hab=>?_) |>.1 h
 injection hab with _ hab
 exact UInt8.toNat_inj.1 (by omega)
def an (p:List UInt8):Value:=.agg (ab p).toArray
theorem tM (p:List UInt8):Value.agg (ab p).toArray=an p:=rfl
theorem aY:(Tryz.prog.info? 87).map (·.size)=some 64:=by kernel_rfl
theorem yl:Tryz.prog.cellsOf 5=1:=by kernel_rfl
structure aD (w:World) (b:Nat) (p:List UInt8):Prop where
 len:p.length=64
 range:w.rangeAt b 0 (ab p)
 free:w.there b 0 64
theorem aD.cell {w:World} {b:Nat} {p:List UInt8} (h:aD w b p) (j:Nat) (hj:j<64):w.cell? ⟨b,j,none⟩=some (.int .u8 ((p.getD j 0).toNat:Int)):=by
 have hj':j<p.length:=by rw [h.len];exact hj
 have:=h.range j _ (cd p j hj')
 rw [Nat.zero_add] at this
 rw [this,List.getD_eq_getElem?_getD,List.getElem?_eq_getElem hj'];rfl
theorem aD.isSome {w:World} {b:Nat} {p:List UInt8} (h:aD w b p) (j:Nat) (hj:j<64):(w.cell? ⟨b,j,none⟩).isSome=true:=by
 rw [h.cell j hj];rfl
theorem aD.frozen {w:World} {b:Nat} {p:List UInt8} (h:aD w b p) (j:Nat) (hj:j<64):w.frozen? ⟨b,j,none⟩=false:=by
 have:=(h.free j hj).2
 rwa [Nat.zero_add] at this
theorem aD.lt {w:World} {b:Nat} {p:List UInt8} (h:aD w b p):b<w.heap.size:=
 World.block_lt_of_cell? w _ (h.cell 0 (by omega))
theorem eY (w:World) (Z:Array Value) (t:TypeId) (n:Nat) (h:n≤Z.size):(w.alloc (.cells Z t)).there w.heap.size 0 n:=by
 intro j hj
 rw [Nat.zero_add,World.cell?_alloc_mark,World.frozen?_alloc_mark,Array.getElem?_eq_getElem (by omega)]
 exact ⟨rfl,by simp⟩
theorem bF (w:World) (p:List UInt8) (t:TypeId) (hp:p.length=64):aD (w.alloc (.cells (ab p).toArray t)) w.heap.size p where
 len:=hp
 range:=fun j v hv=>by
  rw [Nat.zero_add,World.cell?_alloc_mark]
  simpa using hv
 free:=eY w _ t _ (by rw [List.size_toArray,aj];omega)
theorem aD.alloc {w:World} {b:Nat} {p:List UInt8} (h:aD w b p) (o:Obj):aD (w.alloc o) b p:=⟨h.len,World.rangeAt_alloc h.range o,World.there_alloc h.free o⟩
theorem aD.drew {w:World} {b:Nat} {p:List UInt8} (h:aD w b p):aD w.drew b p:=⟨h.len,(World.rangeAt_drew ..).2 h.range,(World.there_drew ..).2 h.free⟩
theorem aD.below {n:Nat} {w w':World} {b:Nat} {p:List UInt8} (h:aD w b p) (hb:Below n w w') (hn:b<n):aD w' b p where
 len:=h.len
 range:=fun j v hv=>(hb.cell (p:=⟨b,0+j,none⟩) hn).trans (h.range j v hv)
 free:=fun j hj=>by
  rw [hb.cell (p:=⟨b,0+j,none⟩) hn,hb.frozen (p:=⟨b,0+j,none⟩) hn]
  exact h.free j hj
theorem aD.set {w:World} {b:Nat} {p:List UInt8} (h:aD w b p) (i:Nat) (c:UInt8) (hi:i<64):aD (w.setCell ⟨b,i,none⟩ (.int .u8 (c.toNat:Int))) b (p.set i c) where
 len:=by rw [List.length_set,h.len]
 range:=fun j v hv=>by
  rw [Nat.zero_add]
  rw [← mL,List.getElem?_set] at hv
  by_cases e:i=j
  ·subst e
   rw [if_pos rfl,if_pos (by rw [aj,h.len];exact hi)] at hv
   injection hv with hv
   rw [← hv]
   exact World.cell?_setCell_same' _ _ _ (h.isSome i hi)
  ·rw [if_neg e] at hv
   rw [World.cell?_setCell_other _ _ _ _ (fun q=>e (by injection q))]
   have:=h.range j v hv
   rwa [Nat.zero_add] at this
 free:=fun j hj=>by
  rw [Nat.zero_add]
  refine ⟨?_,by rw [World.frozen?_setCell];exact h.frozen j hj⟩
  by_cases e:i=j
  ·subst e
   rw [World.cell?_setCell_same' _ _ _ (h.isSome i hi)];rfl
  ·rw [World.cell?_setCell_other _ _ _ _ (fun q=>e (by injection q))]
   exact h.isSome j hj
theorem aD.kR {w:World} {b:Nat} {p:List UInt8} (h:aD w b p) (b' i:Nat) (v:Value) (hb:b≠b'):aD (w.setCell ⟨b',i,none⟩ v) b p where
 len:=h.len
 range:=fun j u hu=>by
  rw [World.cell?_setCell_other _ _ _ _ (fun q=>hb (by injection q with q;exact q.symm))];exact h.range j u hu
 free:=fun j hj=>by
  rw [World.cell?_setCell_other _ _ _ _ (fun q=>hb (by injection q with q;exact q.symm)),World.frozen?_setCell];exact h.free j hj
theorem aD.put {w:World} {b:Nat} {p:List UInt8} (h:aD w b p) (q:List UInt8) (hq:q.length=64):aD (w.setCells b 0 (ab q)) b q where
 len:=hq
 range:=World.rangeAt_setCells_same _ _ _ _ (by rw [aj,hq];exact h.free)
 free:=World.there_setCells h.free _ _ _
theorem aD.bl {w:World} {b:Nat} {p:List UInt8} (h:aD w b p) (b' o:Nat) (vs:List Value) (hb:b≠b'):aD (w.setCells b' o vs) b p where
 len:=h.len
 range:=World.rangeAt_setCells_apart h.range _ _ _ (Or.inl hb)
 free:=World.there_setCells h.free _ _ _
theorem below_setCells {B:Nat} {a:World} (b:Nat) (hb:B≤b):∀ (vs:List Value) (o:Nat) (w:World),Below B a w→Below B a (w.setCells b o vs)
 | [],_,_,h=>h
 |
  v::r,o,w,h=>by
  rw [World.setCells]
  exact below_setCells b hb r (o+1) _ (h.setCell (by exact hb) v)
theorem bC (b:Nat):∀ (vs:List Value) (o:Nat) (w:World),(w.setCells b o vs).heap.size=w.heap.size
 | [],_,_=>rfl
 |
  v::r,o,w=>by
  rw [World.setCells,bC b r (o+1)];simp
theorem bE (fn:Func) (s:Nat) (hf:fn.results=#[.cell s 87]) {w:World} {b:Nat} {q:List UInt8} (tmps:Array Value) (h:aD w b q) (ht:tmps.getD s undef=.pointer (some ⟨b,0,none⟩)):
  (results fn tmps).run Tryz.prog w=.ok (an q) w:=by
 have hl:=run_loadVar_mid (P:=Tryz.prog) w b 0 87 (ab q) _ h.range Tryz.underlying87 rfl (by rw [aY,aj,h.len])
 unfold results
 rw [hf]
 simp only [Array.mapM_eq_mapM_toList,List.mapM_cons,List.mapM_nil,ht,asAddr,Sem.run_bind,Sem.run_pure,Result.andThen_ok,hl,Sem.run_map]
 rfl
theorem ah {ops:Array Oper} {rest:List Oper} {op:Oper} {a:Act} {Q:Exit→Act→World→Prop} {w:World} {b:Nat} {p:List UInt8} (hp:aD w b p) (hgd:op.guard=none) (x:Operand) (ho:op.op=.load 87 x)
  (hx:a.eval x=.pointer (some ⟨b,0,none⟩)) (h:wpList Tryz.prog ops Q rest (a.put op.dst (an p)) w):wpList Tryz.prog ops Q (op::rest) a w:=
 wpList_load_mid hgd 87 x ho b 0 hx (ab p) _ hp.range Tryz.underlying87 rfl (by rw [aY,aj,hp.len]) h
theorem bo {ops:Array Oper} {rest:List Oper} {op:Oper} {a:Act} {Q:Exit→Act→World→Prop} {w:World} {b:Nat} {p:List UInt8} (hp:aD w b p) (x:Operand) (ho:op.op=.load 87 x)
  (hx:a.eval x=.pointer (some ⟨b,0,none⟩)) (hw:Region.wanted op (yielded ops a.tmps)=true) (h:wpList Tryz.prog ops Q rest (a.put op.dst (an p)) w):wpList Tryz.prog ops Q (op::rest) a w:=
 BigFrame.wpList_want hw fun _ hK=>wp_load_mid 87 x ho b 0 hx (ab p) _ hp.range Tryz.underlying87 rfl (by rw [aY,aj,hp.len]) (hK _ _ h)
theorem aD.mW {w:World} {b:Nat} {p:List UInt8} (h:aD w b p):(loadVar 87 ⟨b,0,none⟩).run Tryz.prog w=.ok (an p) w:=
 run_loadVar_mid (P:=Tryz.prog) w b 0 87 (ab p) _ h.range Tryz.underlying87 rfl (by rw [aY,aj,h.len])
theorem aD.Jr {w:World} {b:Nat} {p:List UInt8} (h:aD w b p):(Instr.loadAt 87 (.pointer (some ⟨b,0,none⟩))).run Tryz.prog w=.ok (an p) w:=
 run_loadAt_mid (P:=Tryz.prog) w b 0 87 (ab p) _ h.range Tryz.underlying87 rfl (by rw [aY,aj,h.len])
theorem aq {ops:Array Oper} {rest:List Oper} {op:Oper} {a:Act} {Q:Exit→Act→World→Prop} {w:World} {Z:Array Value} {t:TypeId} {p:List UInt8} (hgd:op.guard=none) (x y:Operand) (ho:op.op=.store 87 x y)
  (hx:a.eval x=.pointer (some ⟨w.heap.size,0,none⟩)) (hy:a.eval y=an p) (hZ:Z.size=64) (hp:p.length=64)
  (h:∀ W2,aD W2 w.heap.size p→Below w.heap.size w W2→W2.heap.size=w.heap.size+1→wpList Tryz.prog ops Q rest (a.put op.dst undef) W2):
  wpList Tryz.prog ops Q (op::rest) a (w.alloc (.cells Z t)):=by
 have hlen:(ab p).toArray.size=64:=by rw [List.size_toArray,aj,hp]
 have ht:(w.alloc (.cells Z t)).there w.heap.size 0 64:=eY w Z t _ (by omega)
 refine wpList_store_mid hgd 87 x y ho w.heap.size 0 (ab p).toArray hx hy (by rw [hlen];exact ht) (by rw [aY,hlen]) (all_oneCell_toArray (bV p)) (h _ ?_ ?_ ?_)
 ·exact ⟨hp,World.rangeAt_setCells_same _ _ _ _ (by rw [List.toList_toArray,aj,hp];exact ht),World.there_setCells ht _ _ _⟩
 ·exact below_setCells _ (Nat.le_refl _) _ _ _ ((Below.refl _ _).alloc (Nat.le_refl _) _)
 ·rw [bC];simp
theorem ax {ops:Array Oper} {rest:List Oper} {op:Oper} {a:Act} {Q:Exit→Act→World→Prop} {w:World} {b:Nat} {q p:List UInt8} (hq:aD w b q) (hp:p.length=64) (hgd:op.guard=none) (x y:Operand) (ho:op.op=.store 87 x y)
  (hx:a.eval x=.pointer (some ⟨b,0,none⟩)) (hy:a.eval y=an p) (h:wpList Tryz.prog ops Q rest (a.put op.dst undef) (w.setCells b 0 (ab p))):wpList Tryz.prog ops Q (op::rest) a w:=
 wpList_store_mid hgd 87 x y ho b 0 (ab p).toArray hx hy (by rw [List.size_toArray,aj,hp];exact hq.free) (by rw [aY,List.size_toArray,aj,hp]) (all_oneCell_toArray (bV p)) (by simpa using h)
theorem Jw:∃ i,Tryz.prog.info? 5=some i:=by
 cases h:Tryz.prog.info? 5 with
 | none=>
      have e:(Tryz.prog.info? 5).isSome=true:=by kernel_rfl
      rw [h] at e;cases e
 | some i=>exact ⟨i,rfl⟩
theorem Hl:Tryz.prog.arrayLen 87=64:=by kernel_rfl
theorem Ai:Tryz.prog.elem 87=5:=by kernel_rfl
theorem fU (w:World):(sizeOf 5).run Tryz.prog w=.ok 1 w:=by
 obtain ⟨i,hi⟩:=Jw
 rw [run_sizeOf w hi,yl]
theorem sL:Tryz.prog.underlying 87=some (.array (Tryz.prog.arrayLen 87) (Tryz.prog.elem 87)):=by rw [Hl,Ai];exact Tryz.underlying87
theorem eW (w:World) (b a n:Nat) (h1:1≤n) (h:a+n≤64):
  (Instr.sliceAt 87 (.pointer (some ⟨b,0,none⟩)) (some (.int .i64 (a:Int))) (some (.int .i64 ((a:Int)+(n:Int)))) none).run Tryz.prog w=.ok (.slice (some ⟨b,a,none⟩) n (64 - a)) w:=by
 rw [run_sliceAt_array_lh w _ _ sL .i64 .i64 (a:Int) ((a:Int)+(n:Int)) (by omega) (by omega) (by rw [Hl];omega),Ai,fU,Hl,Result.andThen_ok]
 unfold slicedAt
 have e1:(a:Int).toNat=a:=Int.toNat_natCast a
 have e2:((a:Int)+(n:Int)).toNat - a=n:=by omega
 rw [e1,e2,if_neg (by omega),Nat.mul_one,Addr.add_mid,Nat.zero_add]
theorem kT (w:World) (b:Nat):
  (Instr.sliceAt 87 (.pointer (some ⟨b,0,none⟩)) none none none).run Tryz.prog w=.ok (.slice (some ⟨b,0,none⟩) 64 64) w:=by
 rw [run_sliceAt_array_all w _ _ sL,Ai,fU,Hl,Result.andThen_ok]
 unfold slicedAt
 rw [if_neg (by omega),Nat.zero_mul,Addr.add_mid]
open Dk (av aa)
def zeroCells:Array Value:=(ab av).toArray
theorem di (w:World) (t:TypeId):aD (w.alloc (.cells zeroCells t)) w.heap.size av:=bF w av t aa
theorem az:zeroCells=#[.int .u8 0,.int .u8 0,.int .u8 0,.int .u8 0,.int .u8 0,.int .u8 0,.int .u8 0,.int .u8 0,.int .u8 0,.int .u8 0,.int .u8 0,.int .u8 0,.int .u8 0,.int .u8 0,.int .u8 0,.int .u8 0,
  .int .u8 0,.int .u8 0,.int .u8 0,.int .u8 0,.int .u8 0,.int .u8 0,.int .u8 0,.int .u8 0,.int .u8 0,.int .u8 0,.int .u8 0,.int .u8 0,.int .u8 0,.int .u8 0,.int .u8 0,.int .u8 0,
  .int .u8 0,.int .u8 0,.int .u8 0,.int .u8 0,.int .u8 0,.int .u8 0,.int .u8 0,.int .u8 0,.int .u8 0,.int .u8 0,.int .u8 0,.int .u8 0,.int .u8 0,.int .u8 0,.int .u8 0,.int .u8 0,
  .int .u8 0,.int .u8 0,.int .u8 0,.int .u8 0,.int .u8 0,.int .u8 0,.int .u8 0,.int .u8 0,.int .u8 0,.int .u8 0,.int .u8 0,.int .u8 0,.int .u8 0,.int .u8 0,.int .u8 0,.int .u8 0]:=rfl
theorem tq (w:World) (p:List UInt8) (i:Nat) (h:i<p.length):(part 5 (ab p).toArray i).run Tryz.prog w=.ok (.int .u8 (p[i].toNat:Int)) w:=by
 have e:((ab p).toArray)[i]?=some (.int .u8 (p[i].toNat:Int)):=by rw [List.getElem?_toArray];exact cd p i h
 have ha:(isAgg 5).run Tryz.prog w=.ok false w:=by
  unfold isAgg
  rw [Sem.run_bind,run_underlying Tryz.underlying5 w];rfl
 unfold part
 rw [Sem.run_bind,ha]
 simp only [Result.andThen_ok,e]
 rfl
theorem oh (w:World) (p q:List UInt8) (hl:p.length=q.length) (d:Nat):∀ (n i:Nat),i+n=p.length →
  (Op.eqItems (d+1) 5 1 (ab p).toArray (ab q).toArray (List.range' i n)).run Tryz.prog w=.ok (decide (p.drop i=q.drop i)) w
 |
  0,i,h=>by
  rw [List.range'_zero,Op.eqItems,List.drop_of_length_le (by omega),List.drop_of_length_le (by omega)];rfl
 |
  n+1,i,h=>by
  have hp:i<p.length:=by omega
  have hq:i<q.length:=by omega
  have e1:=tq w p i hp
  have e2:=tq w q i hq
  have e3:=run_equalIn_int (P:=Tryz.prog) w d 5 .u8 .u8 (p[i].toNat:Int) (q[i].toNat:Int) Tryz.underlying5
  have ih:=oh w p q hl d n (i+1) (by omega)
  rw [List.range'_succ,Op.eqItems,Nat.mul_one]
  simp only [Sem.run_bind,e1,e2,e3,Result.andThen_ok]
  have dp:p.drop i=p[i]::p.drop (i+1):=List.drop_eq_getElem_cons hp
  have dq:q.drop i=q[i]::q.drop (i+1):=List.drop_eq_getElem_cons hq
  by_cases c:p[i]=q[i]
  ·have c1:((p[i].toNat:Int) == (q[i].toNat:Int))=true:=by rw [c];exact beq_self_eq_true _
   rw [c1]
   simp only [Bool.not_true,Bool.false_eq_true,if_false]
   rw [ih]
   congr 1
   rw [dp,dq,decide_eq_decide,c,List.cons.injEq]
   exact ⟨fun h=>⟨rfl,h⟩,fun h=>h.2⟩
  ·have c1:((p[i].toNat:Int) == (q[i].toNat:Int))=false:=by
    rw [beq_eq_false_iff_ne]
    intro e
    exact c (UInt8.toNat_inj.1 (by omega))
   rw [c1]
   simp only [Bool.not_false,if_true]
   rw [Sem.run_pure]
   congr 1
   rw [dp,dq]
   symm
   rw [decide_eq_false_iff_not]
   intro e
   exact c (by injection e)
theorem oe (w:World) (p q:List UInt8) (hp:p.length=64) (hq:q.length=64):(Op.equalIn 10000 87 (an p) (an q)).run Tryz.prog w=.ok (decide (p=q)) w:=by
 obtain ⟨i,hi⟩:=Jw
 unfold an
 rw [run_equalIn_array w 9999 _ _ Tryz.underlying87 hi,yl,List.range_eq_range']
 have:=oh w p q (hp.trans hq.symm) 9998 64 0 (by omega)
 simpa using this
theorem gB (w:World) (p q:List UInt8) (hp:p.length=64) (hq:q.length=64):(binOp .neq 87 (an p) (an q)).run Tryz.prog w=.ok (.bool (!decide (p=q))) w:=by
 have h:=oe w p q hp hq
 unfold an at h ⊢
 rw [run_neq_struct,h];rfl
end

namespace Pg
def sA (a n:Int):Bool:=decide (0≤a∧0≤n∧a≤64 - n)
def gN (a n:Int):Bool:=decide (1≤n∧n≤4∧0≤a∧a≤64 - n)
theorem se {a n:Int} (h:sA a n=true):0≤a∧0≤n∧a≤64 - n:=of_decide_eq_true h
theorem rO {a n:Int} (h:gN a n=true):1≤n∧n≤4∧0≤a∧a≤64 - n:=of_decide_eq_true h
theorem Lb {a n:Int} (h:gN a n=false):n<1∨4<n∨a<0∨64 - n<a:=by have:=of_decide_eq_false h;omega
theorem qL {a n:Int} (h1:0≤a) (h2:0≤n) (h3:a≤64 - n):sA a n=true:=decide_eq_true ⟨h1,h2,h3⟩
theorem ke {a n:Int} (h1:1≤n) (h2:n≤4) (h3:0≤a) (h4:a≤64 - n):gN a n=true:=decide_eq_true ⟨h1,h2,h3,h4⟩
def numOf (l:List UInt8):Int:=l.foldl (fun n c=>n*256+(c.toNat:Int)) 0
theorem zI (l:List UInt8) (c:UInt8):numOf (l++[c])=numOf l*256+(c.toNat:Int):=by
 unfold numOf;rw [List.foldl_append];rfl
theorem oJ:numOf []=0:=rfl
theorem DE (l:List UInt8) (x:Int):l.foldl (fun n c=>n*256+(c.toNat:Int)) x=x*256 ^ l.length+numOf l:=by
 unfold numOf
 induction l generalizing x with
 | nil=>simp
 |
  cons c l ih=>
  rw [List.foldl_cons,List.foldl_cons,ih (x*256+(c.toNat:Int)),ih (0*256+(c.toNat:Int)),List.length_cons,Int.pow_succ,Int.add_mul,Int.add_mul]
  have e:x*256*256 ^ l.length=x*(256 ^ l.length*256):=by rw [Int.mul_assoc,Int.mul_comm 256 (256 ^ l.length)]
  omega
theorem gX (c:UInt8) (l:List UInt8):numOf (c::l)=(c.toNat:Int)*256 ^ l.length+numOf l:=by
 unfold numOf;rw [List.foldl_cons,DE,Int.zero_mul,Int.zero_add];rfl
theorem iA (l:List UInt8):0≤numOf l∧numOf l<256 ^ l.length:=by
 induction l with
 | nil=>simp [oJ]
 |
  cons c l ih=>
  obtain ⟨h0,h1⟩:=ih
  have hc:=c.toNat_lt
  rw [gX,List.length_cons,Int.pow_succ]
  generalize (256:Int) ^ l.length=m at h1 ⊢
  have hm:0≤m:=by omega
  have k1:(c.toNat:Int)*m≤255*m:=Int.mul_le_mul_of_nonneg_right (by omega) hm
  have k0:0≤(c.toNat:Int)*m:=Int.mul_nonneg (by omega) hm
  omega
theorem vR (l:List UInt8) (h:l.length≤3):0≤numOf l∧numOf l<16777216:=by
 obtain ⟨h0,h1⟩:=iA l
 refine ⟨h0,?_⟩
 have:l.length=0∨l.length=1∨l.length=2∨l.length=3:=by omega
 rcases this with e | e | e | e <;> (rw [e] at h1;omega)
theorem lU (l:List UInt8) (h:l.length≤4):0≤numOf l∧numOf l<4294967296:=by
 obtain ⟨h0,h1⟩:=iA l
 refine ⟨h0,?_⟩
 have:l.length=0∨l.length=1∨l.length=2∨l.length=3∨l.length=4:=by omega
 rcases this with e | e | e | e | e <;> (rw [e] at h1;omega)
def bR (k:Nat) (n:Int):UInt8:=UInt8.ofNat (n / 256 ^ k % 256).toNat
theorem mo (k:Nat) (n:Int):((bR k n).toNat:Int)=n / 256 ^ k % 256:=by
 unfold bR
 have h0:=Int.emod_nonneg (n / 256 ^ k) (show (256:Int)≠0 by omega)
 have h1:=Int.emod_lt_of_pos (n / 256 ^ k) (show (0:Int)<256 by omega)
 rw [UInt8.toNat_ofNat']
 omega
def aX:Nat→Int→List UInt8
 | 0,_=>[]
 | k+1,n=>bR k n::aX k n
theorem aT (k:Nat) (n:Int):(aX k n).length=k:=by
 induction k with
 | zero=>rfl
 | succ k ih=>rw [aX,List.length_cons,ih]
theorem DS (n m:Int) (hm:0<m):n % (m*256)=n % m+m*(n / m % 256):=by
 have h1:=Int.mul_ediv_add_emod n m
 have h2:=Int.mul_ediv_add_emod (n / m) 256
 have r0:=Int.emod_nonneg n (show m≠0 by omega)
 have r1:=Int.emod_lt_of_pos n hm
 have q0:=Int.emod_nonneg (n / m) (show (256:Int)≠0 by omega)
 have q1:=Int.emod_lt_of_pos (n / m) (show (0:Int)<256 by omega)
 have e:n=(n % m+m*(n / m % 256))+(m*256)*(n / m / 256):=by
  conv=>lhs;rw [← h1,← h2]
  rw [Int.mul_add,Int.mul_assoc]
  omega
 have b1:m*(n / m % 256)≤m*255:=Int.mul_le_mul_of_nonneg_left (by omega) (by omega)
 have b0:0≤m*(n / m % 256):=Int.mul_nonneg (by omega) q0
 conv=>lhs;rw [e]
 rw [Int.add_mul_emod_self_left,Int.emod_eq_of_lt (by omega) (by omega)]
theorem cQ (k:Nat) (n:Int):numOf (aX k n)=n % 256 ^ k:=by
 induction k with
 | zero=>simp [aX,oJ,Int.emod_one]
 |
  succ k ih=>
  rw [aX,gX,ih,mo,aT,Int.pow_succ]
  rw [DS n (256 ^ k) (Int.pow_pos (by omega))]
  have:n / 256 ^ k % 256*256 ^ k=256 ^ k*(n / 256 ^ k % 256):=Int.mul_comm _ _
  omega
def over (p:List UInt8) (a:Nat) (s:List UInt8):List UInt8:=p.take a++(s++p.drop (a+s.length))
theorem xI (p:List UInt8) (a:Nat):over p a []=p:=by unfold over;simp
theorem bj (p:List UInt8) (a:Nat) (s:List UInt8) (h:a+s.length≤p.length):(over p a s).length=p.length:=by
 unfold over;simp;omega
theorem eF (p:List UInt8) (a:Nat) (s:List UInt8) (j:Nat) (h:a+s.length≤p.length):
  (over p a s)[j]?=if j<a then p[j]? else if j<a+s.length then s[j - a]? else p[j]?:=by
 unfold over
 have hl:(p.take a).length=a:=by simp;omega
 by_cases h1:j<a
 ·rw [if_pos h1,List.getElem?_append_left (by omega),List.getElem?_take,if_pos h1]
 ·rw [if_neg h1,List.getElem?_append_right (by omega),hl]
  by_cases h2:j<a+s.length
  ·rw [if_pos h2,List.getElem?_append_left (by omega)]
  ·rw [if_neg h2,List.getElem?_append_right (by omega),List.getElem?_drop]
   congr 1;omega
theorem oF (p:List UInt8) (a:Nat) (s:List UInt8) (c:UInt8) (h:a+1+s.length≤p.length):(over p (a+1) s).set a c=over p a (c::s):=by
 apply List.ext_getElem?
 intro j
 rw [List.getElem?_set,bj _ _ _ h,eF _ _ _ _ h,eF _ _ _ _ (by rw [List.length_cons];omega),List.length_cons]
 by_cases h1:a=j
 ·subst h1
  rw [if_pos rfl,if_pos (by omega),if_neg (by omega),if_pos (by omega),Nat.sub_self];rfl
 ·rw [if_neg h1]
  by_cases h2:j<a
  ·rw [if_pos (by omega),if_pos h2]
  ·rw [if_neg (by omega),if_neg h2]
   by_cases h3:j<a+1+s.length
   ·rw [if_pos h3,if_pos (by omega)]
    obtain ⟨i,rfl⟩:∃ i,j=a+1+i:=⟨j - (a+1),by omega⟩
    rw [show a+1+i - (a+1)=i by omega,show a+1+i - a=i+1 by omega,List.getElem?_cons_succ]
   ·rw [if_neg h3,if_neg (by omega)]
theorem Cs (p:List UInt8) (a:Nat) (s:List UInt8) (h:a+s.length≤p.length):((over p a s).drop a).take s.length=s:=by
 unfold over
 rw [List.drop_append_of_le_length (by simp;omega),List.drop_take_self,List.nil_append,List.take_left']
 rfl
def ba (p:List UInt8) (a n:Int):Int:=if gN a n=true then numOf ((p.drop a.toNat).take n.toNat) else 0
def eV (p:List UInt8) (a n v:Int):List UInt8:=if gN a n=true then over p a.toNat (aX n.toNat v) else p
def kj (p:List UInt8) (a n:Int):List UInt8:=if sA a n=true then (p.drop a.toNat).take n.toNat else []
def br (p:List UInt8) (a:Int) (s:List UInt8):List UInt8:=if sA a s.length=true then over p a.toNat s else p
theorem aP (p:List UInt8) (a n v:Int) (h:p.length=64):(eV p a n v).length=64:=by
 unfold eV
 split
 ·have:=rO (by assumption)
  rw [bj _ _ _ (by rw [aT];omega),h]
 ·exact h
theorem fT (p:List UInt8) (a:Int) (s:List UInt8) (h:p.length=64):(br p a s).length=64:=by
 unfold br
 split
 ·have:=se (by assumption)
  rw [bj _ _ _ (by omega),h]
 ·exact h
end Pg

section
open Go.RowKit
theorem qK (a n:Int) (w:World) (h1:-9223372036854775808≤n) (h2:n≤9223372036854775807):
  Calls Tryz.prog 179 #[.int .i64 a,.int .i64 n] w fun e w'=>e=.returned (.bool (Pg.sA a n))∧w=w':=by
 go_enter Tryz.func179,Tryz.ntmps179
 by_cases c1:0≤a
 ·by_cases c2:0≤n
  ·go_wp2
   go_ret
   exact ⟨bS (by unfold Pg.sA;rw [decide_eq_decide];omega),rfl⟩
  ·go_wp2
   go_ret
   exact ⟨bS (by unfold Pg.sA;symm;rw [decide_eq_false_iff_not];omega),rfl⟩
 ·go_wp2
  go_ret
  exact ⟨bS (by unfold Pg.sA;symm;rw [decide_eq_false_iff_not];omega),rfl⟩
theorem lY (a n:Int) (w:World) (h1:-9223372036854775808≤n) (h2:n≤9223372036854775807) (h:Pg.sA a n=true):
  Calls Tryz.prog 179 #[.int .i64 a,.int .i64 n] w fun e w'=>e=.returned (.bool true)∧w=w':=h ▸ qK a n w h1 h2
theorem oY (a n:Int) (w:World) (h1:-9223372036854775808≤n) (h2:n≤9223372036854775807) (h:Pg.sA a n=false):
  Calls Tryz.prog 179 #[.int .i64 a,.int .i64 n] w fun e w'=>e=.returned (.bool false)∧w=w':=h ▸ qK a n w h1 h2
theorem uf (a n:Int) (w:World) (h:Pg.gN a n=true):
  Calls Tryz.prog 233 #[.int .i64 a,.int .i64 n] w fun e w'=>e=.returned (.bool true)∧w=w':=by
 obtain ⟨c1,c2,c3,c4⟩:=Pg.rO h
 have HI:=Lib.hid (Pg.qL c3 (show 0≤n by omega) c4)
 clear h
 go_enter Tryz.func233,Tryz.ntmps233
 go_wp2_with (go_at_call 179;refine (lY _ _ _ (by omega) (by omega) HI.out).mono ?_;rintro e w' ⟨rfl,rfl⟩)
 go_ret
 exact ⟨rfl,rfl⟩
theorem xY (a n:Int) (w:World) (h1:-9223372036854775808≤n) (h2:n≤9223372036854775807) (h:Pg.gN a n=false):
  Calls Tryz.prog 233 #[.int .i64 a,.int .i64 n] w fun e w'=>e=.returned (.bool false)∧w=w':=by
 have hn:=Pg.Lb h
 clear h
 by_cases c1:1≤n
 ·by_cases c2:n≤4
  ·have HI:Hid (Pg.sA a n=false):=Lib.hid (by unfold Pg.sA;rw [decide_eq_false_iff_not];omega)
   clear hn
   go_enter Tryz.func233,Tryz.ntmps233
   go_wp2_with (go_at_call 179;refine (oY _ _ _ (by omega) (by omega) HI.out).mono ?_;rintro e w' ⟨rfl,rfl⟩)
   go_ret
   exact ⟨rfl,rfl⟩
  ·clear hn
   go_enter Tryz.func233,Tryz.ntmps233
   go_wp2
   go_ret
   exact ⟨rfl,rfl⟩
 ·clear hn
  go_enter Tryz.func233,Tryz.ntmps233
  go_wp2
  go_ret
  exact ⟨rfl,rfl⟩
end

section
open Go.RowKit
open Dk (av aa)
theorem AJ (n:Int) (h₀:0≤n) (h₁:n<2 ^ 62):IntKind.i64.wrap n=n:=by rw [IntKind.wrap_i64];omega
theorem KU (n c:Int) (h0:0≤n) (h1:n<16777216) (h2:0≤c) (h3:c<256):bits BinOp.or IntKind.i64 (n*256) c=n*256+c:=
 bits_join .i64 62 (by decide) AJ 8 (n*256) c (by omega) (by omega) (by omega) h2 (by omega) (by omega)
theorem take_one {α:Type} (l:List α) (d:α) (k:Nat) (h:k<l.length):l.take (k+1)=l.take k++[l.getD k d]:=by
 rw [List.take_succ_eq_append_getElem h,List.getD_eq_getElem?_getD,List.getElem?_eq_getElem h];rfl
theorem JB (p:List UInt8) (a n:Nat) (w:World) (hp:p.length=64) (h1:1≤n) (h2:n≤4) (h3:a+n≤64):
  Calls Tryz.prog 205 #[an p,.int .i64 (a:Int),.int .i64 (n:Int)] w fun e w'=>e=.returned (.int .i64 (Pg.numOf ((p.drop a).take n)))∧Below w.heap.size w w':=by
 have HP:=Lib.hid (bF w p 87 hp)
 have HL:Hid (((p.drop a).take n).length=n):=Lib.hid (by simp [hp];omega)
 have HB:Hid (Below w.heap.size w (w.alloc (.cells (ab p).toArray 87))):=Lib.hid ((Below.refl _ _).alloc (Nat.le_refl _) _)
 have HN:Hid (Pg.gN (a:Int) (n:Int)=true):=Lib.hid (Pg.ke (by omega) (by omega) (by omega) (by omega))
 have HG:Hid (∀ k,k<n→((p.drop a).take n).getD k 0=p.getD (a+k) 0):=Lib.hid (fun k hk=>by
  rw [List.getD_eq_getElem?_getD,List.getD_eq_getElem?_getD,List.getElem?_take,if_pos hk,List.getElem?_drop])
 clear hp
 generalize (p.drop a).take n=l at HL HG ⊢
 have HS:=eW (w.alloc (.cells (ab p).toArray 87)) w.heap.size a n h1 h3
 unfold an
 go_enter Tryz.func205,Tryz.ntmps205
 go_wp2_with (go_at_call 233;refine (uf _ _ _ HN.out).mono ?_;rintro e w' ⟨rfl,rfl⟩)
 clear HS
 generalize w.alloc (.cells (ab p).toArray 87)=w1 at HP HB ⊢
 go_loop [7,20] (fun x i=>∃ k:Nat,k≤n∧i=.int .i64 k∧x=.int .i64 (Pg.numOf (l.take k))) (fun _ i=>n - (intOf i).toNat)
 case atStart=>exact ⟨0,Nat.zero_le _,rfl,rfl⟩
 case round=>
  obtain ⟨k,hk,rfl,rfl⟩:=hrel
  by_cases hlt:k<n
  ·have HT:Hid (Pg.numOf (l.take (k+1))=Pg.numOf (l.take k)*256+((p.getD (a+k) 0).toNat:Int)):=Lib.hid (by
    rw [take_one l 0 k (by rw [HL.out];exact hlt),Pg.zI,HG.out k hlt])
   have hc:=HP.out.cell (a+k) (by omega)
   obtain ⟨r1,r2⟩:=Pg.vR (l.take k) (by simp;omega)
   have hb:=(p.getD (a+k) 0).toNat_lt
   have ho:=KU (Pg.numOf (l.take k)) ((p.getD (a+k) 0).toNat:Int) r1 r2 (by omega) (by omega)
   generalize p.getD (a+k) 0=c at hc HT hb ho
   generalize Pg.numOf (l.take k)=x at r1 r2 HT ho ⊢
   go_wp2
   go_round
   case rel=>exact ⟨k+1,by omega,by go_num,by rw [HT.out]⟩
   case measure=>simp [intOf];omega
  ·have HK:Hid (l.take k=l):=Lib.hid (List.take_of_length_le (by rw [HL.out];omega))
   go_wp2
   go_ret
   exact ⟨iy (by rw [HK.out]),HB.out⟩
theorem Lz (p:List UInt8) (a n:Int) (w:World) (h1:-9223372036854775808≤n) (h2:n≤9223372036854775807) (h:Pg.gN a n=false):
  Calls Tryz.prog 205 #[an p,.int .i64 a,.int .i64 n] w fun e w'=>e=.returned (.int .i64 0)∧Below w.heap.size w w':=by
 have HN:=Lib.hid h;clear h
 unfold an
 go_enter Tryz.func205,Tryz.ntmps205
 go_wp2_with (go_at_call 233;refine (xY _ _ _ h1 h2 HN.out).mono ?_;rintro e w' ⟨rfl,rfl⟩)
 go_ret
 exact ⟨rfl,(Below.refl _ _).alloc (Nat.le_refl _) _⟩
theorem bx (p:List UInt8) (a n:Int) (w:World) (hp:p.length=64) (h1:-9223372036854775808≤n) (h2:n≤9223372036854775807):
  Calls Tryz.prog 205 #[an p,.int .i64 a,.int .i64 n] w fun e w'=>e=.returned (.int .i64 (Pg.ba p a n))∧Below w.heap.size w w':=by
 by_cases h:Pg.gN a n=true
 ·obtain ⟨c1,c2,c3,c4⟩:=Pg.rO h
  obtain ⟨A,rfl⟩:=Int.eq_ofNat_of_zero_le c3
  obtain ⟨N,rfl⟩:=Int.eq_ofNat_of_zero_le (show 0≤n by omega)
  have:=JB p A N w hp (by omega) (by omega) (by omega)
  unfold Pg.ba
  rw [if_pos h]
  exact this
 ·have hf:Pg.gN a n=false:=by simpa using h
  have:=Lz p a n w h1 h2 hf
  unfold Pg.ba
  rw [if_neg h]
  exact this
end

section
open Go.RowKit
open Dk (av aa)
theorem jj (w:World) (p:List UInt8) (hp:p.length=64):
  aD ((w.alloc (.cells (ab p).toArray 87)).alloc (.cells zeroCells 87)) w.heap.size p∧aD ((w.alloc (.cells (ab p).toArray 87)).alloc (.cells zeroCells 87)) (w.heap.size+1) av ∧
  Below w.heap.size w ((w.alloc (.cells (ab p).toArray 87)).alloc (.cells zeroCells 87)):=
 ⟨(bF w p _ hp).alloc _,by simpa using di (w.alloc (.cells (ab p).toArray 87)) 87,((Below.refl _ _).alloc (Nat.le_refl _) _).alloc (by simp) _⟩
theorem FD (k:Nat):(2:Int) ^ (8*k)=256 ^ k:=by rw [Int.pow_mul];rfl
theorem GX (v:Int) (k:Nat):v / 2 ^ (8*k) % 256=((Pg.bR k v).toNat:Int):=by rw [Pg.mo,FD]
theorem aD.number {w:World} {b:Nat} {p:List UInt8} {j k:Nat} {v:Int} (hp:p.length=64) (h:aD w b (Pg.over p (j+1) (Pg.aX k v))) (hj:j+1+k≤64):
  aD (w.setCell ⟨b,j,none⟩ (.int .u8 ((Pg.bR k v).toNat:Int))) b (Pg.over p j (Pg.aX (k+1) v)):=by
 have:=h.set j (Pg.bR k v) (by omega)
 rw [Pg.oF _ _ _ _ (by rw [Pg.aT];omega)] at this
 exact this
theorem IH (p:List UInt8) (a n:Nat) (v:Int) (w:World) (hp:p.length=64) (h1:1≤n) (h2:n≤4) (h3:a+n≤64):
  Calls Tryz.prog 195 #[an p,.int .i64 (a:Int),.int .i64 (n:Int),.int .i64 v] w fun e w'=>e=.returned (an (Pg.over p a (Pg.aX n v)))∧Below w.heap.size w w':=by
 have HS:=Lib.hid (jj w p hp)
 have HL:=Lib.hid hp
 have HN:Hid (Pg.gN (a:Int) (n:Int)=true):=Lib.hid (Pg.ke (by omega) (by omega) (by omega) (by omega))
 clear hp
 unfold an
 go_enter Tryz.func195,Tryz.ntmps195
 go_wp2_with (go_at_call 233;refine (uf _ _ _ HN.out).mono ?_;rintro e w' ⟨rfl,rfl⟩)
 rw [← az]
 generalize (w.alloc (.cells (ab p).toArray 87)).alloc (.cells zeroCells 87)=w1 at HS ⊢
 go_loopw [16] (fun i wr=>∃ k:Nat,k≤n∧i=.int .i64 k∧aD wr w.heap.size (Pg.over p (a+n - k) (Pg.aX k v))∧aD wr (w.heap.size+1) av∧Below w.heap.size w wr) (fun i _=>n - (intOf i).toNat)
 case atStart=>exact ⟨0,Nat.zero_le _,rfl,by rw [Pg.aX,Pg.xI];exact HS.out.1,HS.out.2.1,HS.out.2.2⟩
 case round=>
  obtain ⟨k,hk,rfl,hp1,hp2,hbel⟩:=hrel
  by_cases hlt:k<n
  ·obtain ⟨j,hj⟩:∃ j,a+n=j+1+k:=⟨a+n - 1 - k,by omega⟩
   have hidx:(a:Int)+(n:Int) - 1 - (k:Int)=(j:Int):=by omega
   have hc:=hp1.cell j (by omega)
   have hf:=hp1.frozen j (by omega)
   have hj64:j<64:=by omega
   have HJ:=Lib.hid hj;clear hj
   have HP1:=Lib.hid hp1;clear hp1
   have HV:=Lib.hid (GX v k)
   go_wp2
   go_roundw
   case rel=>
    refine ⟨k+1,by omega,by go_num,?_,?_,?_⟩
    ·rw [HV.out,show a+n - (k+1)=j by have:=HJ.out;omega]
     refine aD.number HL.out ?_ (by have:=HJ.out;omega)
     rw [show j+1=a+n - k by have:=HJ.out;omega]
     exact HP1.out
    ·exact hp2.kR _ _ _ (by omega)
    ·exact hbel.setCell (Nat.le_refl _) _
   case measure=>simp [intOf];omega
  ·obtain rfl:k=n:=by omega
   have HP1:=Lib.hid hp1
   clear hp1
   have HQ:Hid ((Pg.over p (a+k - k) (Pg.aX k v))=Pg.over p a (Pg.aX k v)):=Lib.hid (by rw [Nat.add_sub_cancel])
   rw [HQ.out] at HP1
   clear HQ
   have HQ:=Lib.hid HP1.out.len
   go_wp2_with (first
    | (with_reducible refine ah HP1.out rfl (.tmp 4) rfl rfl ?_)
    | (with_reducible refine ax hp2 HQ.out rfl (.tmp 8) (.tmp 32) rfl rfl rfl ?_))
   exact bodyPost_ret (bE _ 8 rfl _ (hp2.put _ HQ.out) rfl) rfl ⟨rfl,below_setCells _ (by omega) _ _ _ hbel⟩
theorem KF (p:List UInt8) (a n v:Int) (w:World) (hp:p.length=64) (h1:-9223372036854775808≤n) (h2:n≤9223372036854775807) (h:Pg.gN a n=false):
  Calls Tryz.prog 195 #[an p,.int .i64 a,.int .i64 n,.int .i64 v] w fun e w'=>e=.returned (an p)∧Below w.heap.size w w':=by
 have HN:=Lib.hid h;clear h
 have HS:=Lib.hid (jj w p hp)
 have HL:=Lib.hid hp;clear hp
 unfold an
 go_enter Tryz.func195,Tryz.ntmps195
 go_wp2_with fail
 refine (xY _ _ _ h1 h2 HN.out).mono ?_
 rintro e w' ⟨rfl,rfl⟩
 rw [← az]
 generalize (w.alloc (.cells (ab p).toArray 87)).alloc (.cells zeroCells 87)=w1 at HS ⊢
 go_wp2_with (first
  | (with_reducible refine ah HS.out.1 rfl (.tmp 4) rfl rfl ?_)
  | (with_reducible refine ax HS.out.2.1 HL.out rfl (.tmp 8) (.tmp 14) rfl rfl rfl ?_))
 exact bodyPost_ret (bE _ 8 rfl _ (HS.out.2.1.put _ HL.out) rfl) rfl ⟨rfl,below_setCells _ (by omega) _ _ _ HS.out.2.2⟩
theorem ek (p:List UInt8) (a n v:Int) (w:World) (hp:p.length=64) (h1:-9223372036854775808≤n) (h2:n≤9223372036854775807):
  Calls Tryz.prog 195 #[an p,.int .i64 a,.int .i64 n,.int .i64 v] w fun e w'=>e=.returned (an (Pg.eV p a n v))∧Below w.heap.size w w':=by
 by_cases h:Pg.gN a n=true
 ·obtain ⟨c1,c2,c3,c4⟩:=Pg.rO h
  obtain ⟨A,rfl⟩:=Int.eq_ofNat_of_zero_le c3
  obtain ⟨N,rfl⟩:=Int.eq_ofNat_of_zero_le (show 0≤n by omega)
  have:=IH p A N v w hp (by omega) (by omega) (by omega)
  unfold Pg.eV
  rw [if_pos h]
  exact this
 ·have hf:Pg.gN a n=false:=by simpa using h
  have:=KF p a n v w hp h1 h2 hf
  unfold Pg.eV
  rw [if_neg h]
  exact this
end

namespace Hd
open Go.Proofs.YtagfoogfpabdfaaGreat.Pg
structure Head where
 seq:Int
 live:Bool
 count:Int
 sum:Int
deriving DecidableEq
def zero:Head:=⟨0,false,0,0⟩
def aA (h:Head):Bool:=decide (0≤h.seq∧h.seq<4294967296∧(h.live=true→1≤h.count∧h.count≤512)∧(h.live=false→h.count=0∧h.sum=0))
theorem aW {h:Head} (hr:aA h=true):0≤h.seq∧h.seq<4294967296∧(h.live=true→1≤h.count∧h.count≤512)∧(h.live=false→h.count=0∧h.sum=0):=of_decide_eq_true hr
def flag (l:Bool):UInt8:=if l=true then 1 else 0
def parts (a:List UInt8) (b:UInt8) (c d z e:List UInt8):List UInt8:=a++(b::(c++(d++(z++e))))
def Le:List UInt8:=List.replicate 49 0
def aM (h:Head):List UInt8:=parts (aX 4 h.seq) (flag h.live) (aX 2 h.count) (aX 4 h.sum) Le (aX 4 h.seq)
def av:List UInt8:=List.replicate 64 0
theorem iC:Le.length=49:=List.length_replicate
theorem tK {a c d z e:List UInt8} {b:UInt8} (ha:a.length=4) (hc:c.length=2) (hd:d.length=4) (hz:z.length=49) (he:e.length=4):(parts a b c d z e).length=64:=by
 unfold parts;simp [ha,hc,hd,hz,he]
theorem cP (h:Head):(aM h).length=64:=tK (aT 4 _) (aT 2 _) (aT 4 _) iC (aT 4 _)
theorem rJ (p:List UInt8) (hp:p.length=64):∃ a b c d z e,a.length=4∧c.length=2∧d.length=4∧z.length=49∧e.length=4∧p=parts a b c d z e:=by
 have h4:4<p.length:=by omega
 refine ⟨p.take 4,p[4],(p.drop 5).take 2,(p.drop 7).take 4,(p.drop 11).take 49,p.drop 60,by simp;omega,by simp;omega,by simp;omega,by simp;omega,by simp;omega,?_⟩
 unfold parts
 have e3:(p.drop 11).take 49++p.drop 60=p.drop 11:=by
  have:=List.take_append_drop 49 (p.drop 11);rwa [List.drop_drop] at this
 have e2:(p.drop 7).take 4++p.drop 11=p.drop 7:=by
  have:=List.take_append_drop 4 (p.drop 7);rwa [List.drop_drop] at this
 have e1:(p.drop 5).take 2++p.drop 7=p.drop 5:=by
  have:=List.take_append_drop 2 (p.drop 5);rwa [List.drop_drop] at this
 rw [e3,e2,e1,← List.drop_eq_getElem_cons h4,List.take_append_drop]
theorem Cf {a c d z e a' c' d' z' e':List UInt8} {b b':UInt8} (ha:a.length=a'.length) (hc:c.length=c'.length) (hd:d.length=d'.length) (hz:z.length=z'.length) (h:parts a b c d z e=parts a' b' c' d' z' e'):
  a=a'∧b=b'∧c=c'∧d=d'∧z=z'∧e=e':=by
 unfold parts at h
 obtain ⟨h1,h⟩:=List.append_inj h ha
 injection h with h2 h
 obtain ⟨h3,h⟩:=List.append_inj h hc
 obtain ⟨h4,h⟩:=List.append_inj h hd
 obtain ⟨h5,h6⟩:=List.append_inj h hz
 exact ⟨h1,h2,h3,h4,h5,h6⟩
theorem Ax (k:Nat) (x m:Int) (hm:256 ^ k*256 ∣ m):bR k (x+m)=bR k x:=by
 unfold bR
 obtain ⟨q,rfl⟩:=hm
 have e:(x+256 ^ k*256*q) / 256 ^ k=x / 256 ^ k+256*q:=by
  rw [Int.mul_assoc,Int.add_mul_ediv_left _ _ (Int.ne_of_gt (Int.pow_pos (by omega)))]
 rw [e,Int.add_mul_emod_self_left]
theorem Au (k:Nat) (x m:Int) (hm:256 ^ k ∣ m):aX k (x+m)=aX k x:=by
 induction k with
 | zero=>rfl
 |
  succ k ih=>
  rw [aX,aX,Ax k x m (by rw [← Int.pow_succ];exact hm),ih (Int.dvd_trans ⟨256,Int.pow_succ ..⟩ hm)]
theorem jH (l:List UInt8):aX l.length (numOf l)=l:=by
 induction l with
 | nil=>rfl
 |
  cons c l ih=>
  obtain ⟨h0,h1⟩:=iA l
  rw [List.length_cons,aX]
  have e1:bR l.length (numOf (c::l))=c:=by
   unfold bR
   have hc:=c.toNat_lt
   rw [gX,Int.add_comm,Int.mul_comm,Int.add_mul_ediv_left _ _ (Int.ne_of_gt (Int.pow_pos (by omega))),Int.ediv_eq_zero_of_lt h0 h1,Int.zero_add,Int.emod_eq_of_lt (by omega) (by omega),Int.toNat_natCast]
   exact UInt8.ofNat_toNat
  rw [e1,gX,Int.add_comm,Au _ _ _ ⟨(c.toNat:Int),Int.mul_comm ..⟩,ih]
theorem Jf {a b:List UInt8} (hl:a.length=b.length) (h:numOf a=numOf b):a=b:=by
 rw [← jH a,← jH b,h,hl]
theorem Av {x y:Int} (hx:0≤x) (hx':x<4294967296) (hy:0≤y) (hy':y<4294967296) (h:aX 4 x=aX 4 y):x=y:=by
 have:=congrArg numOf h
 rw [cQ,cQ] at this
 have e:(256:Int) ^ 4=4294967296:=rfl
 rw [e] at this
 omega
def cE (p:List UInt8):Head:=⟨ba p 0 4,ba p 4 1 == 1,ba p 5 2,ba p 7 4⟩
theorem wz {a c d z e:List UInt8} {b:UInt8} (ha:a.length=4):ba (parts a b c d z e) 0 4=numOf a:=by
 unfold ba
 rw [if_pos (by decide)]
 congr 1
 show (List.drop 0 _).take 4=a
 rw [List.drop_zero]
 unfold parts
 rw [List.take_append_of_le_length (by omega),List.take_of_length_le (by omega)]
theorem drop_at {α:Type} (a b:List α) (n:Nat) (h:a.length=n):(a++b).drop n=b:=by rw [← h];exact List.drop_left
theorem Gr {a c d z e:List UInt8} {b:UInt8} (ha:a.length=4):ba (parts a b c d z e) 4 1=(b.toNat:Int):=by
 unfold ba
 rw [if_pos (by decide)]
 show numOf ((List.drop 4 _).take 1)=_
 unfold parts
 rw [drop_at _ _ 4 ha]
 show numOf [b]=_
 rw [gX,oJ]
 simp
theorem Dw {a c d z e:List UInt8} {b:UInt8} (ha:a.length=4) (hc:c.length=2):ba (parts a b c d z e) 5 2=numOf c:=by
 unfold ba
 rw [if_pos (by decide)]
 congr 1
 show (List.drop 5 _).take 2=c
 unfold parts
 rw [show (5:Nat)=4+1 from rfl,← List.drop_drop,drop_at _ _ 4 ha]
 show (c++_).take 2=c
 rw [List.take_append_of_le_length (by omega),List.take_of_length_le (by omega)]
theorem JD {a c d z e:List UInt8} {b:UInt8} (ha:a.length=4) (hc:c.length=2) (hd:d.length=4):ba (parts a b c d z e) 7 4=numOf d:=by
 unfold ba
 rw [if_pos (by decide)]
 congr 1
 show (List.drop 7 _).take 4=d
 unfold parts
 rw [show (7:Nat)=4+(1+2) from rfl,← List.drop_drop,drop_at _ _ 4 ha,← List.drop_drop]
 show ((c++_).drop 2).take 4=d
 rw [drop_at _ _ 2 hc,List.take_append_of_le_length (by omega),List.take_of_length_le (by omega)]
theorem ui {a c d z e:List UInt8} {b:UInt8} (ha:a.length=4) (hc:c.length=2) (hd:d.length=4) (hz:z.length=49) (he:e.length=4):ba (parts a b c d z e) 60 4=numOf e:=by
 unfold ba
 rw [if_pos (by decide)]
 congr 1
 show (List.drop 60 _).take 4=e
 unfold parts
 rw [show (60:Nat)=4+(1+(2+(4+49))) from rfl,← List.drop_drop,drop_at _ _ 4 ha,← List.drop_drop]
 show ((c++_).drop (2+(4+49))).take 4=e
 rw [← List.drop_drop,drop_at _ _ 2 hc,← List.drop_drop,drop_at _ _ 4 hd,drop_at _ _ 49 hz,List.take_of_length_le (by omega)]
theorem lP {a c d z e:List UInt8} {b:UInt8} (ha:a.length=4) (hc:c.length=2) (hd:d.length=4):cE (parts a b c d z e)=⟨numOf a,((b.toNat:Int) == 1),numOf c,numOf d⟩:=by
 unfold cE
 rw [wz ha,Gr ha,Dw ha hc,JD ha hc hd]
theorem rC (p:List UInt8) (hp:p.length=64):0≤(cE p).seq∧(cE p).seq<4294967296∧0≤(cE p).count∧(cE p).count<65536∧0≤(cE p).sum∧(cE p).sum<4294967296:=by
 obtain ⟨a,b,c,d,z,e,ha,hc,hd,_,_,rfl⟩:=rJ p hp
 rw [lP ha hc hd]
 have h1:=iA a
 have h2:=iA c
 have h3:=iA d
 rw [ha] at h1
 rw [hc] at h2
 rw [hd] at h3
 simp only
 omega
theorem Dx (p:List UInt8) (hp:p.length=64):0≤ba p 0 4∧ba p 0 4<4294967296∧0≤ba p 60 4∧ba p 60 4<4294967296:=by
 obtain ⟨a,b,c,d,z,e,ha,hc,hd,hz,he,rfl⟩:=rJ p hp
 rw [wz ha,ui ha hc hd hz he]
 have h1:=lU a (by omega)
 have h2:=lU e (by omega)
 omega
theorem BM (h:Head) (hr:aA h=true) (h0:0≤h.sum) (h1:h.sum<4294967296):cE (aM h)=h:=by
 obtain ⟨r1,r2,r3,r4⟩:=aW hr
 unfold aM
 rw [lP (aT 4 _) (aT 2 _) (aT 4 _),cQ,cQ,cQ]
 have e4:(256:Int) ^ 4=4294967296:=rfl
 have e2:(256:Int) ^ 2=65536:=rfl
 rw [e4,e2]
 obtain ⟨s,l,c,m⟩:=h
 simp only at *
 cases l with
 |
  true=>
  have:=r3 rfl
  congr 1 <;> omega
 |
  false=>
  have:=r4 rfl
  congr 1 <;> omega
def fw (p:List UInt8):Bool:=aA (cE p) && decide (aM (cE p)=p)
def LX (p:List UInt8):Head:=if fw p=true then cE p else zero
theorem nI {p:List UInt8} (h:fw p=true):aA (cE p)=true∧aM (cE p)=p:=by
 unfold fw at h
 rw [Bool.and_eq_true] at h
 exact ⟨h.1,of_decide_eq_true h.2⟩
theorem zD {a c d z e:List UInt8} {b:UInt8} (ha:a.length=4) (hc:c.length=2) (hd:d.length=4) (hz:z.length=49):aM (cE (parts a b c d z e))=parts a b c d z e↔(b.toNat≤1∧z=Le∧a=e):=by
 rw [lP ha hc hd]
 unfold aM
 have hb4:aX 4 (numOf a)=a:=by have:=jH a;rwa [ha] at this
 have hb2:aX 2 (numOf c)=c:=by have:=jH c;rwa [hc] at this
 have hd4:aX 4 (numOf d)=d:=by have:=jH d;rwa [hd] at this
 rw [hb4,hb2,hd4]
 constructor
 ·intro h
  obtain ⟨_,h2,_,_,h5,h6⟩:=Cf rfl rfl rfl (by rw [iC,hz]) h
  refine ⟨?_,h5.symm,h6⟩
  rw [← h2]
  unfold flag
  split <;> decide
 ·rintro ⟨h1,rfl,rfl⟩
  congr 1
  have:b.toNat=0∨b.toNat=1:=by omega
  unfold flag
  rcases this with h | h
  ·rw [h];exact (UInt8.toNat_inj.1 (by rw [h];rfl)).symm
  ·rw [h];exact (UInt8.toNat_inj.1 (by rw [h];rfl)).symm
theorem xD {a c d z e:List UInt8} {b:UInt8} (ha:a.length=4) (hc:c.length=2) (hd:d.length=4) (k:Nat):(parts a b c d z e).getD (11+k) 0=(z++e).getD k 0:=by
 rw [List.getD_eq_getElem?_getD,List.getD_eq_getElem?_getD]
 congr 1
 unfold parts
 rw [List.getElem?_append_right (by omega),ha,show 11+k - 4=(6+k)+1 by omega,List.getElem?_cons_succ,List.getElem?_append_right (by omega),hc,List.getElem?_append_right (by omega),hd]
 congr 1
 omega
theorem zC {a c d z e:List UInt8} {b:UInt8} (ha:a.length=4):(parts a b c d z e).getD 4 0=b:=by
 rw [List.getD_eq_getElem?_getD]
 unfold parts
 rw [List.getElem?_append_right (by omega),ha];rfl
theorem AK (p:List UInt8) (hp:p.length=64):fw p=true↔ba p 0 4=ba p 60 4∧(p.getD 4 0).toNat≤1∧(∀ i,11≤i→i<60→p.getD i 0=0)∧aA (cE p)=true:=by
 obtain ⟨a,b,c,d,z,e,ha,hc,hd,hz,he,rfl⟩:=rJ p hp
 unfold fw
 rw [Bool.and_eq_true,decide_eq_true_iff,zD ha hc hd hz,wz ha,ui ha hc hd hz he,zC ha]
 constructor
 ·rintro ⟨h0,h1,rfl,rfl⟩
  refine ⟨rfl,h1,fun i hi1 hi2=>?_,h0⟩
  obtain ⟨k,rfl⟩:∃ k,i=11+k:=⟨i - 11,by omega⟩
  rw [xD ha hc hd,List.getD_eq_getElem?_getD,List.getElem?_append_left (by rw [iC];omega)]
  unfold Le
  rw [List.getElem?_replicate,if_pos (by omega)];rfl
 ·rintro ⟨h1,h2,h3,h0⟩
  refine ⟨h0,h2,?_,Jf (by omega) h1⟩
  apply List.ext_getElem?
  intro k
  unfold Le
  rw [List.getElem?_replicate]
  by_cases hk:k<49
  ·rw [if_pos hk]
   have:=h3 (11+k) (by omega) (by omega)
   rw [xD ha hc hd,List.getD_eq_getElem?_getD,List.getElem?_append_left (by omega),List.getElem?_eq_getElem (by omega)] at this
   rw [List.getElem?_eq_getElem (by omega)]
   exact congrArg some this
  ·rw [if_neg hk,List.getElem?_eq_none (by omega)]
theorem gV {h:Head}:(aM h).take 4=aX 4 h.seq∧(aM h).drop 60=aX 4 h.seq:=by
 constructor
 ·unfold aM parts
  rw [List.take_append_of_le_length (by rw [aT];omega),List.take_of_length_le (by rw [aT];omega)]
 ·unfold aM parts
  rw [show (60:Nat)=4+(1+(2+(4+49))) from rfl,← List.drop_drop,drop_at _ _ 4 (aT 4 _),← List.drop_drop]
  show ((aX 2 _++_).drop (2+(4+49)))=_
  rw [← List.drop_drop,drop_at _ _ 2 (aT 2 _),← List.drop_drop,drop_at _ _ 4 (aT 4 _),drop_at _ _ 49 iC]
theorem qY (g h:Head) (hg:aA g=true) (hh:aA h=true) (hne:g.seq≠h.seq) (n:Nat) (hn:n≤64) (hw:fw ((aM g).take n++(aM h).drop n)=true):
  (aM g).take n++(aM h).drop n=aM g∨(aM g).take n++(aM h).drop n=aM h:=by
 obtain ⟨g1,g2,_⟩:=aW hg
 obtain ⟨h1,h2,_⟩:=aW hh
 obtain ⟨_,hx⟩:=nI hw
 obtain ⟨lg,lh⟩:=And.intro (cP g) (cP h)
 obtain ⟨eg1,eg2⟩:=gV (h:=g)
 obtain ⟨eh1,eh2⟩:=gV (h:=h)
 generalize hxd:(aM g).take n++(aM h).drop n=x at *
 obtain ⟨ex1,ex2⟩:=gV (h:=cE x)
 rw [hx] at ex1 ex2
 have both:x.take 4=x.drop 60:=by rw [ex1,ex2]
 by_cases hc:n≤60
 ·-- the end is the other's
  have e2:x.drop 60=aX 4 h.seq:=by
   rw [← hxd,← eh2,List.drop_append,List.drop_of_length_le (by simp;omega),List.nil_append,List.drop_drop]
   congr 1
   simp
   omega
  by_cases hc4:4≤n
  ·exfalso
   have e1:x.take 4=aX 4 g.seq:=by
    rw [← hxd,← eg1,List.take_append_of_le_length (by simp;omega),List.take_take]
    congr 1
    omega
   exact hne (Av g1 g2 h1 h2 (by rw [← e1,← e2,both]))
  ·right
   have e1:x.take 4=(aM h).take 4:=by rw [both,e2,eh1]
   have e3:x.drop 4=(aM h).drop 4:=by
    rw [← hxd,List.drop_append,List.drop_of_length_le (by simp;omega),List.nil_append,List.drop_drop]
    congr 1
    simp
    omega
   rw [← List.take_append_drop 4 x,e1,e3,List.take_append_drop]
 ·left
  have e1:x.take 60=(aM g).take 60:=by
   rw [← hxd,List.take_append_of_le_length (by simp;omega),List.take_take]
   congr 1
   omega
  have e0:x.take 4=aX 4 g.seq:=by
   have:=congrArg (List.take 4) e1
   rw [List.take_take,List.take_take] at this
   exact this.trans eg1
  have e2:x.drop 60=(aM g).drop 60:=by rw [← both,e0,eg2]
  rw [← List.take_append_drop 60 x,e1,e2,List.take_append_drop]
def up (n:Int) (p:List UInt8):Int:=max (max n (ba p 0 4+1)) (ba p 60 4+1)
def dy (ps:List (List UInt8)):Int:=ps.foldl up 0
theorem zM (ps:List (List UInt8)) (p:List UInt8):dy (ps++[p])=up (dy ps) p:=by
 unfold dy;rw [List.foldl_append];rfl
theorem Md (n:Int) (p:List UInt8) (M:Int):up n p≤M↔n≤M∧ba p 0 4<M∧ba p 60 4<M:=by unfold up;omega
theorem JH (ps:List (List UInt8)):∀ (n M:Int),ps.foldl up n≤M↔n≤M∧∀ p∈ps,ba p 0 4<M∧ba p 60 4<M:=by
 induction ps with
 | nil=>intro n M;simp
 |
  cons p ps ih=>
  intro n M
  rw [List.foldl_cons,ih,Md]
  simp only [List.mem_cons,forall_eq_or_imp]
  constructor
  ·rintro ⟨⟨h1,h2⟩,h3⟩;exact ⟨h1,h2,h3⟩
  ·rintro ⟨h1,h2,h3⟩;exact ⟨⟨h1,h2⟩,h3⟩
theorem nw (ps:List (List UInt8)) (M:Int):dy ps≤M↔0≤M∧∀ p∈ps,ba p 0 4<M∧ba p 60 4<M:=JH ps 0 M
theorem jq (ps:List (List UInt8)):0≤dy ps:=((nw ps (dy ps)).1 (Int.le_refl _)).1
theorem CF (ps:List (List UInt8)) (h:∀ p∈ps,p.length=64):dy ps≤4294967296:=
 (nw ps _).2 ⟨by omega,fun p hp=>by have:=Dx p (h p hp);omega⟩
end Hd

section
open Go.RowKit
open Dk (av aa)
open Hd (Head aA aM)
def dC (h:Head):Value:=.agg #[.int .i64 h.seq,.bool h.live,.int .i64 h.count,.int .u32 h.sum]
theorem qn {s:Int} {l:Bool} {c m:Int} (h1:0≤s) (h2:s<4294967296) (h3:l=true→1≤c∧c≤512) (h4:l=false→c=0∧m=0):aA ⟨s,l,c,m⟩=true:=decide_eq_true ⟨h1,h2,h3,h4⟩
theorem vz (s:Int) (l:Bool) (c m:Int):(s<0∧aA ⟨s,l,c,m⟩=false)∨(0≤s∧4294967295<s∧aA ⟨s,l,c,m⟩=false) ∨
  (0≤s∧s≤4294967295∧((l=true∧c<1∧aA ⟨s,l,c,m⟩=false)∨(l=true∧1≤c∧512<c∧aA ⟨s,l,c,m⟩=false)∨(l=true∧1≤c∧c≤512∧aA ⟨s,l,c,m⟩=true) ∨
   (l=false∧c≠0∧aA ⟨s,l,c,m⟩=false)∨(l=false∧c=0∧m≠0∧aA ⟨s,l,c,m⟩=false)∨(l=false∧c=0∧m=0∧aA ⟨s,l,c,m⟩=true))):=by
 have hn:∀ P:Prop,(¬ (0≤s∧s<4294967296∧(l=true→1≤c∧c≤512)∧(l=false→c=0∧m=0)))→aA ⟨s,l,c,m⟩=false:=fun _ h=>decide_eq_false h
 by_cases h1:s<0
 ·exact Or.inl ⟨h1,hn True (by omega)⟩
 by_cases h2:4294967295<s
 ·exact Or.inr (Or.inl ⟨by omega,h2,hn True (by omega)⟩)
 refine Or.inr (Or.inr ⟨by omega,by omega,?_⟩)
 cases l with
 |
  true=>
  by_cases h3:c<1
  ·exact Or.inl ⟨rfl,h3,hn True (by simp;omega)⟩
  by_cases h4:512<c
  ·exact Or.inr (Or.inl ⟨rfl,by omega,h4,hn True (by simp;omega)⟩)
  exact Or.inr (Or.inr (Or.inl ⟨rfl,by omega,by omega,qn (by omega) (by omega) (fun _=>⟨by omega,by omega⟩) (fun h=>by cases h)⟩))
 |
  false=>
  by_cases h3:c=0
  ·by_cases h4:m=0
   ·exact Or.inr (Or.inr (Or.inr (Or.inr (Or.inr ⟨rfl,h3,h4,qn (by omega) (by omega) (fun h=>by cases h) (fun _=>⟨h3,h4⟩)⟩))))
   ·exact Or.inr (Or.inr (Or.inr (Or.inr (Or.inl ⟨rfl,h3,h4,hn True (by simp;omega)⟩))))
  ·exact Or.inr (Or.inr (Or.inr (Or.inl ⟨rfl,h3,hn True (by simp;omega)⟩)))
theorem tA (h:Head) (w:World):
  Calls Tryz.prog 282 #[dC h] w fun e w'=>e=.returned (.bool (aA h))∧Below w.heap.size w w':=by
 obtain ⟨s,l,c,m⟩:=h
 have hc:=vz s l c m
 unfold dC
 generalize aA ⟨s,l,c,m⟩=r at hc ⊢
 rcases hc with ⟨h1,rfl⟩ | ⟨h1,h2,rfl⟩ | ⟨h1,h2,hc⟩
 ·go_enter Tryz.func282,Tryz.ntmps282
  go_wp2
  go_ret
  exact ⟨rfl,(Below.refl _ _).alloc (Nat.le_refl _) _⟩
 ·go_enter Tryz.func282,Tryz.ntmps282
  go_wp2
  go_ret
  exact ⟨rfl,(Below.refl _ _).alloc (Nat.le_refl _) _⟩
 ·have h3:¬ s<0:=by omega
  have h4:¬ 4294967295<s:=by omega
  rcases hc with ⟨rfl,g1,rfl⟩ | ⟨rfl,g1,g2,rfl⟩ | ⟨rfl,g1,g2,rfl⟩ | ⟨rfl,g1,rfl⟩ | ⟨rfl,rfl,g2,rfl⟩ | ⟨rfl,rfl,rfl,rfl⟩
  ·have g3:¬ 1≤c:=by omega
   go_enter Tryz.func282,Tryz.ntmps282
   go_wp2
   go_ret
   exact ⟨rfl,(Below.refl _ _).alloc (Nat.le_refl _) _⟩
  ·have g3:¬ c≤512:=by omega
   go_enter Tryz.func282,Tryz.ntmps282
   go_wp2
   go_ret
   exact ⟨bS (by simp <;> omega),(Below.refl _ _).alloc (Nat.le_refl _) _⟩
  ·go_enter Tryz.func282,Tryz.ntmps282
   go_wp2
   go_ret
   exact ⟨bS (by simp <;> omega),(Below.refl _ _).alloc (Nat.le_refl _) _⟩
  ·have g3:(c == 0)=false:=by simpa using g1
   go_enter Tryz.func282,Tryz.ntmps282
   go_wp2
   go_ret
   exact ⟨rfl,(Below.refl _ _).alloc (Nat.le_refl _) _⟩
  ·have g3:(m == 0)=false:=by simpa using g2
   go_enter Tryz.func282,Tryz.ntmps282
   go_wp2
   go_ret
   exact ⟨bS (by simp),(Below.refl _ _).alloc (Nat.le_refl _) _⟩
  ·go_enter Tryz.func282,Tryz.ntmps282
   go_wp2
   go_ret
   exact ⟨rfl,(Below.refl _ _).alloc (Nat.le_refl _) _⟩
theorem aW (h:Head) (w:World) (hr:aA h=true):
  Calls Tryz.prog 282 #[dC h] w fun e w'=>e=.returned (.bool true)∧Below w.heap.size w w':=hr ▸ tA h w
theorem xu (h:Head) (w:World) (hr:aA h=false):
  Calls Tryz.prog 282 #[dC h] w fun e w'=>e=.returned (.bool false)∧Below w.heap.size w w':=hr ▸ tA h w
theorem BA (h:Head):Pg.eV (Pg.eV (Pg.eV (if h.live=true then Pg.eV (Pg.eV av 0 4 h.seq) 4 1 1 else Pg.eV av 0 4 h.seq) 5 2 h.count) 7 4 h.sum) 60 4 h.seq=aM h:=by
 obtain ⟨s,l,c,m⟩:=h
 cases l <;> rfl
end

section
open Go.RowKit
open Dk (av aa)
open Hd (Head aA aM)
structure Enc (w0:World) (h:Head) (C:Nat) (p:List UInt8) (W:World):Prop where
 c0:W.cell? ⟨w0.heap.size,0,none⟩=some (.int .i64 h.seq)
 c1:W.cell? ⟨w0.heap.size,1,none⟩=some (.bool h.live)
 c2:W.cell? ⟨w0.heap.size,2,none⟩=some (.int .i64 h.count)
 c3:W.cell? ⟨w0.heap.size,3,none⟩=some (.int .u32 h.sum)
 res:aD W (w0.heap.size+1) av
 cur:aD W C p
 far:w0.heap.size+1<C
 below:Below w0.heap.size w0 W
theorem Enc.call {w0:World} {h:Head} {C:Nat} {p:List UInt8} {W W':World} (k:Enc w0 h C p W) (hb:Below W.heap.size W W'):Enc w0 h C p W':=by
 have hlt:=k.res.lt
 exact ⟨(hb.cell (p:=⟨w0.heap.size,0,none⟩) (by show w0.heap.size<_;omega)).trans k.c0,(hb.cell (p:=⟨w0.heap.size,1,none⟩) (by show w0.heap.size<_;omega)).trans k.c1,
  (hb.cell (p:=⟨w0.heap.size,2,none⟩) (by show w0.heap.size<_;omega)).trans k.c2,(hb.cell (p:=⟨w0.heap.size,3,none⟩) (by show w0.heap.size<_;omega)).trans k.c3,
  k.res.below hb hlt,k.cur.below hb k.cur.lt,k.far,k.below.trans (hb.mono k.below.size)⟩
theorem cx {W:World} (b:Nat) (a:Addr) (h:a.block≠b):∀ (vs:List Value) (o:Nat) (W:World),(W.setCells b o vs).cell? a=W.cell? a
 | [],_,_=>rfl
 |
  v::r,o,W=>by
  rw [World.setCells,cx (W:=W) b a h r (o+1)]
  exact World.cell?_setCell_other _ _ _ _ (fun e=>h (by rw [← e]))
theorem Enc.store {w0:World} {h:Head} {C:Nat} {p q:List UInt8} {W:World} (k:Enc w0 h C p W) (hq:q.length=64):Enc w0 h C q (W.setCells C 0 (ab q)):=by
 have hf:=k.far
 exact ⟨(cx (W:=W) C ⟨w0.heap.size,0,none⟩ (by show w0.heap.size≠C;omega) _ _ _).trans k.c0,(cx (W:=W) C ⟨w0.heap.size,1,none⟩ (by show w0.heap.size≠C;omega) _ _ _).trans k.c1,
  (cx (W:=W) C ⟨w0.heap.size,2,none⟩ (by show w0.heap.size≠C;omega) _ _ _).trans k.c2,(cx (W:=W) C ⟨w0.heap.size,3,none⟩ (by show w0.heap.size≠C;omega) _ _ _).trans k.c3,
  k.res.bl _ _ _ (by omega),k.cur.put _ hq,hf,below_setCells _ (by omega) _ _ _ k.below⟩
theorem uq (w:World) (s:Int) (l:Bool) (c m:Int) {w1:World} (hb:Below (w.heap.size+2) ((w.alloc (.cells #[.int .i64 s,.bool l,.int .i64 c,.int .u32 m] 259)).alloc (.cells zeroCells 87)) w1):
  w1.cell? ⟨w.heap.size,0,none⟩=some (.int .i64 s)∧w1.cell? ⟨w.heap.size,1,none⟩=some (.bool l)∧w1.cell? ⟨w.heap.size,2,none⟩=some (.int .i64 c)∧w1.cell? ⟨w.heap.size,3,none⟩=some (.int .u32 m) ∧
  aD w1 (w.heap.size+1) av∧w.heap.size+1<w1.heap.size∧Below w.heap.size w w1:=by
 have hp:aD ((w.alloc (.cells #[.int .i64 s,.bool l,.int .i64 c,.int .u32 m] 259)).alloc (.cells zeroCells 87)) (w.heap.size+1) av:=by simpa using di (w.alloc (.cells #[.int .i64 s,.bool l,.int .i64 c,.int .u32 m] 259)) 87
 refine ⟨?_,?_,?_,?_,hp.below hb (by omega),?_,?_⟩
 ·refine (hb.cell (p:=⟨w.heap.size,0,none⟩) (by show w.heap.size<_;omega)).trans ?_
  simp [go_sem]
 ·refine (hb.cell (p:=⟨w.heap.size,1,none⟩) (by show w.heap.size<_;omega)).trans ?_
  simp [go_sem]
 ·refine (hb.cell (p:=⟨w.heap.size,2,none⟩) (by show w.heap.size<_;omega)).trans ?_
  simp [go_sem]
 ·refine (hb.cell (p:=⟨w.heap.size,3,none⟩) (by show w.heap.size<_;omega)).trans ?_
  simp [go_sem]
 ·have:=hb.size;simp at this;omega
 ·exact (((Below.refl _ _).alloc (Nat.le_refl _) _).alloc (by simp) _).trans (hb.mono (by omega))
theorem gI (fn:Func) (hf:fn.results=#[.cell 2 87,.tmp 3]) {w:World} {b:Nat} {q:List UInt8} {v:Value} (tmps:Array Value) (h:aD w b q) (h2:tmps.getD 2 undef=.pointer (some ⟨b,0,none⟩)) (h3:tmps.getD 3 undef=v):
  (results fn tmps).run Tryz.prog w=.ok (.tuple #[an q,v]) w:=by
 have hl:=h.mW
 unfold results
 rw [hf]
 simp only [Array.mapM_eq_mapM_toList,List.mapM_cons,List.mapM_nil,h2,h3,asAddr,Sem.run_bind,Sem.run_pure,Result.andThen_ok,hl,Sem.run_map]
 rfl
theorem DR (h:Head) (w:World) (hr:aA h=false):
  Calls Tryz.prog 267 #[dC h] w fun e w'=>e=.returned (.tuple #[an av,.int .i64 22])∧Below w.heap.size w w':=by
 have HR:=Lib.hid (fun (w:World)=>xu h w hr)
 obtain ⟨s,l,c,m⟩:=h
 clear hr
 unfold dC at HR ⊢
 go_enter Tryz.func267,Tryz.ntmps267
 go_wp2_with fail
 refine (HR.out _).mono ?_
 rintro e w1 ⟨rfl,hb⟩
 rw [← az] at hb
 obtain ⟨c0,c1,c2,c3,hp,hlt,hbel⟩:=uq w s l c m (by simpa using hb)
 clear hb
 have HP:=Lib.hid hp;clear hp
 go_wp2_with ((with_reducible refine ax HP.out aa rfl (.tmp 2) (.tmp 8) rfl ?_ ?_ ?_);(exact rfl);(exact rfl))
 exact bodyPost_ret (gI _ rfl _ (HP.out.put _ aa) rfl rfl) rfl ⟨rfl,below_setCells _ (by omega) _ _ _ hbel⟩
theorem mc (h:Head) (w:World) (hr:aA h=true) (hm0:0≤h.sum) (hm1:h.sum<4294967296):
  Calls Tryz.prog 267 #[dC h] w fun e w'=>e=.returned (.tuple #[an (aM h),.int .i64 0])∧Below w.heap.size w w':=by
 have HR:=Lib.hid (fun (w:World)=>aW h w hr)
 have HC:=Lib.hid (BA h)
 clear hr
 generalize aM h=Z at HC ⊢
 obtain ⟨s,l,c,m⟩:=h
 simp only at hm0 hm1 HC
 unfold dC at HR ⊢
 go_enter Tryz.func267,Tryz.ntmps267
 go_wp2_with fail
 refine (HR.out _).mono ?_
 rintro e w1 ⟨rfl,hb⟩
 rw [← az] at hb
 obtain ⟨c0,c1,c2,c3,hp,hlt,hbel⟩:=uq w s l c m (by simpa using hb)
 clear hb
 have HP:=Lib.hid hp;clear hp
 go_wp2_with fail
 rw [← az]
 refine (ek av 0 4 s w1 aa (by omega) (by omega)).mono ?_
 rintro e w2 ⟨rfl,hb2⟩
 have HL:=Lib.hid (Pg.aP av 0 4 s aa)
 generalize hp1:Pg.eV av 0 4 s=p1 at HL HC ⊢
 clear hp1
 have HE0:Hid (∀ W2,aD W2 w2.heap.size p1→Below w2.heap.size w2 W2→Enc w ⟨s,l,c,m⟩ w2.heap.size p1 W2):=Lib.hid (fun W2 hP hB=>by
  have hbb:=hb2.trans (hB.mono hb2.size)
  have hz:=hb2.size
  exact ⟨(hbb.cell (p:=⟨w.heap.size,0,none⟩) (by show w.heap.size<_;omega)).trans c0,(hbb.cell (p:=⟨w.heap.size,1,none⟩) (by show w.heap.size<_;omega)).trans c1,
   (hbb.cell (p:=⟨w.heap.size,2,none⟩) (by show w.heap.size<_;omega)).trans c2,(hbb.cell (p:=⟨w.heap.size,3,none⟩) (by show w.heap.size<_;omega)).trans c3,
   HP.out.below hbb hlt,hP,by omega,hbel.trans (hbb.mono hbel.size)⟩)
 clear HP hb2 hbel c0 c1 c2 c3 hlt
 cases l
 all_goals
  go_wp2_with (first
   | ((with_reducible refine aq rfl (.tmp 4) (.tmp 12) rfl rfl ?_ ?_ HL.out ?_);(exact rfl);(exact rfl);intro W2 hP hB2 hz2;have E1:=Lib.hid (HE0.out W2 hP hB2);clear HE0 hP hB2 hz2;generalize w2.heap.size=C at E1 ⊢;have d1:=E1.out.c1;have d2:=E1.out.c2)
   | ((with_reducible refine ah E1.out.cur rfl (.tmp 4) rfl rfl ?_)))
 ·simp only [Bool.false_eq_true,if_false] at HC
  clear d1 d2
  refine (ek p1 5 2 c _ HL.out (by omega) (by omega)).mono ?_
  rintro e w5 ⟨rfl,hb5⟩
  have E3:=Lib.hid (E1.out.call hb5)
  have HM:=Lib.hid (Pg.aP p1 5 2 c HL.out)
  generalize Pg.eV p1 5 2 c=p3 at HM HC ⊢
  clear hb5 E1
  go_wp2_with (first
   | ((with_reducible refine ax E3.out.cur HM.out rfl (.tmp 4) (.tmp 20) rfl rfl rfl ?_);have E4:=Lib.hid (E3.out.store HM.out);clear E3;generalize w5.setCells C 0 (ab p3)=W5 at E4 ⊢;have d3:=E4.out.c3)
   | ((with_reducible refine ah E4.out.cur rfl (.tmp 4) rfl rfl ?_)))
  clear d3
  refine (ek p3 7 4 m _ HM.out (by omega) (by omega)).mono ?_
  rintro e w6 ⟨rfl,hb6⟩
  have E5:=Lib.hid (E4.out.call hb6)
  have HK:=Lib.hid (Pg.aP p3 7 4 m HM.out)
  generalize Pg.eV p3 7 4 m=p4 at HK HC ⊢
  clear hb6 E4
  go_wp2_with (first
   | ((with_reducible refine ax E5.out.cur HK.out rfl (.tmp 4) (.tmp 25) rfl rfl rfl ?_);have E6:=Lib.hid (E5.out.store HK.out);clear E5;generalize w6.setCells C 0 (ab p4)=W6 at E6 ⊢;have d0:=E6.out.c0)
   | ((with_reducible refine ah E6.out.cur rfl (.tmp 4) rfl rfl ?_)))
  clear d0
  refine (ek p4 60 4 s _ HK.out (by omega) (by omega)).mono ?_
  rintro e w7 ⟨rfl,hb7⟩
  have E7:=Lib.hid (E6.out.call hb7)
  have HJ:=Lib.hid (Pg.aP p4 60 4 s HK.out)
  generalize Pg.eV p4 60 4 s=p5 at HJ HC ⊢
  clear hb7 E6
  go_wp2_with ((with_reducible refine ax E7.out.res HJ.out rfl (.tmp 2) (.tmp 29) rfl rfl rfl ?_))
  exact bodyPost_ret (gI _ rfl _ (E7.out.res.put _ HJ.out) rfl rfl) rfl ⟨by rw [HC.out];rfl,below_setCells _ (by omega) _ _ _ E7.out.below⟩
 ·simp only [if_true] at HC
  clear d1 d2
  refine (ek p1 4 1 1 _ HL.out (by omega) (by omega)).mono ?_
  rintro e w4 ⟨rfl,hb4⟩
  have E2:=Lib.hid (E1.out.call hb4)
  have HN:=Lib.hid (Pg.aP p1 4 1 1 HL.out)
  generalize Pg.eV p1 4 1 1=p2 at HN HC ⊢
  clear hb4 E1
  go_wp2_with (first
   | ((with_reducible refine ax E2.out.cur HN.out rfl (.tmp 4) (.tmp 16) rfl rfl rfl ?_);have E9:=Lib.hid (E2.out.store HN.out);clear E2;generalize w4.setCells C 0 (ab p2)=W4 at E9 ⊢;have d1:=E9.out.c1;have d2:=E9.out.c2)
   | ((with_reducible refine ah E9.out.cur rfl (.tmp 4) rfl rfl ?_)))
  clear d1 d2
  refine (ek p2 5 2 c _ HN.out (by omega) (by omega)).mono ?_
  rintro e w5 ⟨rfl,hb5⟩
  have E3:=Lib.hid (E9.out.call hb5)
  have HM:=Lib.hid (Pg.aP p2 5 2 c HN.out)
  generalize Pg.eV p2 5 2 c=p3 at HM HC ⊢
  clear hb5 E9
  go_wp2_with (first
   | ((with_reducible refine ax E3.out.cur HM.out rfl (.tmp 4) (.tmp 20) rfl rfl rfl ?_);have E4:=Lib.hid (E3.out.store HM.out);clear E3;generalize w5.setCells C 0 (ab p3)=W5 at E4 ⊢;have d3:=E4.out.c3)
   | ((with_reducible refine ah E4.out.cur rfl (.tmp 4) rfl rfl ?_)))
  clear d3
  refine (ek p3 7 4 m _ HM.out (by omega) (by omega)).mono ?_
  rintro e w6 ⟨rfl,hb6⟩
  have E5:=Lib.hid (E4.out.call hb6)
  have HK:=Lib.hid (Pg.aP p3 7 4 m HM.out)
  generalize Pg.eV p3 7 4 m=p4 at HK HC ⊢
  clear hb6 E4
  go_wp2_with (first
   | ((with_reducible refine ax E5.out.cur HK.out rfl (.tmp 4) (.tmp 25) rfl rfl rfl ?_);have E6:=Lib.hid (E5.out.store HK.out);clear E5;generalize w6.setCells C 0 (ab p4)=W6 at E6 ⊢;have d0:=E6.out.c0)
   | ((with_reducible refine ah E6.out.cur rfl (.tmp 4) rfl rfl ?_)))
  clear d0
  refine (ek p4 60 4 s _ HK.out (by omega) (by omega)).mono ?_
  rintro e w7 ⟨rfl,hb7⟩
  have E7:=Lib.hid (E6.out.call hb7)
  have HJ:=Lib.hid (Pg.aP p4 60 4 s HK.out)
  generalize Pg.eV p4 60 4 s=p5 at HJ HC ⊢
  clear hb7 E6
  go_wp2_with ((with_reducible refine ax E7.out.res HJ.out rfl (.tmp 2) (.tmp 29) rfl rfl rfl ?_))
  exact bodyPost_ret (gI _ rfl _ (E7.out.res.put _ HJ.out) rfl rfl) rfl ⟨by rw [HC.out];rfl,below_setCells _ (by omega) _ _ _ E7.out.below⟩
end
end Go.Proofs.YtagfoogfpabdfaaGreat
