/- Texts of the proof. -/
import Derived.Test.YtagfoogfpabdfaaGreatTau
import Derived.Test.YtagfoogfpabdfaaGreatTan
import Derived.Test.YtagfoogfpabdfaaGreatTat
import Derived.Test.YtagfoogfpabdfaaGreatTac
import Derived.Test.YtagfoogfpabdfaaGreatTao
set_option maxRecDepth 100000
set_option maxHeartbeats 16000000
namespace Go.Proofs.YtagfoogfpabdfaaGreat
end Go.Proofs.YtagfoogfpabdfaaGreat
set_option maxRecDepth 100000
namespace Go.Proofs.YtagfoogfpabdfaaGreat
open Go.RowKit Go.Maps
open Dk (av aa)
open Ii (Ino)
open Dm (Ent Has)
open Fs (M andThen tell ret fail)
def okD {α:Type} (_:α) (_:World) (e:Ending):Prop:=e=.returned (.int .i64 0)
def noD (er:Int):Ending:=.returned (.int .i64 er)
section
variable {α:Type} {w w':World} {T V M:Nat} {b:Blk} {s:Sto} {n I:Int} {op:Int→Int} {e:Ending} {m:Fs.M α} {ok:α→World→Ending→Prop} {no:Int→Ending}
theorem mM.some {er:Int} {s2:Sto} {a:Option α} (h:mM n I s m er s2 a) (h0:er=0):∃ x,a=some x:=by
 rcases h with ⟨x,_,_,_,_,_,_,_,_,h⟩ | ⟨_,h,_⟩ | ⟨_,_,_,_,_,_,h,h',_⟩
 ·exact ⟨x,h⟩
 ·exact absurd h0 h
 ·exact absurd (h'.symm.trans h0) h
theorem eM.only {w2:World} (h:eM ok no V b n I s m e w') (hok:∀ a w w' e,ok a w e→ok a w' e) {L:List Nat} (ho:aB L w' w2) (hV:V∉L) (hL:∀ i∈b.all,i∉L):eM ok no V b n I s m e w2:=by
 obtain ⟨er,s2,a,h1,h2,h3,h4⟩:=h
 exact ⟨er,s2,a,h1,h2.only ho hV hL,h3,fun x q1 q2=>hok _ _ _ _ (h4 x q1 q2)⟩
theorem eM.attr {m:Fs.M (Int × Ino)} (h:eM okA noA V b n I s m e w'):∃ i x er,e=.returned (.tuple #[.agg (aZ i x).toArray,.int .i64 er]):=by
 obtain ⟨er,s2,a,h1,h2,h3,h4⟩:=h
 by_cases h0:er=0
 ·obtain ⟨x,hx⟩:=h1.some h0
  exact ⟨x.1,x.2,0,h4 x h0 hx⟩
 ·exact ⟨0,Ii.zero,er,h3 h0⟩
theorem eM.MS {m:Fs.M (List Ent)} (h:eM Kr Jg V b n I s m e w'):∃ A k c er,e=.returned (.tuple #[.slice A k c,.int .i64 er]):=by
 obtain ⟨er,s2,a,h1,h2,h3,h4⟩:=h
 by_cases h0:er=0
 ·obtain ⟨x,hx⟩:=h1.some h0
  obtain ⟨A,c,h5,_⟩:=h4 x h0 hx
  exact ⟨A,_,c,0,h5⟩
 ·exact ⟨none,0,0,er,h3 h0⟩
theorem eM.done (h:eM okD noD V b n I s m e w'):∃ er,e=.returned (.int .i64 er):=by
 obtain ⟨er,s2,a,h1,h2,h3,h4⟩:=h
 by_cases h0:er=0
 ·obtain ⟨x,hx⟩:=h1.some h0
  exact ⟨0,h4 x h0 hx⟩
 ·exact ⟨er,h3 h0⟩
theorem JN {B:Nat} {m:Fs.M Unit} (h:Ends B b n I [] w s m (fun _ e _=>e=.returned (.tuple #[])) e w'):Cb B b n I [] w s m (fun _ _=>True) (fun _=>True) e w':=by
 rcases h with ⟨a,s',L,h1,h2,h3,h4,h5⟩ | ⟨er,h1,h2,h3,h4,h5⟩
 ·exact Or.inl ⟨a,s',L,h1,h2,h3,h4,trivial,h5⟩
 ·exact Or.inr ⟨er,h1,h2,h3,h4,trivial,h5⟩
theorem sM {m:Fs.M Unit} (h:bu w V b s n I 0) (ht:dW w T V M b n I 0 op) (v:Vs s n I) (hq:s.q<4294967290) (g:FuncId) (caps:Array Value) (hcg:∀ (args:Array Value) (W:World),(callFunc g args).run Tryz.prog W=.ok (.enter g args) W)
  (hg:∀ B w1,w.heap.size≤B→Ctx w1 B b s n I→aB [V] w w1→dW w1 T V M b n I 1 op→Calls Tryz.prog g (#[mu B T]++caps) w1 (Ends B b n I [] w1 s m fun _ e _=>e=.returned (.tuple #[]))):
  Calls Tryz.prog 55 #[.pointer (some ⟨T,0,none⟩),.func (.func g) #[] caps] w fun e w'=>eM okD noD V b n I s m e w'∧aB (V::b.all) w w':=by
 refine (vp h ht v hq [] (fun k hk=>absurd hk List.not_mem_nil) m (fun _ _ _=>True) (fun _=>True) (fun _ _ _ _ _ _ _ _ _=>trivial) (fun _ _ _ _ _ _ _=>trivial) g caps hcg (fun B w1 hB hc ho htr=>(hg B w1 hB hc ho htr).mono fun e w' hh=>JN hh)).mono ?_
 rintro e w' ⟨hst,hO⟩
 obtain ⟨er,s2,a,h1,rfl,h3,_⟩:=hst.to
 exact ⟨⟨er,s2,a,h1,h3,fun _=>rfl,fun x h0 _=>by subst h0;rfl⟩,hO.mono (by simp)⟩
end
section
variable {w:World} {T V M:Nat} {b:Blk} {s:Sto} {n I:Int} {op:Int→Int}
theorem KB (h:bu w V b s n I 0) (ht:dW w T V M b n I 0 op) (v:Vs s n I) (hq:s.q<4294967290) (d p u:Int) (t:List UInt8) (hd:(Lit.int .i64 d).wf=true) (hm:(strOf t).size≤maxLen):
  Calls Tryz.prog 21 #[.pointer (some ⟨T,0,none⟩),.int .i64 d,.string (strOf t),.int .i64 p,.int .i64 u] w fun e w'=>eM okA noA V b n I s (mH n I op d t p u) e w'∧aB (V::b.all) w w':=by
 have hmf:∀ (fn:Fn) (first cap:Array Value) (w:World),(Instr.makeFunc fn first cap).run Tryz.prog w=.ok (.func fn first cap) w:=fun _ _ _ _=>rfl
 have S:=Lib.hid ((((((Lo.start (L:=[]) w (by simp)).alloc _ rfl [.int .i64 d] 3).alloc (w.heap.size+1) (by simp) [.string (strOf t)] 9).alloc (w.heap.size+2) (by simp) [.int .i64 p] 3).alloc (w.heap.size+3) (by simp) [.int .i64 u] 3).alloc (w.heap.size+4) (by simp) (aZ 0 Ii.zero) 33)
 have hVlt:=h.row.lt
 have hbl:∀ k∈b.all,k<w.heap.size:=fun k hk=>h.store.lt k hk
 have htb:=hbl _ b.dX
 have HD:Hid (∀ W,Lo [] w [(w.heap.size,[.int .i64 d]),(w.heap.size+1,[.string (strOf t)]),(w.heap.size+2,[.int .i64 p]),(w.heap.size+3,[.int .i64 u]),(w.heap.size+4,aZ 0 Ii.zero)] W→Calls Tryz.prog 47 #[.pointer (some ⟨T,0,none⟩),.func (.func 48) #[] #[.pointer (some ⟨w.heap.size,0,none⟩),.pointer (some ⟨w.heap.size+2,0,none⟩),.pointer (some ⟨w.heap.size+3,0,none⟩),.pointer (some ⟨w.heap.size+1,0,none⟩)]] W fun e w'=>eM okA noA V b n I s (mH n I op d t p u) e w'∧aB (V::b.all) w w'∧(∀ vs,eM okA noA V b n I s (mH n I op d t p u) e (w'.setCells (w.heap.size+4) 0 vs)∧aB (V::b.all) w (w'.setCells (w.heap.size+4) 0 vs))∧au w' (w.heap.size+4) (aZ 0 Ii.zero)):=Lib.hid (fun W hl=>by
  have hsz:=hl.bel.size
  refine (yq (h.below hl.bel) (ht.below hl.bel) v hq (mH n I op d t p u) 48 #[.pointer (some ⟨w.heap.size,0,none⟩),.pointer (some ⟨w.heap.size+2,0,none⟩),.pointer (some ⟨w.heap.size+3,0,none⟩),.pointer (some ⟨w.heap.size+1,0,none⟩)] (fun args W=>by simp [go_sem]) (fun B w1 hB hc ho htr=>?_)).mono ?_
  ·exact Li hc htr d p u t ((hl.get 0 _ rfl).only ho (by simp;omega)) ((hl.get 2 _ rfl).only ho (by simp;omega)) ((hl.get 3 _ rfl).only ho (by simp;omega)) ((hl.get 1 _ rfl).only ho (by simp;omega)) ⟨by omega,by omega,by omega,by omega⟩ hd hm
  ·rintro e w' ⟨h1,hO⟩
   have hn:w.heap.size+4∉V::b.all:=fun q=>by
    rcases List.mem_cons.1 q with q | q
    ·omega
    ·have:=hbl _ q;omega
   have h9:=(hl.get 4 _ rfl).only hO hn
   refine ⟨h1,bT hl.bel hO (fun i hi=>Or.inl hi),fun vs=>?_,h9⟩
   have ho:aB [w.heap.size+4] w' (w'.setCells (w.heap.size+4) 0 vs):=(aB.refl [w.heap.size+4] w').setCells _ (by simp) vs 0 w'
   exact ⟨h1.only (fun _ _ _ _ q=>q) ho (by simp;omega) (fun i hi q=>by rw [List.mem_singleton] at q;have:=hbl _ hi;omega),(bT hl.bel hO (fun i hi=>Or.inl hi)).via ho (fun i hi=>by rw [List.mem_singleton] at hi;right;omega)⟩)
 clear h ht v hq hVlt hbl htb hd hm
 go_enter Tryz.func21,Tryz.ntmps21
 go_wp2_with fail
 refine (HD.out _ S.out).mono ?_
 rintro e w1 ⟨h1,_,h3,h4⟩
 obtain ⟨i,x,er,rfl⟩:=h1.attr
 have H3:=Lib.hid (h3 (aZ i x))
 have H4:=Lib.hid h4
 clear h1 h3 h4 S HD
 go_wp2_with ((with_reducible refine ak (vs:=aZ i x) de H4.out ?_ ?_ (bq _ _) rfl (.tmp 10) (.tmp 15) rfl ?_ ?_ ?_);(exact rfl);(exact rfl);(exact rfl);(exact rfl))
 exact bodyPost_ret (aL de _ 10 11 rfl _ (H4.out.put _ rfl) rfl rfl rfl) rfl H3.out
theorem IA (h:bu w V b s n I 0) (ht:dW w T V M b n I 0 op) (v:Vs s n I) (hq:s.q<4294967290) (d p u:Int) (t:List UInt8) (hm:(strOf t).size≤maxLen):
  Calls Tryz.prog 22 #[.pointer (some ⟨T,0,none⟩),.int .i64 d,.string (strOf t),.int .i64 p,.int .i64 u] w fun e w'=>eM okA noA V b n I s (jF n I d t p u) e w'∧aB (V::b.all) w w':=by
 have hmf:∀ (fn:Fn) (first cap:Array Value) (w:World),(Instr.makeFunc fn first cap).run Tryz.prog w=.ok (.func fn first cap) w:=fun _ _ _ _=>rfl
 have S:=Lib.hid ((((((Lo.start (L:=[]) w (by simp)).alloc _ rfl [.int .i64 d] 3).alloc (w.heap.size+1) (by simp) [.string (strOf t)] 9).alloc (w.heap.size+2) (by simp) [.int .i64 p] 3).alloc (w.heap.size+3) (by simp) [.int .i64 u] 3).alloc (w.heap.size+4) (by simp) (aZ 0 Ii.zero) 33)
 have hVlt:=h.row.lt
 have hbl:∀ k∈b.all,k<w.heap.size:=fun k hk=>h.store.lt k hk
 have htb:=hbl _ b.dX
 have HD:Hid (∀ W,Lo [] w [(w.heap.size,[.int .i64 d]),(w.heap.size+1,[.string (strOf t)]),(w.heap.size+2,[.int .i64 p]),(w.heap.size+3,[.int .i64 u]),(w.heap.size+4,aZ 0 Ii.zero)] W→Calls Tryz.prog 47 #[.pointer (some ⟨T,0,none⟩),.func (.func 54) #[] #[.pointer (some ⟨w.heap.size,0,none⟩),.pointer (some ⟨w.heap.size+2,0,none⟩),.pointer (some ⟨w.heap.size+3,0,none⟩),.pointer (some ⟨w.heap.size+1,0,none⟩)]] W fun e w'=>eM okA noA V b n I s (jF n I d t p u) e w'∧aB (V::b.all) w w'∧(∀ vs,eM okA noA V b n I s (jF n I d t p u) e (w'.setCells (w.heap.size+4) 0 vs)∧aB (V::b.all) w (w'.setCells (w.heap.size+4) 0 vs))∧au w' (w.heap.size+4) (aZ 0 Ii.zero)):=Lib.hid (fun W hl=>by
  have hsz:=hl.bel.size
  refine (yq (h.below hl.bel) (ht.below hl.bel) v hq (jF n I d t p u) 54 #[.pointer (some ⟨w.heap.size,0,none⟩),.pointer (some ⟨w.heap.size+2,0,none⟩),.pointer (some ⟨w.heap.size+3,0,none⟩),.pointer (some ⟨w.heap.size+1,0,none⟩)] (fun args W=>by simp [go_sem]) (fun B w1 hB hc ho htr=>?_)).mono ?_
  ·exact JU hc htr d p u t ((hl.get 0 _ rfl).only ho (by simp;omega)) ((hl.get 2 _ rfl).only ho (by simp;omega)) ((hl.get 3 _ rfl).only ho (by simp;omega)) ((hl.get 1 _ rfl).only ho (by simp;omega)) ⟨by omega,by omega,by omega,by omega⟩ hm
  ·rintro e w' ⟨h1,hO⟩
   have hn:w.heap.size+4∉V::b.all:=fun q=>by
    rcases List.mem_cons.1 q with q | q
    ·omega
    ·have:=hbl _ q;omega
   have h9:=(hl.get 4 _ rfl).only hO hn
   refine ⟨h1,bT hl.bel hO (fun i hi=>Or.inl hi),fun vs=>?_,h9⟩
   have ho:aB [w.heap.size+4] w' (w'.setCells (w.heap.size+4) 0 vs):=(aB.refl [w.heap.size+4] w').setCells _ (by simp) vs 0 w'
   exact ⟨h1.only (fun _ _ _ _ q=>q) ho (by simp;omega) (fun i hi q=>by rw [List.mem_singleton] at q;have:=hbl _ hi;omega),(bT hl.bel hO (fun i hi=>Or.inl hi)).via ho (fun i hi=>by rw [List.mem_singleton] at hi;right;omega)⟩)
 clear h ht v hq hVlt hbl htb hm
 go_enter Tryz.func22,Tryz.ntmps22
 go_wp2_with fail
 refine (HD.out _ S.out).mono ?_
 rintro e w1 ⟨h1,_,h3,h4⟩
 obtain ⟨i,x,er,rfl⟩:=h1.attr
 have H3:=Lib.hid (h3 (aZ i x))
 have H4:=Lib.hid h4
 clear h1 h3 h4 S HD
 go_wp2_with ((with_reducible refine ak (vs:=aZ i x) de H4.out ?_ ?_ (bq _ _) rfl (.tmp 10) (.tmp 15) rfl ?_ ?_ ?_);(exact rfl);(exact rfl);(exact rfl);(exact rfl))
 exact bodyPost_ret (aL de _ 10 11 rfl _ (H4.out.put _ rfl) rfl rfl rfl) rfl H3.out
theorem Mf (h:bu w V b s n I 0) (ht:dW w T V M b n I 0 op) (v:Vs s n I) (hq:s.q<4294967290) (d:Int):
  Calls Tryz.prog 25 #[.pointer (some ⟨T,0,none⟩),.int .i64 d] w fun e w'=>eM Kr Jg V b n I s (wg n I d) e w'∧aB (V::b.all) w w':=by
 have hmf:∀ (fn:Fn) (first cap:Array Value) (w:World),(Instr.makeFunc fn first cap).run Tryz.prog w=.ok (.func fn first cap) w:=fun _ _ _ _=>rfl
 have S:=Lib.hid ((Lo.start (L:=[]) w (by simp)).alloc _ rfl [.int .i64 d] 3)
 have hVlt:=h.row.lt
 have hbl:∀ k∈b.all,k<w.heap.size:=fun k hk=>h.store.lt k hk
 have htb:=hbl _ b.dX
 have HD:Hid (∀ W,Lo [] w [(w.heap.size,[.int .i64 d])] W→Calls Tryz.prog 63 #[.pointer (some ⟨T,0,none⟩),.func (.func 64) #[] #[.pointer (some ⟨w.heap.size,0,none⟩)]] W fun e w'=>eM Kr Jg V b n I s (wg n I d) e w'∧aB (V::b.all) w w'):=Lib.hid (fun W hl=>by
  have hsz:=hl.bel.size
  refine (Hj (h.below hl.bel) (ht.below hl.bel) v hq (wg n I d) 64 #[.pointer (some ⟨w.heap.size,0,none⟩)] (fun args W=>by simp [go_sem]) (fun B w1 hB hc ho htr=>?_)).mono ?_
  ·exact Mn hc htr d ((hl.get 0 _ rfl).only ho (by simp;omega)) (by omega)
  ·rintro e w' ⟨h1,hO⟩
   exact ⟨h1,bT hl.bel hO (fun i hi=>Or.inl hi)⟩)
 clear h ht v hq hVlt hbl htb
 go_enter Tryz.func25,Tryz.ntmps25
 go_wp2_with fail
 refine (HD.out _ S.out).mono ?_
 rintro e w1 ⟨h1,hO⟩
 obtain ⟨A,k,c,er,rfl⟩:=h1.MS
 have H1:=Lib.hid h1
 clear h1 S HD
 go_wp2_with fail
 go_ret2
 exact ⟨H1.out,hO⟩
theorem KA (h:bu w V b s n I 0) (ht:dW w T V M b n I 0 op) (v:Vs s n I) (hq:s.q<4294967290) (d:Int) (t:List UInt8) (hd:(Lit.int .i64 d).wf=true) (hI:I≤1000):
  Calls Tryz.prog 29 #[.pointer (some ⟨T,0,none⟩),.int .i64 d,.string (strOf t)] w fun e w'=>eM okD noD V b n I s (om n I op d t) e w'∧aB (V::b.all) w w':=by
 have hmf:∀ (fn:Fn) (first cap:Array Value) (w:World),(Instr.makeFunc fn first cap).run Tryz.prog w=.ok (.func fn first cap) w:=fun _ _ _ _=>rfl
 have S:=Lib.hid (((Lo.start (L:=[]) w (by simp)).alloc _ rfl [.int .i64 d] 3).alloc (w.heap.size+1) (by simp) [.string (strOf t)] 9)
 have hVlt:=h.row.lt
 have hbl:∀ k∈b.all,k<w.heap.size:=fun k hk=>h.store.lt k hk
 have htb:=hbl _ b.dX
 have HD:Hid (∀ W,Lo [] w [(w.heap.size,[.int .i64 d]),(w.heap.size+1,[.string (strOf t)])] W→Calls Tryz.prog 55 #[.pointer (some ⟨T,0,none⟩),.func (.func 78) #[] #[.pointer (some ⟨w.heap.size,0,none⟩),.pointer (some ⟨w.heap.size+1,0,none⟩)]] W fun e w'=>eM okD noD V b n I s (om n I op d t) e w'∧aB (V::b.all) w w'):=Lib.hid (fun W hl=>by
  have hsz:=hl.bel.size
  refine (sM (h.below hl.bel) (ht.below hl.bel) v hq (m:=om n I op d t) 78 #[.pointer (some ⟨w.heap.size,0,none⟩),.pointer (some ⟨w.heap.size+1,0,none⟩)] (fun args W=>by simp [go_sem]) (fun B w1 hB hc ho htr=>?_)).mono ?_
  ·exact KO hc htr d t ((hl.get 0 _ rfl).only ho (by simp;omega)) ((hl.get 1 _ rfl).only ho (by simp;omega)) ⟨by omega,by omega⟩ hd hI
  ·rintro e w' ⟨h1,hO⟩
   exact ⟨h1,bT hl.bel hO (fun i hi=>Or.inl hi)⟩)
 clear h ht v hq hVlt hbl htb hd hI
 go_enter Tryz.func29,Tryz.ntmps29
 go_wp2_with fail
 refine (HD.out _ S.out).mono ?_
 rintro e w1 ⟨h1,hO⟩
 obtain ⟨er,rfl⟩:=h1.done
 have H1:=Lib.hid h1
 clear h1 S HD
 go_wp2_with fail
 go_ret
 exact ⟨H1.out,hO⟩
theorem Ix (h:bu w V b s n I 0) (ht:dW w T V M b n I 0 op) (v:Vs s n I) (hq:s.q<4294967290) (f to:Int) (t u:List UInt8) (hu:(strOf u).size≤maxLen) (hk:∀ r V' L,iR n I f t (nv s)=(.ok r,V',L)→¬ r.2.k=2) (hno:∀ r V' L,iX n I to u (nv s)=(.ok r,V',L)→r=0):
  Calls Tryz.prog 28 #[.pointer (some ⟨T,0,none⟩),.int .i64 f,.string (strOf t),.int .i64 to,.string (strOf u)] w fun e w'=>eM okD noD V b n I s (IW n I f t to u 0) e w'∧aB (V::b.all) w w':=by
 have hmf:∀ (fn:Fn) (first cap:Array Value) (w:World),(Instr.makeFunc fn first cap).run Tryz.prog w=.ok (.func fn first cap) w:=fun _ _ _ _=>rfl
 have S:=Lib.hid (((((Lo.start (L:=[]) w (by simp)).alloc _ rfl [.int .i64 f] 3).alloc (w.heap.size+1) (by simp) [.string (strOf t)] 9).alloc (w.heap.size+2) (by simp) [.int .i64 to] 3).alloc (w.heap.size+3) (by simp) [.string (strOf u)] 9)
 have hVlt:=h.row.lt
 have hbl:∀ k∈b.all,k<w.heap.size:=fun k hk=>h.store.lt k hk
 have htb:=hbl _ b.dX
 have HD:Hid (∀ W,Lo [] w [(w.heap.size,[.int .i64 f]),(w.heap.size+1,[.string (strOf t)]),(w.heap.size+2,[.int .i64 to]),(w.heap.size+3,[.string (strOf u)])] W→Calls Tryz.prog 55 #[.pointer (some ⟨T,0,none⟩),.func (.func 71) #[] #[.pointer (some ⟨w.heap.size,0,none⟩),.pointer (some ⟨w.heap.size+2,0,none⟩),.pointer (some ⟨w.heap.size+1,0,none⟩),.pointer (some ⟨w.heap.size+3,0,none⟩)]] W fun e w'=>eM okD noD V b n I s (IW n I f t to u 0) e w'∧aB (V::b.all) w w'):=Lib.hid (fun W hl=>by
  have hsz:=hl.bel.size
  refine (sM (h.below hl.bel) (ht.below hl.bel) v hq (m:=IW n I f t to u 0) 71 #[.pointer (some ⟨w.heap.size,0,none⟩),.pointer (some ⟨w.heap.size+2,0,none⟩),.pointer (some ⟨w.heap.size+1,0,none⟩),.pointer (some ⟨w.heap.size+3,0,none⟩)] (fun args W=>by simp [go_sem]) (fun B w1 hB hc ho htr=>?_)).mono ?_
  ·exact IV hc htr f to t u ((hl.get 0 _ rfl).only ho (by simp;omega)) ((hl.get 2 _ rfl).only ho (by simp;omega)) ((hl.get 1 _ rfl).only ho (by simp;omega)) ((hl.get 3 _ rfl).only ho (by simp;omega)) ⟨by omega,by omega,by omega,by omega⟩ hu hk hno
  ·rintro e w' ⟨h1,hO⟩
   exact ⟨h1,bT hl.bel hO (fun i hi=>Or.inl hi)⟩)
 clear h ht v hq hVlt hbl htb hu hk hno
 go_enter Tryz.func28,Tryz.ntmps28
 go_wp2_with fail
 refine (HD.out _ S.out).mono ?_
 rintro e w1 ⟨h1,hO⟩
 obtain ⟨er,rfl⟩:=h1.done
 have H1:=Lib.hid h1
 clear h1 S HD
 go_wp2_with fail
 go_ret
 exact ⟨H1.out,hO⟩
end
end Go.Proofs.YtagfoogfpabdfaaGreat

namespace Go.Proofs.YtagfoogfpabdfaaGreat

end Go.Proofs.YtagfoogfpabdfaaGreat
set_option maxRecDepth 100000
namespace Go.Proofs.YtagfoogfpabdfaaGreat
open Go.RowKit Go.Maps
open Dk (av aa)
open Ii (Ino)
theorem vo {w:World} {I er:Int} {P:World→Prop} {dv:Value} (h:Calls Tryz.prog 81 #[dv,.int .i64 I] w fun e w'=>e=.returned (.int .i64 er)∧P w'):Calls Tryz.prog 31 #[dv,.int .i64 I] w fun e w'=>e=.returned (.int .i64 er)∧P w':=by
 have H:=Lib.hid h
 clear h
 go_enter Tryz.func31,Tryz.ntmps31
 go_wp2_with (go_at_call 81;(with_reducible refine H.out.mono ?_);rintro e w1 ⟨rfl,hP⟩)
 go_ret
 exact ⟨rfl,hP⟩
def MA (w:World) (d l m:Nat) (n I:Int) (K:Sto→Prop) (e:Ending) (w':World):Prop:=
 ∃ (T V M:Nat) (b:Blk) (s:Sto),b.d=d∧b.l=l∧b.m=m∧w.heap.size≤T∧w.heap.size≤V∧w.heap.size≤M∧(∀ k∈b.all,k∈[d,l,m]∨w.heap.size≤k)∧e=.returned (.tuple #[.pointer (some ⟨T,0,none⟩),.int .i64 0])∧bu w' V b s n I 0∧dW w' T V M b n I 0 (fun _=>0)∧K s∧aB [d,l,m] w w'
theorem yL {w:World} {d l m:Nat} {n I:Int} {K:Sto→Prop} (hd:d<w.heap.size∧l<w.heap.size∧m<w.heap.size) (h:Calls Tryz.prog 44 #[.pointer (some ⟨d,0,none⟩)] w (Kl w d l m n I K)):Calls Tryz.prog 16 #[.pointer (some ⟨d,0,none⟩)] w (MA w d l m n I K):=by
 have hmm:=@run_makeMap Tryz.prog
 have H:=Lib.hid h
 clear h
 go_enter Tryz.func16,Tryz.ntmps16
 go_wp2_with fail
 refine H.out.mono ?_
 rintro e w1 ⟨V,b,s1,b1,b2,b3,g1,g2,g3,g4,g5,rfl,hv,hs,ho⟩
 have HV:=Lib.hid hv
 have HO:=Lib.hid ho
 clear hv ho H
 go_wp2_with fail
 have hlt:∀ k∈b.all,k<w1.heap.size:=fun k hk=>HV.out.store.lt k hk
 have hVlt:=HV.out.row.lt
 have hsz:=HO.out.size
 obtain ⟨hd1,hd2,hd3⟩:=hd
 have hB:Below w1.heap.size w1 ((w1.alloc (.map #[] 0)).alloc (.cells #[.pointer (some ⟨V,0,none⟩),.map (some w1.heap.size)] 93)):=((Below.refl w1.heap.size w1).alloc (Nat.le_refl _) _).alloc (by simp) _
 have hR:=(((Lo.start (L:=[]) (w1.alloc (.map #[] 0)) (by simp)).alloc _ rfl [.pointer (some ⟨V,0,none⟩),.map (some w1.heap.size)] 93)).get 0 _ rfl
 rw [World.size_alloc] at hR
 have hv2:=HV.out.below hB
 have hM:EG ((w1.alloc (.map #[] 0)).alloc (.cells #[.pointer (some ⟨V,0,none⟩),.map (some w1.heap.size)] 93)) w1.heap.size (fun _=>0):=(Cx w1).block (Below.heap_alloc _ _ _ (by simp))
 go_ret2
 refine ⟨w1.heap.size+1,V,w1.heap.size,b,s1,b1,b2,b3,by omega,g1,hsz,?_,rfl,hv2,⟨hR,hv2.row,hM,?_,by omega,by omega⟩,hs,HO.out.oH hB⟩
 ·intro k hk
  simp only [Blk.all,List.mem_cons,List.not_mem_nil,or_false] at hk
  simp only [List.mem_cons,List.not_mem_nil,or_false]
  rcases hk with rfl | rfl | rfl | rfl | rfl | rfl | rfl <;> omega
 ·refine ⟨fun q=>?_,HV.out.nb,fun q=>?_⟩ <;> have:=hlt _ q <;> omega
theorem yO (w:World) (N:Nat) (I:Int) (hpl:Pl.aA (N:Int) I=true):Calls Tryz.prog 9 #[.int .i64 (N:Int),.int .i64 I] w fun e w'=>∃ (T V M:Nat) (b:Blk) (s:Sto),e=.returned (.tuple #[.pointer (some ⟨T,0,none⟩),.pointer (some ⟨b.d,0,none⟩)])∧bu w' V b s (N:Int) I 0∧dW w' T V M b (N:Int) I 0 (fun _=>0)∧sw s (N:Int) I∧Below w.heap.size w w'∧w.heap.size≤T∧w.heap.size≤V∧w.heap.size≤M∧∀ k∈b.all,w.heap.size≤k:=by
 obtain ⟨r1,r2,r3,r4⟩:=Pl.aW hpl
 have hd:=Pl.dZ r1 r2
 have HN:=Lib.hid (Jl N w (by omega) (by omega))
 have HF:=Lib.hid (vo (Ad (rT w N (by omega) (by omega)) hpl))
 have HBW:=Lib.hid (pN w N)
 have HSZ:=Lib.hid (rS w N)
 go_enter Tryz.func9,Tryz.ntmps9
 go_wp2_with (go_at_call 30;(with_reducible refine HN.out.mono ?_);rintro e w1 ⟨rfl,rfl⟩)
 refine HF.out.mono ?_
 rintro e w2 ⟨rfl,ho2,s,hf,hd2⟩
 have HM:=Lib.hid (yL ⟨hd2.dlt,hd2.llt,hd2.mlt⟩ (DF hd2 hf hpl))
 go_wp2_with fail
 refine HM.out.mono ?_
 rintro e w3 ⟨T,V,M,b,s1,b1,b2,b3,g1,g2,g3,g4,rfl,hv,ht,hs,ho3⟩
 go_wp2_with fail
 go_ret2
 have hz:=HSZ.out
 have hz2:=ho2.size
 refine ⟨T,V,M,b,s1,by rw [b1];rfl,hv,ht,hs,aB.lI HBW.out (ho2.trans ho3) (by omega) (by simp),by omega,by omega,by omega,fun k hk=>?_⟩
 rcases g4 k hk with q | q
 ·simp only [List.mem_cons,List.not_mem_nil,or_false] at q
  omega
 ·omega
end Go.Proofs.YtagfoogfpabdfaaGreat

namespace Go.Proofs.YtagfoogfpabdfaaGreat

end Go.Proofs.YtagfoogfpabdfaaGreat
set_option maxRecDepth 100000
namespace Go.Proofs.YtagfoogfpabdfaaGreat
open Go.RowKit Go.Maps
open Dk (av aa)
open Ii (Ino)
open Dm (Ent)
open Fs (M andThen tell ret fail View)
def Tw (w:World) (T V M:Nat) (b:Blk) (k:Nat) (V0:View):Prop:=∃ s,bu w V b s 70 8 0∧dW w T V M b 70 8 0 op0∧Calm s 70 8 k∧Fs.Eqv 70 (nv s) V0
section
variable {w w':World} {T V M:Nat} {b:Blk} {s:Sto} {k:Nat} {V0:View} {e:Ending}
theorem dW.next {s2:Sto} {n I:Int} {op:Int→Int} (h:dW w T V M b n I 0 op) (ho:aB (V::b.all) w w') (hv:bu w' V b s2 n I 0):dW w' T V M b n I 0 op:=by
 have hT:T∉V::b.all:=fun q=>by
  rcases List.mem_cons.1 q with q | q
  ·exact h.ne.1 q
  ·exact h.out.1 q
 have hM:M∉V::b.all:=fun q=>by
  rcases List.mem_cons.1 q with q | q
  ·exact h.ne.2 q
  ·exact h.out.2.2 q
 exact ⟨h.row.only ho hT,hv.row,h.map.block (ho.block M h.map.lt hM),h.out,h.ne⟩
theorem nL {α β:Type} {ok:α→World→Ending→Prop} {no:Int→Ending} {m:Fs.M α} {f:α→β} {c:Nat} {x:β} (hl:Fs.Loc 70 m) (hk:k≤1000000) (hS:sumOf f (m V0)=some (x,c)) (hc:c≤34) (hT:dW w T V M b 70 8 0 op0) (hC:Calm s 70 8 k) (hE:Fs.Eqv 70 (nv s) V0) (ha:eM ok no V b 70 8 s m e w') (ho:aB (V::b.all) w w'):
  Tw w' T V M b (k+1) (eB (m V0))∧∃ y,f y=x∧ok y w' e:=by
 obtain ⟨er,s2,a,h1,h2,_,h4⟩:=ha
 obtain ⟨q1,q2,q3,y,q4,q5⟩:=Cc hl hC hk hE hS hc h1
 exact ⟨⟨s2,h2,hT.next ho h2,q2,q3⟩,y,q5,h4 y q1 q4⟩
theorem Kz (h:Calm s 70 8 k) (hk:k≤1000000):s.q<4294967290:=by have:=h.q;omega
theorem Hg (h:Tw w T V M b 0 (AF 70 8)):Calls Tryz.prog 21 #[.pointer (some ⟨T,0,none⟩),.int .i64 1,.string ⟨#[97]⟩,.int .i64 493,.int .i64 0] w fun e w'=>(∃ x,e=.returned (.tuple #[fH 2 x,.int .i64 0]))∧Tw w' T V M b 1 (eB e1)∧aB (V::b.all) w w':=by
 obtain ⟨s,hv,ht,hC,hE⟩:=h
 refine (KB hv ht hC.vs (Kz hC (by decide)) 1 493 0 [97] (by decide) (by decide)).mono ?_
 rintro e w' ⟨ha,ho⟩
 obtain ⟨h1,⟨i,x⟩,h2,h3⟩:=nL (CW FF _ _ _ _ _) (by decide) LH (by decide) ht hC hE ha ho
 simp only at h2
 subst h2
 exact ⟨⟨x,h3⟩,h1,ho⟩
theorem En (h:Tw w T V M b 1 (eB e1)):Calls Tryz.prog 22 #[.pointer (some ⟨T,0,none⟩),.int .i64 2,.string ⟨#[98]⟩,.int .i64 420,.int .i64 0] w fun e w'=>(∃ x,e=.returned (.tuple #[fH 3 x,.int .i64 0]))∧Tw w' T V M b 2 (eB e2)∧aB (V::b.all) w w':=by
 obtain ⟨s,hv,ht,hC,hE⟩:=h
 refine (IA hv ht hC.vs (Kz hC (by decide)) 2 420 0 [98] (by decide)).mono ?_
 rintro e w' ⟨ha,ho⟩
 obtain ⟨h1,⟨i,x⟩,h2,h3⟩:=nL (zT FF _ _ _ _) (by decide) LG (by decide) ht hC hE ha ho
 simp only at h2
 subst h2
 exact ⟨⟨x,h3⟩,h1,ho⟩
theorem Em (h:Tw w T V M b 2 (eB e2)):Calls Tryz.prog 28 #[.pointer (some ⟨T,0,none⟩),.int .i64 2,.string ⟨#[98]⟩,.int .i64 1,.string ⟨#[99]⟩] w fun e w'=>e=.returned (.int .i64 0)∧Tw w' T V M b 3 (eB e3)∧aB (V::b.all) w w':=by
 obtain ⟨s,hv,ht,hC,hE⟩:=h
 refine (Ix hv ht hC.vs (Kz hC (by decide)) 2 1 [98] [99] (by decide) (fun r V' L hr=>?_) (fun r V' L hr=>?_)).mono ?_
 ·have:=tG (oR FF _ _) hE JL r V' L hr
  rw [this];decide
 ·exact tG (lq FF _ _) hE JT r V' L hr
 rintro e w' ⟨ha,ho⟩
 obtain ⟨h1,y,h2,h3⟩:=nL (Jp FF _ _ _ _) (by decide) LF (by decide) ht hC hE ha ho
 exact ⟨h3,h1,ho⟩
theorem Ki (h:Tw w T V M b 3 (eB e3)):Calls Tryz.prog 25 #[.pointer (some ⟨T,0,none⟩),.int .i64 1] w fun e w'=>(∃ g o c,e=.returned (.tuple #[.slice (some ⟨g,o,none⟩) 2 c,.int .i64 0])∧w'.cell? ⟨g,o+2+1,none⟩=some (.string ⟨#[99]⟩))∧Tw w' T V M b 4 (eB e4)∧aB (V::b.all) w w':=by
 obtain ⟨s,hv,ht,hC,hE⟩:=h
 refine (Mf hv ht hC.vs (Kz hC (by decide)) 1).mono ?_
 rintro e w' ⟨ha,ho⟩
 obtain ⟨h1,y,h2,A,c,h3,h4⟩:=nL (Gd FF _) (by decide) LD (by decide) ht hC hE ha ho
 subst h2
 obtain ⟨g,o,rfl,_,hc⟩:=h4.cells (by decide)
 exact ⟨⟨g,o,c,h3,hc 1 (3,[99]) rfl 1 _ rfl⟩,h1,ho⟩
theorem JP:eB e4=eB e3:=by kernel_rfl
theorem Hf (h:Tw w T V M b 4 (eB e4)):Calls Tryz.prog 29 #[.pointer (some ⟨T,0,none⟩),.int .i64 1,.string ⟨#[97]⟩] w fun e w'=>e=.returned (.int .i64 0)∧aB (V::b.all) w w':=by
 rw [JP] at h
 obtain ⟨s,hv,ht,hC,hE⟩:=h
 refine (KA hv ht hC.vs (Kz hC (by decide)) 1 [97] (by decide) (by decide)).mono ?_
 rintro e w' ⟨ha,ho⟩
 obtain ⟨h1,y,h2,h3⟩:=nL (CS FF _ _ _) (by decide) LC (by decide) ht hC hE ha ho
 exact ⟨h3,ho⟩
end
end Go.Proofs.YtagfoogfpabdfaaGreat

namespace Go.Proofs.YtagfoogfpabdfaaGreat

end Go.Proofs.YtagfoogfpabdfaaGreat
set_option maxRecDepth 100000
namespace Go.Proofs.YtagfoogfpabdfaaGreat
open Go.RowKit Go.Maps
open Dk (av aa)
open Ii (Ino)
open Fs (View)
theorem pD {w W:World} {V:Nat} {b:Blk} (hb:Below w.heap.size w W) (hg:∀ k∈V::b.all,w.heap.size≤k) {W':World} (ho:aB (V::b.all) W W'):Below w.heap.size w W':=hb.trans (aB.toBelow ho hb.size hg)
theorem Tw.below {w w':World} {T V M:Nat} {b:Blk} {k:Nat} {V0:View} (h:Tw w T V M b k V0) (hb:Below w.heap.size w w'):Tw w' T V M b k V0:=by
 obtain ⟨s,h1,h2,h3⟩:=h
 exact ⟨s,h1.below hb,h2.below hb,h3⟩
theorem yQ (w:World):Calls Tryz.prog 7 #[] w fun e w'=>e=.returned (.bool true)∧Below w.heap.size w w':=by
 have HF:=Lib.hid (yO w 70 8 FF)
 go_enter Tryz.func7,Tryz.ntmps7
 go_wp2_with fail
 refine HF.out.mono ?_
 rintro e w1 ⟨T,V,M,b,s,rfl,hv,ht,hs,hb,hT,hV,hM,hbb⟩
 have HB:=Lib.hid hb
 have HG:Hid (∀ k∈V::b.all,w.heap.size≤k):=Lib.hid (fun k hk=>by
  rcases List.mem_cons.1 hk with rfl | hk
  ·exact hV
  ·exact hbb k hk)
 have HL:Hid (∀ k∈V::b.all,k<w1.heap.size):=Lib.hid (fun k hk=>by
  rcases List.mem_cons.1 hk with rfl | hk
  ·exact hv.row.lt
  ·exact hv.store.lt k hk)
 have H0:=Lib.hid (Hg (⟨s,hv,ht,hs.calm FF,hs.eqv⟩:Tw w1 T V M b 0 (AF 70 8)))
 clear hv ht hs hb hV hM hbb
 go_wp2_with fail
 refine H0.out.mono ?_
 rintro e w2 ⟨⟨x,rfl⟩,hw,ho⟩
 have HB2:=Lib.hid (pD HB.out HG.out ho)
 have HW2:=Lib.hid hw
 have HN:Hid (w2.heap.size∉V::b.all):=Lib.hid (fun q=>by have:=HL.out _ q;have:=ho.size;omega)
 clear hw ho H0 HL
 go_wp2_with ((with_reducible refine ai (vs:=aZ 2 x) de ?_ (bq _ _) rfl (.tmp 3) (.tmp 19) rfl rfl ?_ ?_ ?_);(exact rfl);(exact rfl);(exact rfl);intro W2 hP hB2 hz2;have HP:=Lib.hid hP;have HB3:=Lib.hid (HB2.out.trans (hB2.mono HB2.out.size));have HC:=Lib.hid (En (HW2.out.below hB2));have c0:=hP.cell 0 _ rfl;clear hP hB2 hz2)
 refine HC.out.mono ?_
 rintro e w3 ⟨⟨y,rfl⟩,hw,ho⟩
 have hP3:=HP.out.only ho HN.out
 have HP3:=Lib.hid hP3
 have HB4:=Lib.hid (pD HB3.out HG.out ho)
 have HW3:=Lib.hid hw
 clear hw ho c0 HC HB2 HB3 HP HW2 hP3
 go_wp2_with ((with_reducible refine ai (vs:=aZ 3 y) de ?_ (bq _ _) rfl (.tmp 5) (.tmp 26) rfl rfl ?_ ?_ ?_);(exact rfl);(exact rfl);(exact rfl);intro W4 hP hB2 hz2;have HB5:=Lib.hid (HB4.out.trans (hB2.mono HB4.out.size));have HC:=Lib.hid (Em (HW3.out.below hB2));have c0:=(HP3.out.step hB2).cell 0 _ rfl;clear hP hB2 hz2)
 refine HC.out.mono ?_
 rintro e w5 ⟨rfl,hw,ho⟩
 have HB6:=Lib.hid (pD HB5.out HG.out ho)
 have HC5:=Lib.hid (Ki hw)
 clear hw ho HC HB4 HB5 HP3 HW3 c0
 go_wp2_with fail
 refine HC5.out.mono ?_
 rintro e w6 ⟨⟨g,o,c,rfl,hc⟩,hw,ho⟩
 have HB7:=Lib.hid (pD HB6.out HG.out ho)
 have HC6:=Lib.hid (Hf hw)
 clear hw ho HC5 HB6
 go_wp2_with fail
 refine HC6.out.mono ?_
 rintro e w7 ⟨rfl,ho⟩
 have HB8:=Lib.hid (pD HB7.out HG.out ho)
 clear ho HC6
 go_wp2_with fail
 go_ret
 exact ⟨rfl,HB8.out⟩
end Go.Proofs.YtagfoogfpabdfaaGreat

namespace Go.Proofs.YtagfoogfpabdfaaGreat

end Go.Proofs.YtagfoogfpabdfaaGreat
set_option maxRecDepth 100000
namespace Go.Proofs.YtagfoogfpabdfaaGreat
open Go.RowKit Go.Maps
open Dk (av aa)
theorem yJ (k a b c d:Int) (x y:ByteArray) (w:World):Calls Tryz.prog 5 #[nM k a b c d x y] w fun e w'=>e=.returned (.bool true)∧Below w.heap.size w w':=by
 have HAW:=Lib.hid (fun W=>yQ W)
 have HDO:=Lib.hid (fun W=>ldo W k a b c d x y)
 have HMN:=Lib.hid (fun W=>yK W)
 have S0:=Lib.hid ((Lo.start (L:=[]) w (by simp)).alloc _ rfl (yI k a b c d x y) 31)
 go_enter Tryz.func5,Tryz.ntmps5
 go_wp2_with fail
 refine (HAW.out _).mono ?_
 rintro e w1 ⟨rfl,hb⟩
 have S1:=Lib.hid (S0.out.below hb)
 clear hb S0 HAW
 have S1:Hid (Lo [] w [(w.heap.size,[.int .i64 k,.int .i64 a,.int .i64 b,.int .i64 c,.int .i64 d,.string x,.string y])] w1):=S1
 go_wp2_with (with_reducible refine af Hv (S1.out.get 0 _ rfl) rfl rfl (.tmp 1) rfl rfl ?_)
 have S2:=Lib.hid (S1.out.alloc _ rfl (yI k a b c d x y) 31)
 refine (yN (S2.out.get 1 _ rfl)).mono ?_
 rintro e w3 ⟨g,rfl,hb⟩
 have S3:=Lib.hid (S2.out.below hb)
 clear hb S1 S2
 cases g with
 |
  true=>
  go_wp2_with fail
  go_ret
  exact ⟨rfl,S3.out.bel⟩
 |
  false=>
  go_wp2_with (with_reducible refine af Hv (S3.out.get 0 _ rfl) rfl rfl (.tmp 1) rfl rfl ?_)
  refine (HDO.out _).mono ?_
  rintro e w4 ⟨rfl,hb⟩
  have S4:=Lib.hid (S3.out.below hb)
  clear hb S3 HDO
  generalize hr:(if 0≤k∧k≤18 then (5:Int) else 0)=r
  go_wp2_with ((with_reducible refine ai (vs:=aV r) bI ?_ (bX _) rfl (.tmp 4) (.tmp 14) rfl rfl ?_ ?_ ?_);(exact rfl);(exact rfl);(exact rfl);intro W5 hP hB2 hz2;have S5:=Lib.hid (S4.out.made hP hB2 hz2);clear hP hB2 hz2)
  refine (HMN.out _).mono ?_
  rintro e w6 ⟨rfl,hb⟩
  have S6:=Lib.hid (S5.out.below hb)
  clear hb S4 S5 HMN
  have z0:=(S6.out.get 2 _ rfl).cell 0 _ rfl
  have z1:=(S6.out.get 2 _ rfl).cell 1 _ rfl
  have z2:=(S6.out.get 2 _ rfl).cell 2 _ rfl
  have z3:=(S6.out.get 2 _ rfl).cell 3 _ rfl
  have z4:=(S6.out.get 2 _ rfl).cell 4 _ rfl
  have z5:=(S6.out.get 2 _ rfl).cell 5 _ rfl
  have z6:=(S6.out.get 2 _ rfl).cell 6 _ rfl
  have z7:=(S6.out.get 2 _ rfl).cell 7 _ rfl
  have z8:=(S6.out.get 2 _ rfl).cell 8 _ rfl
  have o0:=(S6.out.get 0 _ rfl).cell 0 _ rfl
  have o1:=(S6.out.get 0 _ rfl).cell 1 _ rfl
  by_cases h:0≤k∧k≤18
  ·rw [if_pos h] at hr
   subst hr
   clear h
   go_wp2_with (first
    | (go_at_call 17;(with_reducible refine (nu _ _).mono ?_);rintro e w9 ⟨rfl,rfl⟩)
    | (go_at_call 18;(with_reducible refine (vV _).mono ?_);rintro e w9 ⟨rfl,hb⟩;replace S6:=Lib.hid (S6.out.below hb);clear hb)
    | (go_at_call 19;(with_reducible refine (rQ _).mono ?_);rintro e w9 ⟨rfl,hb⟩;replace S6:=Lib.hid (S6.out.below hb);clear hb)
    | (go_at_call 14;(with_reducible refine (rR _).mono ?_);rintro e w9 ⟨rfl,rfl⟩)
    | (go_at_call 20;(with_reducible refine (gr _).mono ?_);rintro e w9 ⟨rfl,rfl⟩))
   go_ret
   exact ⟨rfl,S6.out.bel⟩
  ·rw [if_neg h] at hr
   subst hr
   by_cases h1:k<0
   ·clear h
    go_wp2_with (first
     | (go_at_call 17;(with_reducible refine (nu _ _).mono ?_);rintro e w9 ⟨rfl,rfl⟩)
     | (go_at_call 18;(with_reducible refine (vV _).mono ?_);rintro e w9 ⟨rfl,hb⟩;replace S6:=Lib.hid (S6.out.below hb);clear hb)
     | (go_at_call 19;(with_reducible refine (rQ _).mono ?_);rintro e w9 ⟨rfl,hb⟩;replace S6:=Lib.hid (S6.out.below hb);clear hb)
     | (go_at_call 14;(with_reducible refine (rR _).mono ?_);rintro e w9 ⟨rfl,rfl⟩)
     | (go_at_call 20;(with_reducible refine (gr _).mono ?_);rintro e w9 ⟨rfl,rfl⟩))
    go_ret
    exact ⟨rfl,S6.out.bel⟩
   ·have h2:18<k:=by omega
    clear h
    go_wp2_with (first
     | (go_at_call 17;(with_reducible refine (nu _ _).mono ?_);rintro e w9 ⟨rfl,rfl⟩)
     | (go_at_call 18;(with_reducible refine (vV _).mono ?_);rintro e w9 ⟨rfl,hb⟩;replace S6:=Lib.hid (S6.out.below hb);clear hb)
     | (go_at_call 19;(with_reducible refine (rQ _).mono ?_);rintro e w9 ⟨rfl,hb⟩;replace S6:=Lib.hid (S6.out.below hb);clear hb)
     | (go_at_call 14;(with_reducible refine (rR _).mono ?_);rintro e w9 ⟨rfl,rfl⟩)
     | (go_at_call 20;(with_reducible refine (gr _).mono ?_);rintro e w9 ⟨rfl,rfl⟩))
    go_ret
    exact ⟨rfl,S6.out.bel⟩
end Go.Proofs.YtagfoogfpabdfaaGreat

namespace Go.Proofs.YtagfoogfpabdfaaGreat

end Go.Proofs.YtagfoogfpabdfaaGreat
set_option maxRecDepth 100000
namespace Go.Proofs.YtagfoogfpabdfaaGreat
open Go.ChangeShapes Go.WideShapes Go.ChangeAt Go.RowKit
theorem GW:Tryz.prog.cellsOf 31=7:=by kernel_rfl
theorem Bd:Tryz.prog.cellsOf 9=1:=by kernel_rfl
theorem AX {H:Type} {enc:TypeId × Value→H} {W:World} {fuel:Nat} {base:Nat} {spare:Nat→Bool} {held:Bool} {cs:List Value} {z:DataW H × List MemPlace} (ht:DataW.trod enc Tryz.prog W base spare held fuel 31 cs=some z):
  ∃ k a b c d x y,cs=yI k a b c d x y:=by
 obtain ⟨xs,n,_,rfl,hcl,hlen,hf⟩:=DataW.trod_struct Tryz.underlying31 ht
 rw [GW] at hcl
 match xs,hlen with
 |
  [y0,y1,y2,y3,y4,y5,y6],_=>
  obtain ⟨k,e0,_,_⟩:=DataW.trod_int Tryz.underlying3 (hf 0 _ rfl)
  obtain ⟨a,e1,_,_⟩:=DataW.trod_int Tryz.underlying3 (hf 1 _ rfl)
  obtain ⟨b,e2,_,_⟩:=DataW.trod_int Tryz.underlying3 (hf 2 _ rfl)
  obtain ⟨c,e3,_,_⟩:=DataW.trod_int Tryz.underlying3 (hf 3 _ rfl)
  obtain ⟨d,e4,_,_⟩:=DataW.trod_int Tryz.underlying3 (hf 4 _ rfl)
  obtain ⟨x,e5,_,_⟩:=DataW.trod_string Tryz.underlying9 (hf 5 _ rfl)
  obtain ⟨y,e6,_,_⟩:=DataW.trod_string Tryz.underlying9 (hf 6 _ rfl)
  refine ⟨k,a,b,c,d,x,y,?_⟩
  have c0:(cs.drop 0).take (Tryz.prog.cellsOf 3)=[.int .i64 k]:=e0
  have c1:(cs.drop 1).take (Tryz.prog.cellsOf 3)=[.int .i64 a]:=e1
  have c2:(cs.drop 2).take (Tryz.prog.cellsOf 3)=[.int .i64 b]:=e2
  have c3:(cs.drop 3).take (Tryz.prog.cellsOf 3)=[.int .i64 c]:=e3
  have c4:(cs.drop 4).take (Tryz.prog.cellsOf 3)=[.int .i64 d]:=e4
  have c5:(cs.drop 5).take (Tryz.prog.cellsOf 9)=[.string x]:=e5
  have c6:(cs.drop 6).take (Tryz.prog.cellsOf 9)=[.string y]:=e6
  rw [Ir] at c0 c1 c2 c3 c4
  rw [Bd] at c5 c6
  match cs,hcl with
  |
   [v0,v1,v2,v3,v4,v5,v6],_=>
   simp at c0 c1 c2 c3 c4 c5 c6
   subst c0 c1 c2 c3 c4 c5 c6
   rfl
theorem FM {H:Type} {enc:TypeId × Value→H} {W:World} {base:Nat} {v:Value} {d:DataW H} {p:List MemPlace} (hv:Value.okWide Tryz.prog W .any base 31 v)
  (h:DataW.Trod enc Tryz.prog W 0 (fun _=>true) true 31 v d p):∃ k a b c d x y,v=nM k a b c d x y:=by
 obtain ⟨cs,rfl,hsz⟩:=okWide_struct Tryz.underlying31 hv
 obtain ⟨fuel,hf⟩:=h
 obtain ⟨k,a,b,c,d,x,y,he⟩:=AX hf
 refine ⟨k,a,b,c,d,x,y,?_⟩
 have e:cs=(yI k a b c d x y).toArray:=by rw [← he];simp [Value.cells]
 rw [e];rfl
end Go.Proofs.YtagfoogfpabdfaaGreat

namespace Go.Proofs.YtagfoogfpabdfaaGreat
end Go.Proofs.YtagfoogfpabdfaaGreat
