/- Texts of the proof. -/
import Derived.Test.YtagfoogfpabdfaaGreatTat
import Derived.Test.YtagfoogfpabdfaaGreatTar
import Derived.Test.YtagfoogfpabdfaaGreatTan
set_option maxRecDepth 100000
set_option maxHeartbeats 16000000
namespace Go.Proofs.YtagfoogfpabdfaaGreat
namespace Jn
open Go.Proofs.YtagfoogfpabdfaaGreat.Pg (ba eV numOf aX)
open Go.Proofs.YtagfoogfpabdfaaGreat.Hd (Head aM cE fw aA dy)
theorem JW {a z:Nat} {s:Dk.St} {cs:List Chg} {q:Int} (h:Cl s) (hlim:s.lim=false) (hm:May a z s.last.length cs) (hq0:0≤q) (hq1:q<4294967290) (hq:s.last.getD a []=aM (bk q)):
  (runs s (steps a q cs)).2=0∧Cl (runs s (steps a q cs)).1∧Quiet a z (q+2) (runs s (steps a q cs)).1.last (upd s.last cs)∧(runs s (steps a q cs)).1.last.getD a []=aM (bk (q+2))∧(runs s (steps a q cs)).1.lim=s.lim:=by
 have hfit:=hm.fit
 have hreg:=hm.reg
 have hin:∀ i,(a≤i∧i<a+z)→∀ c∈cs,c.no.toNat≠i:=fun i hi c hc=>by have:=hm.out c hc;omega
 have hlm:∀ c∈dY (a+1) (iU cs),a+1≤c.no.toNat∧c.no.toNat<a+z:=fun c hc=>by
  have:=gY _ _ _ hc
  rw [fX] at this
  omega
 have hlay:∀ i,i<a+1∨a+z≤i→(upd s.last (dY (a+1) (iU cs))).getD i []=s.last.getD i []:=fun i hi=>db _ _ _ (fun c hc=>by have:=hlm c hc;omega)
 have hlaid:∀ i,i<nl cs.length+cs.length→(upd s.last (dY (a+1) (iU cs))).getD (a+1+i) []=(iU cs).getD i []:=fun i hi=>nK _ _ _ _ (by rw [fX];exact hi) (by rw [fX];omega)
 have hl1:(upd s.last (dY (a+1) (iU cs))).length=s.last.length:=cw _ _
 generalize hM1:upd s.last (dY (a+1) (iU cs))=M1 at hlay hlaid hl1
 -- behind the Live head
 have hl2:(upd M1 [⟨(a:Int),aM (fy (q+1) cs)⟩]).length=s.last.length:=by rw [cw];exact hl1
 have live2:uS a z (q+1) cs (upd M1 [⟨(a:Int),aM (fy (q+1) cs)⟩]) (upd s.last cs):=by
  refine ⟨by rw [hl2,cw],⟨q+1,by omega,by omega,jJ (by omega) _⟩,fun i hi=>?_,fun i hi hc=>?_⟩
  ·rw [eC (by omega)];exact hlaid i hi
  ·rw [eC (by omega),hlay i (by omega),db _ _ _ hc]
 generalize hM2:upd M1 [⟨(a:Int),aM (fy (q+1) cs)⟩]=M2 at hl2 live2
 have same3:Same a z (upd M2 cs) (upd s.last cs):=fun i hi=>by
  by_cases hc:∃ c∈cs,c.no.toNat=i
  ·exact Kx cs _ _ i hl2 hc
  ·have hc':∀ c∈cs,c.no.toNat≠i:=fun x hx e=>hc ⟨x,hx,e⟩
   rw [db _ _ _ hc']
   exact live2.same i hi hc'
 have live3:uS a z (q+1) cs (upd M2 cs) (upd s.last cs):=by
  obtain ⟨p,p0,p1,hp⟩:=live2.head
  exact ⟨by rw [cw,cw];exact hl2,⟨p,p0,p1,by rw [db _ _ _ (hin a (by omega))];exact hp⟩,fun i hi=>by rw [db _ _ _ (hin _ (by omega))];exact live2.laid i hi,fun i hi _=>same3 i hi⟩
 have head3:(upd M2 cs).getD a []=aM (fy (q+1) cs):=by
  rw [db _ _ _ (hin a (by omega)),← hM2,jJ (by omega)]
 have hl3:(upd M2 cs).length=s.last.length:=by rw [cw];exact hl2
 rcases tl (steps a q cs) s h (fun l hl=>by
   unfold steps at hl
   simp only [List.mem_cons,List.not_mem_nil,or_false] at hl
   rcases hl with rfl | rfl | rfl | rfl
   ·exact De (qG fun c hc=>(hm.val c hc).2) (by rw [fX];omega)
   ·exact val_one (by omega) _
   ·exact hm.val
   ·exact val_one (by omega) _) with ⟨a1,a2,a3,a4⟩ | ⟨a1,a2,a3,j,hj,a4⟩
 ·have e4:AS s.last (steps a q cs)=upd (upd M2 cs) [⟨(a:Int),aM (bk (q+2))⟩]:=by rw [← hM2,← hM1];rfl
  rw [e4] at a4
  have hh:(runs s (steps a q cs)).1.last.getD a []=aM (bk (q+2)):=by rw [a4,jJ (by omega)]
  refine ⟨a1,a2,⟨by rw [a4,cw,cw,cw];exact hl2,?_,?_,?_⟩,hh,a3⟩
  ·rw [hh];exact xE (by show 0≤q+2;omega) (by show q+2<_;omega) (Int.le_refl _)
  ·rw [hh];exact mD (by omega) (by omega)
  ·rw [a4]
   intro i hi
   rw [eC (by omega)]
   exact same3 i hi
 ·rw [hlim] at a2;cases a2
end Jn
section
open Go.RowKit Go.Maps
open Dk (av aa)
open Hd (Head aA aM)
open Jn (Chg bk fy Cl Quiet uS May Same upd)
theorem Bi {s:Sto} (h:Sound s) (hlim:s.dk.lim=false) (hq:s.q<4294967290):
  bY s=0∧Sound (cN s)∧Same s.a s.z (cN s).dk.last (upd s.dk.last (lF s.group))∧(cN s).dk.last.length=s.dk.last.length∧(cN s).q≤s.q+2∧(cN s).dk.lim=s.dk.lim:=by
 have hnn:¬ s.over=true:=by rw [h.up];simp
 by_cases hz:ey s.group=0
 ·have hs:cN s=s:=by unfold cN;rw [if_neg hnn,if_pos hz]
  have hcs:lF s.group=[]:=List.eq_nil_of_length_eq_zero (by rw [dt];exact hz)
  refine ⟨by unfold bY;rw [if_neg hnn,if_pos hz],by rw [hs];exact h,?_,by rw [hs],by rw [hs];omega,by rw [hs]⟩
  rw [hs,hcs]
  exact fun _ _=>rfl
 ·have hm:=h.may hz
  have hE:bY s=(sx s).2:=by unfold bY;rw [if_neg hnn,if_neg hz]
  have hS:cN s=if (sx s).2=0 then { iu s with group:=en s.dk.last.length } else iu s:=by unfold cN;rw [if_neg hnn,if_neg hz]
  have hC:(sx s).1.last.length=s.dk.last.length:=gw s
  have hok:=jM h.ok
  have hcl:=od hok (n:=s.dk.last.length) hC.symm
  obtain ⟨e1,e2,e3,e4,e5⟩:=Jn.JW h.cl hlim hm h.q0 hq h.head
  rw [show Jn.runs s.dk (Jn.steps s.a s.q (lF s.group))=sx s from rfl] at e1 e2 e3 e4 e5
  rw [hE,hS,if_pos e1]
  have hq0:=h.q0
  refine ⟨e1,⟨hcl,?_,e2,?_,e4⟩,e3.same,hC,Int.le_refl _,e5⟩
  ·show ((sx s).2 != 0)=false
   rw [e1];rfl
  ·show 0≤s.q+2
   omega
theorem yD {s:Sto} {n I:Int} (v:Vs s n I) (hlim:s.dk.lim=false) (hq:s.q<4294967290):
  bY s=0∧Vs (cN s) n I∧(cN s).step=s.step∧(cN s).group=en s.dk.last.length∧(∀ i,Out n i→(cN s).dk.last.getD i []=gv s i)∧(cN s).q≤s.q+2∧(cN s).dk.lim=s.dk.lim:=by
 obtain ⟨e1,e2,e3,e4,e5,e6⟩:=Bi v.snd hlim hq
 obtain ⟨_,g1,_,g3,g4⟩:=qg v.snd.ok e1
 have ha:(cN s).a=s.a∧(cN s).z=s.z:=by
  unfold cN
  split
  ·exact ⟨rfl,rfl⟩
  ·split
   ·exact ⟨rfl,rfl⟩
   ·split
    ·exact ⟨rfl,rfl⟩
    ·exact ⟨rfl,rfl⟩
 refine ⟨e1,⟨e2,ha.1.trans v.a,ha.2.trans v.z,g4.trans v.r,by rw [e4];exact v.len,v.pl⟩,g3,?_,fun i hi=>?_,e5,e6⟩
 ·have:=px g1
  rw [e2.ok.uY,e4] at this
  exact this
 ·have hi2:=hi.2
  rw [e3 i (by rw [v.a,v.z];omega),Ky s v.snd.ok i]
theorem pY {s:Sto} {n I:Int} (v:Vs s n I) (hlim:s.dk.lim=false) (hq:s.q<4294967290):
  et s=0∧Vs (fp s) n I∧Idle (fp s)∧(∀ i,Out n i→gv (fp s) i=nv s i)∧(fp s).q≤s.q+2∧(fp s).dk.lim=s.dk.lim:=by
 have hup:¬ s.over=true:=by rw [v.snd.up];simp
 unfold et fp
 rw [if_neg hup,if_neg hup]
 by_cases hr:s.r<nR s
 ·rw [if_pos hr,if_pos hr]
  obtain ⟨e1,e2,e3,e4,e6,e7,e8⟩:=yD v hlim hq
  rw [if_pos e1]
  refine ⟨e1,⟨e2.snd.join (qj v.snd.ok e1),e2.a,e2.z,e2.r,e2.len,e2.pl⟩,rfl,fun i hi=>?_,e7,e8⟩
  rw [Di e2.snd.ok]
  unfold nv
  rw [e6 i hi]
  unfold jZ gv
  rw [e3,e4,jS]
  cases s.step.getD i none <;> rfl
 ·rw [if_neg hr,if_neg hr]
  exact ⟨rfl,⟨v.snd.join (by omega),v.a,v.z,v.r,v.len,v.pl⟩,rfl,fun i _=>Di v.snd.ok,by show s.q≤s.q+2;omega,rfl⟩
theorem Calm.long {α:Type} {s:Sto} {n I:Int} {k:Nat} (h:Calm s n I k) (hk:k≤1000000) {m:Fs.M α} {er:Int} {s2:Sto} {a:Option α} (ht:mM n I s m er s2 a):
  Calm s2 n I (k+1)∧((∃ x V L,m (nv s)=(.ok x,V,L)∧er=0∧a=some x∧∀ i,Out n i→nv s2 i=V i)∨(eo s m er∧er≠0∧a=none∧s2=s)):=by
 rcases ht with ⟨x,s',L,e,g,v,hz,rfl,rfl,rfl⟩ | ⟨f,h0,rfl,rfl⟩ | ⟨x,s',L,e,g,v,hz,_⟩
 ·obtain ⟨g1,g2,g3,g4,g5⟩:=g.keeps
  obtain ⟨_,k2,k3,k4,k5,k6⟩:=pY v (by rw [g1];exact h.lim) (by rw [g3];have:=h.q;omega)
  refine ⟨⟨k2,k3,by rw [g3] at k5;have:=h.q;omega,by rw [k6,g1];exact h.lim⟩,Or.inl ⟨x,_,L,e,rfl,rfl,fun i hi=>?_⟩⟩
  rw [Jy k3];exact k4 i hi
 ·rw [Ds h.idle]
  exact ⟨⟨h.vs,h.idle,by have:=h.q;omega,h.lim⟩,Or.inr ⟨f,h0,rfl,rfl⟩⟩
 ·obtain ⟨g1,g2,g3,g4,g5⟩:=g.keeps
  obtain ⟨k1,_⟩:=pY v (by rw [g1];exact h.lim) (by rw [g3];have:=h.q;omega)
  exact absurd k1 hz
end

end Go.Proofs.YtagfoogfpabdfaaGreat
set_option maxRecDepth 100000
namespace Go.Proofs.YtagfoogfpabdfaaGreat
open Go.RowKit Go.Maps
open Dk (av aa)
open Ii (Ino)
open Dm (Ent Has)
theorem bT {w W w':World} {L L':List Nat} (hb:Below w.heap.size w W) (ho:aB L W w') (hL:∀ i∈L,i∈L'∨w.heap.size≤i):aB L' w w':=(show aB L' w W from aB.below hb).via ho hL
def eM {α:Type} (ok:α→World→Ending→Prop) (no:Int→Ending) (V:Nat) (b:Blk) (n I:Int) (s:Sto) (m:Fs.M α) (e:Ending) (w':World):Prop:=
 ∃ er s2 a,mM n I s m er s2 a∧bu w' V b s2 n I 0∧(er≠0→e=no er)∧∀ x,er=0→a=some x→ok x w' e
section
variable {w:World} {B T V M:Nat} {b:Blk} {s:Sto} {n I k:Int} {op:Int→Int}
theorem LK {α:Type} {F X:Nat} {Ls:List Nat} {m:Fs.M α} {P:α→World→Prop} {P':World→Prop} (g:FuncId) (caps:Array Value) (hcg:∀ (args:Array Value) (W:World),(callFunc g args).run Tryz.prog W=.ok (.enter g args) W) (rF:au w F [.func (.func g) #[] caps]) (rX:au w X [.pointer (some ⟨T,0,none⟩)])
  (hg:Calls Tryz.prog g (#[mu B T]++caps) w (Cb B b n I Ls w s m P P')):Calls Tryz.prog 116 #[.pointer (some ⟨B,0,none⟩),.pointer (some ⟨F,0,none⟩),.pointer (some ⟨X,0,none⟩)] w (Cb B b n I Ls w s m P P'):=by
 have c0:=rF.cell 0 _ rfl
 have c1:=rX.cell 0 _ rfl
 have HG:=Lib.hid hg
 clear rF rX hg
 go_enter Tryz.func116,Tryz.ntmps116
 go_wp2_with fail
 refine HG.out.mono ?_
 rintro e w' (⟨a,s',L,h1,h2,h3,rfl,h5,h6⟩ | ⟨er,h1,h2,h3,rfl,h5,h6⟩)
 ·go_wp2_with fail
  go_end0
  exact Or.inl ⟨a,s',L,h1,h2,h3,rfl,h5,h6⟩
 ·exact ⟨rfl,Or.inr ⟨er,h1,h2,h3,rfl,h5,h6⟩⟩
theorem Iz (w:World) (T:Nat) (v:Value) (hv:[v].toArray=#[v]):Lo [] w [(w.heap.size,[.pointer (some ⟨T,0,none⟩)]),(w.heap.size+1,[v])] ((w.alloc (.cells #[.pointer (some ⟨T,0,none⟩)] 26)).alloc (.cells #[v] 111)):=
 ((Lo.start (L:=[]) w (by simp)).alloc _ rfl [.pointer (some ⟨T,0,none⟩)] _).alloc (w.heap.size+1) (by simp) [v] _
theorem vp {α:Type} (h:bu w V b s n I 0) (ht:dW w T V M b n I 0 op) (v:Vs s n I) (hq:s.q<4294967290) (Ls:List Nat) (hLs:∀ k∈Ls,k<w.heap.size∧k≠V∧k∉b.all) (m:Fs.M α) (P:Nat→α→World→Prop) (P':World→Prop) (hP:∀ M a,pG Ls w.heap.size M (P M a)) (hP':Ez Ls w.heap.size P')
  (g:FuncId) (caps:Array Value) (hcg:∀ (args:Array Value) (W:World),(callFunc g args).run Tryz.prog W=.ok (.enter g args) W)
  (hg:∀ B w1,w.heap.size≤B→Ctx w1 B b s n I→aB [V] w w1→dW w1 T V M b n I 1 op→Calls Tryz.prog g (#[mu B T]++caps) w1 (Cb B b n I Ls w1 s m (P w1.heap.size) P')):
  Calls Tryz.prog 55 #[.pointer (some ⟨T,0,none⟩),.func (.func g) #[] caps] w fun e w'=>Stepped V b n I s m (fun a W=>∃ M,w.heap.size≤M∧P M a W) P' e w'∧aB (V::(b.all++Ls)) w w':=by
 have hmf:∀ (fn:Fn) (first cap:Array Value) (w:World),(Instr.makeFunc fn first cap).run Tryz.prog w=.ok (.func fn first cap) w:=fun _ _ _ _=>rfl
 have S:=Lib.hid (Iz w T (.func (.func g) #[] caps) rfl)
 have HV:=Lib.hid (fun W (hl:Lo [] w [(w.heap.size,[.pointer (some ⟨T,0,none⟩)]),(w.heap.size+1,[.func (.func g) #[] caps])] W)=>kL (ht.row.step hl.bel))
 have c0:=(S.out.get 0 _ rfl).cell 0 _ rfl
 have HD:Hid (∀ W,Lo [] w [(w.heap.size,[.pointer (some ⟨T,0,none⟩)]),(w.heap.size+1,[.func (.func g) #[] caps])] W→Calls Tryz.prog 115 #[.pointer (some ⟨V,0,none⟩),.func (.func 116) #[] #[.pointer (some ⟨w.heap.size+1,0,none⟩),.pointer (some ⟨w.heap.size,0,none⟩)]] W fun e w'=>Stepped V b n I s m (fun a W=>∃ M,w.heap.size≤M∧P M a W) P' e w'∧aB (V::(b.all++Ls)) w w'):=Lib.hid (fun W hl=>by
  have hv:bu W V b s n I 0:=h.below hl.bel
  have hsz:=hl.bel.size
  have hVlt:=h.row.lt
  refine (LJ hv v hq Ls (fun k hk=>⟨Nat.lt_of_lt_of_le (hLs k hk).1 hsz,(hLs k hk).2⟩) m P P' (fun M a w1 w2 L p1 p2 p3 p4=>hP M a w1 w2 L p1 p2 p3 (Nat.le_trans hsz p4)) (fun w1 w2 L p1 p2 p3 p4=>hP' w1 w2 L p1 p2 p3 (Nat.le_trans hsz p4)) 116 #[.pointer (some ⟨w.heap.size+1,0,none⟩),.pointer (some ⟨w.heap.size,0,none⟩)] (fun args W=>by simp [go_sem]) (fun B w1 hB hc ho hr=>?_)).mono ?_
  ·refine LK g caps hcg ((hl.get 1 _ rfl).only ho (by simp;omega)) ((hl.get 0 _ rfl).only ho (by simp;omega)) (hg B w1 (Nat.le_trans hsz hB) hc (bT hl.bel ho (fun i hi=>Or.inl hi)) ⟨(ht.row.step hl.bel).only ho (by simpa using ht.ne.1),hr,(ht.below hl.bel).map.block (ho.block M (ht.below hl.bel).map.lt (by simpa using ht.ne.2)),ht.out,ht.ne⟩)
  ·rintro e w' ⟨hst,hO⟩
   exact ⟨hst.mono (fun a W ⟨M,h1,h2⟩=>⟨M,Nat.le_trans hsz h1,h2⟩),bT hl.bel hO (fun i hi=>Or.inl hi)⟩)
 clear h ht v hq hLs hP hP' hg
 go_enter Tryz.func55,Tryz.ntmps55
 go_wp2_with (first
  | (go_at_call 20;refine (HV.out _ S.out).mono ?_;rintro e w1 ⟨rfl,rfl⟩)
  | (go_at_call 115;refine (HD.out _ S.out).mono ?_;rintro e w1 ⟨hS,hO⟩;obtain ⟨er,s2,a,h1,rfl,h3,h4⟩:=id hS.to))
 go_ret
 exact ⟨hS,hO⟩
end
end Go.Proofs.YtagfoogfpabdfaaGreat

namespace Go.Proofs.YtagfoogfpabdfaaGreat

end Go.Proofs.YtagfoogfpabdfaaGreat
set_option maxRecDepth 100000
namespace Go.Proofs.YtagfoogfpabdfaaGreat
open Go.RowKit Go.Maps
open Dk (av aa)
open Ii (Ino)
open Dm (Ent Has)
section
variable {w:World} {B T V M:Nat} {b:Blk} {s:Sto} {n I k:Int} {op:Int→Int}
theorem IY {W:World} (h:Ctx W B b s n I) {Y:Nat} {us vs:List Value} (hY:au W Y us) (hYB:Y≠B) (hYb:Y∉b.all) (hl:vs.length=us.length):Ctx (W.setCells Y 0 vs) B b s n I∧au (W.setCells Y 0 vs) Y vs∧aB [Y] W (W.setCells Y 0 vs):=by
 have ho:aB [Y] W (W.setCells Y 0 vs):=(aB.refl [Y] W).setCells Y (by simp) vs 0 W
 exact ⟨h.only ho (by simpa using fun q=>hYB q.symm) (fun k hk q=>hYb (by rw [List.mem_singleton] at q;exact q ▸ hk)),hY.put vs hl,ho⟩
def PAt (Y:Nat) (_:Nat) (a:Int × Ino) (W:World):Prop:=au W Y (aZ a.1 a.2)
theorem PAt.Bo (Y N M:Nat) (a:Int × Ino):pG [Y] N M (PAt Y M a):=fun w w' l h ho hl _=>au.only h ho (fun q=>(hl Y q).1 (by simp))
theorem Eo (i:Int) (x:Ino):fH i x=.agg (aZ i x).toArray:=rfl
theorem My {F Y:Nat} {m:Fs.M (Int × Ino)} (g:FuncId) (caps:Array Value) (hcg:∀ (args:Array Value) (W:World),(callFunc g args).run Tryz.prog W=.ok (.enter g args) W) (h:Ctx w B b s n I) (rF:au w F [.func (.func g) #[] caps]) (rY:au w Y (aZ 0 Ii.zero)) (hYB:Y≠B) (hYb:Y∉b.all)
  (hg:∀ W,Below w.heap.size w W→Calls Tryz.prog g (#[.agg (dB B T).toArray]++caps) W (Ends B b n I [] W s m fun a e _=>e=.returned (fH a.1 a.2))):
  Calls Tryz.prog 108 #[mu B T,.pointer (some ⟨F,0,none⟩),.pointer (some ⟨Y,0,none⟩)] w (Cb B b n I [Y] w s m (PAt Y w.heap.size) (fun _=>True)):=by
 have hb0:Below w.heap.size w (w.alloc (.cells #[.pointer (some ⟨B,0,none⟩),.pointer (some ⟨T,0,none⟩)] 97)):=bK _ _
 have HB:=Lib.hid hb0
 have HA:=Lib.hid (((Lo.start (L:=[]) w (by simp)).alloc _ rfl (dB B T) 97).get 0 _ rfl)
 have HG:=Lib.hid (hg _ hb0)
 have c0:=(rF.step hb0).cell 0 _ rfl
 have HY:=Lib.hid (rY.step hb0)
 clear rF rY hg hb0 h
 go_enter Tryz.func108,Tryz.ntmps108
 go_wp2_with (with_reducible refine af wU HA.out rfl rfl (.tmp 3) rfl rfl ?_)
 refine HG.out.mono ?_
 rintro e w1 (⟨a,s',L,h1,h2,h3,rfl,h6⟩ | ⟨er,h1,h2,h3,rfl,h6⟩)
 ·have hY1:au w1 Y (aZ 0 Ii.zero):=HY.out.only h6 (fun q=>hYb (by rw [List.mem_singleton] at q;exact q ▸ b.dX))
  obtain ⟨p1,p2,p3⟩:=IY h3 hY1 hYB hYb (vs:=aZ a.1 a.2) rfl
  have HY1:=Lib.hid hY1
  have HX:Hid (Cb B b n I [Y] w s m (PAt Y w.heap.size) (fun _=>True) (.returned (.tuple #[])) (w1.setCells Y 0 (aZ a.1 a.2))):=Lib.hid (Or.inl ⟨a,s',L,h1,h2,p1,rfl,p2,bT HB.out ((h6.mono (by simp)).trans (p3.mono (by simp))) (fun i hi=>Or.inl hi)⟩)
  clear h1 h2 h3 h6 hY1 p1 p2 p3 HG HY HA
  rw [Eo]
  go_wp2_with ((with_reducible refine ak (vs:=aZ a.1 a.2) de HY1.out ?_ ?_ (bq _ _) rfl (.tmp 2) (.tmp 6) rfl ?_ ?_ ?_);(exact rfl);(exact rfl);(exact rfl);(exact rfl))
  go_end0
  exact HX.out
 ·exact ⟨rfl,Or.inr ⟨er,h1,h2,h3,rfl,trivial,bT HB.out (h6.mono (by simp)) (fun i hi=>Or.inl hi)⟩⟩
theorem Hk (w:World) (f:Value):Lo [] w [(w.heap.size,[f]),(w.heap.size+1,aZ 0 Ii.zero),(w.heap.size+2,aZ 0 Ii.zero),(w.heap.size+3,aZ 0 Ii.zero)] ((((w.alloc (.cells #[f] 107)).alloc (.cells (aZ 0 Ii.zero).toArray 33)).alloc (.cells (aZ 0 Ii.zero).toArray 33)).alloc (.cells (aZ 0 Ii.zero).toArray 33)):=
 ((((Lo.start (L:=[]) w (by simp)).alloc _ rfl [f] _).alloc (w.heap.size+1) (by simp) (aZ 0 Ii.zero) _).alloc (w.heap.size+2) (by simp) (aZ 0 Ii.zero) _).alloc (w.heap.size+3) (by simp) (aZ 0 Ii.zero) _
def okA (a:Int × Ino) (_:World) (e:Ending):Prop:=e=.returned (.tuple #[fH a.1 a.2,.int .i64 0])
def noA (er:Int):Ending:=.returned (.tuple #[fH 0 Ii.zero,.int .i64 er])
theorem yq (h:bu w V b s n I 0) (ht:dW w T V M b n I 0 op) (v:Vs s n I) (hq:s.q<4294967290) (m:Fs.M (Int × Ino)) (g:FuncId) (caps:Array Value) (hcg:∀ (args:Array Value) (W:World),(callFunc g args).run Tryz.prog W=.ok (.enter g args) W)
  (hg:∀ B w1,w.heap.size≤B→Ctx w1 B b s n I→aB [V] w w1→dW w1 T V M b n I 1 op→Calls Tryz.prog g (#[.agg (dB B T).toArray]++caps) w1 (Ends B b n I [] w1 s m fun a e _=>e=.returned (fH a.1 a.2))):
  Calls Tryz.prog 47 #[.pointer (some ⟨T,0,none⟩),.func (.func g) #[] caps] w fun e w'=>eM okA noA V b n I s m e w'∧aB (V::b.all) w w':=by
 have hmf:∀ (fn:Fn) (first cap:Array Value) (w:World),(Instr.makeFunc fn first cap).run Tryz.prog w=.ok (.func fn first cap) w:=fun _ _ _ _=>rfl
 have S:=Lib.hid (Hk w (.func (.func g) #[] caps))
 have hVlt:=h.row.lt
 have hbl:∀ k∈b.all,k<w.heap.size:=fun k hk=>h.store.lt k hk
 have HD:Hid (∀ W,Lo [] w [(w.heap.size,[.func (.func g) #[] caps]),(w.heap.size+1,aZ 0 Ii.zero),(w.heap.size+2,aZ 0 Ii.zero),(w.heap.size+3,aZ 0 Ii.zero)] W→Calls Tryz.prog 55 #[.pointer (some ⟨T,0,none⟩),.func (.func 108) #[] #[.pointer (some ⟨w.heap.size,0,none⟩),.pointer (some ⟨w.heap.size+2,0,none⟩)]] W fun e w'=>∃ er s2 a,mM n I s m er s2 a∧e=.returned (.int .i64 er)∧bu w' V b s2 n I 0∧(∀ x,a=some x→au w' (w.heap.size+2) (aZ x.1 x.2))∧au w' (w.heap.size+1) (aZ 0 Ii.zero)∧au w' (w.heap.size+3) (aZ 0 Ii.zero)∧∀ vs,bu (w'.setCells (w.heap.size+1) 0 vs) V b s2 n I 0∧aB (V::b.all) w (w'.setCells (w.heap.size+1) 0 vs)):=Lib.hid (fun W hl=>by
  have hv:bu W V b s n I 0:=h.below hl.bel
  have hsz:=hl.bel.size
  have hl2:=hl.lt 2 _ rfl
  have hl3:=hl.lt 3 _ rfl
  simp only at hl2 hl3
  refine (vp hv (ht.below hl.bel) v hq [w.heap.size+2] (fun j hj=>by rw [List.mem_singleton] at hj;subst hj;exact ⟨hl2,by omega,fun q=>by have:=hbl _ q;omega⟩) m (PAt (w.heap.size+2)) (fun _=>True) (fun M a=>PAt.Bo _ _ _ a) (fun _ _ _ _ _ _ _=>trivial) 108 #[.pointer (some ⟨w.heap.size,0,none⟩),.pointer (some ⟨w.heap.size+2,0,none⟩)] (fun args W=>by simp [go_sem]) (fun B w1 hB hc ho htr=>?_)).mono ?_
  ·exact My g caps hcg hc ((hl.get 0 _ rfl).only ho (by simp;omega)) ((hl.get 2 _ rfl).only ho (by simp;omega)) (by omega) (fun q=>by have:=hbl _ q;omega) (fun W2 hb2=>hg B W2 (by omega) (hc.below hb2) (bT hl.bel ((ho.trans (aB.below hb2))) (fun i hi=>Or.inl hi)) (htr.below hb2))
  ·rintro e w' ⟨hst,hO⟩
   obtain ⟨er,s2,a,h1,h2,h3,h4⟩:=hst.to
   have hn:∀ j,w.heap.size≤j→j≠w.heap.size+2→j∉V::(b.all++[w.heap.size+2]):=fun j hj hne q=>by
    rcases List.mem_cons.1 q with q | q
    ·omega
    ·rcases List.mem_append.1 q with q | q
     ·have:=hbl _ q;omega
     ·exact hne (List.mem_singleton.1 q)
   refine ⟨er,s2,a,h1,h2,h3,fun x hx=>?_,(hl.get 1 _ rfl).only hO (hn _ (by omega) (by omega)),(hl.get 3 _ rfl).only hO (hn _ (by omega) (by omega)),fun vs=>?_⟩
   ·subst hx
    obtain ⟨_,_,h5⟩:=h4
    exact h5
   ·have ho:aB [w.heap.size+1] w' (w'.setCells (w.heap.size+1) 0 vs):=(aB.refl [w.heap.size+1] w').setCells _ (by simp) vs 0 w'
    refine ⟨h3.only ho (by simp;omega) (fun i hi q=>by rw [List.mem_singleton] at q;have:=hbl _ hi;omega),bT (L:=V::(b.all++[w.heap.size+2]++[w.heap.size+1])) hl.bel ((hO.mono (fun i hi=>by simp at hi ⊢;rcases hi with h | h | h <;> simp [h])).trans (ho.mono (by simp))) (fun i hi=>?_)⟩
    simp only [List.mem_cons,List.mem_append,List.not_mem_nil,or_false] at hi
    rcases hi with h | (h | h) | h
    ·exact Or.inl (by simp [h])
    ·exact Or.inl (by simp [h])
    ·right;omega
    ·right;omega)
 clear h ht v hq hg hVlt hbl
 go_enter Tryz.func47,Tryz.ntmps47
 go_wp2_with fail
 refine (HD.out _ S.out).mono ?_
 rintro e w1 ⟨er,s2,a,h1,rfl,h3,h4,h5,h6,h7⟩
 clear S HD
 by_cases h0:er=0
 ·subst h0
  obtain ⟨x,rfl⟩:∃ x,a=some x:=by
   rcases h1 with ⟨x,_,_,_,_,_,_,_,_,h⟩ | ⟨_,h,_⟩ | ⟨_,_,_,_,_,_,h,h',_⟩
   ·exact ⟨x,h⟩
   ·exact absurd rfl h
   ·exact absurd h'.symm h
  have HX:=Lib.hid (h4 x rfl)
  have H5:=Lib.hid h5
  have HQ:=Lib.hid (show ∀ W,bu W V b s2 n I 0→aB (V::b.all) w W→(eM okA noA V b n I s m (.returned (.tuple #[fH x.1 x.2,.int .i64 0])) W∧aB (V::b.all) w W) from fun W hv ho=>⟨⟨0,s2,some x,h1,hv,fun q=>absurd rfl q,fun y _ hy=>by injection hy with hy;subst hy;rfl⟩,ho⟩)
  have H7:=Lib.hid (h7 (aZ x.1 x.2))
  clear h1 h3 h4 h5 h6 h7
  go_wp2_with (first
   | (with_reducible refine af de HX.out rfl rfl (.tmp 6) rfl rfl ?_)
   | ((with_reducible refine ak (vs:=aZ x.1 x.2) de H5.out ?_ ?_ (bq _ _) rfl (.tmp 4) (.tmp 16) rfl ?_ ?_ ?_);(exact rfl);(exact rfl);(exact rfl);(exact rfl)))
  exact bodyPost_ret (aL de _ 4 5 rfl _ (H5.out.put _ rfl) rfl rfl rfl) rfl (HQ.out _ H7.out.1 H7.out.2)
 ·have H5:=Lib.hid h5
  have H6:=Lib.hid h6
  have HQ:=Lib.hid (show ∀ W,bu W V b s2 n I 0→aB (V::b.all) w W→(eM okA noA V b n I s m (noA er) W∧aB (V::b.all) w W) from fun W hv ho=>⟨⟨er,s2,a,h1,hv,fun _=>rfl,fun y q _=>absurd q h0⟩,ho⟩)
  have H7:=Lib.hid (h7 (aZ 0 Ii.zero))
  have g0:(er != 0)=true:=by simpa using h0
  clear h1 h3 h4 h5 h6 h7 h0
  go_wp2_with (first
   | (with_reducible refine af de H6.out rfl rfl (.tmp 7) rfl rfl ?_)
   | ((with_reducible refine ak (vs:=aZ 0 Ii.zero) de H5.out ?_ ?_ (bq _ _) rfl (.tmp 4) (.tmp 14) rfl ?_ ?_ ?_);(exact rfl);(exact rfl);(exact rfl);(exact rfl)))
  exact bodyPost_ret (aL de _ 4 5 rfl _ (H5.out.put _ rfl) rfl rfl rfl) rfl (HQ.out _ H7.out.1 H7.out.2)
def PEn (Y:Nat) (N:Nat) (L:List Ent) (W:World):Prop:=∃ A c,au W Y [.slice A L.length c]∧eA W A L.length L∧∀ b off,A=some ⟨b,off,none⟩→0<L.length→N≤b
theorem PEn.Bo (Y N M:Nat) (L:List Ent):pG [Y] N M (PEn Y M L):=by
 rintro w w' l ⟨A,c,h1,h2,h3⟩ ho hl _
 exact ⟨A,c,h1.only ho (fun q=>(hl Y q).1 (by simp)),h2.only ho (fun h0 k hk b off e q=>by have:=(hl k hk).2;have:=h3 b off e h0;omega),h3⟩
theorem IZ {W:World} (h:Ctx W B b s n I) {Y:Nat} {v:Value} (hY:au W Y [v]) (hYB:Y≠B) (hYb:Y∉b.all) (v':Value):Ctx (W.setCell ⟨Y,0,none⟩ v') B b s n I∧au (W.setCell ⟨Y,0,none⟩ v') Y [v']∧aB [Y] W (W.setCell ⟨Y,0,none⟩ v'):=by
 have ho:aB [Y] W (W.setCell ⟨Y,0,none⟩ v'):=(aB.refl [Y] W).setCell (p:=⟨Y,0,none⟩) (by simp) v'
 exact ⟨h.only ho (by simpa using fun q=>hYB q.symm) (fun k hk q=>hYb (by rw [List.mem_singleton] at q;exact q ▸ hk)),au.dH hY 0 v' (show 0<1 by decide),ho⟩
def KEn (w:World) (E:List Ent) (e:Ending) (w':World):Prop:=∃ A c,e=.returned (.slice A E.length c)∧eA w' A E.length E∧∀ b off,A=some ⟨b,off,none⟩→0<E.length→w.heap.size≤b
theorem Mx {F Y:Nat} {m:Fs.M (List Ent)} (g:FuncId) (caps:Array Value) (hcg:∀ (args:Array Value) (W:World),(callFunc g args).run Tryz.prog W=.ok (.enter g args) W) (h:Ctx w B b s n I) (rF:au w F [.func (.func g) #[] caps]) (rY:au w Y [.slice none 0 0]) (hYB:Y≠B) (hYb:Y∉b.all)
  (hg:∀ W,Below w.heap.size w W→Calls Tryz.prog g (#[.agg (dB B T).toArray]++caps) W (Ends B b n I [] W s m (KEn W))):
  Calls Tryz.prog 126 #[mu B T,.pointer (some ⟨F,0,none⟩),.pointer (some ⟨Y,0,none⟩)] w (Cb B b n I [Y] w s m (PEn Y w.heap.size) (fun _=>True)):=by
 have hb0:Below w.heap.size w (w.alloc (.cells #[.pointer (some ⟨B,0,none⟩),.pointer (some ⟨T,0,none⟩)] 97)):=bK _ _
 have HB:=Lib.hid hb0
 have HA:=Lib.hid (((Lo.start (L:=[]) w (by simp)).alloc _ rfl (dB B T) 97).get 0 _ rfl)
 have HG:=Lib.hid (hg _ hb0)
 have c0:=(rF.step hb0).cell 0 _ rfl
 have HY:=Lib.hid (rY.step hb0)
 have HYL:=Lib.hid rY.lt
 clear rF rY hg hb0 h
 go_enter Tryz.func126,Tryz.ntmps126
 go_wp2_with (with_reducible refine af wU HA.out rfl rfl (.tmp 3) rfl rfl ?_)
 refine HG.out.mono ?_
 rintro e w1 (⟨E,s',L,h1,h2,h3,⟨A,c,rfl,hr,hf⟩,h6⟩ | ⟨er,h1,h2,h3,rfl,h6⟩)
 ·have hY1:au w1 Y [.slice none 0 0]:=HY.out.only h6 (fun q=>hYb (by rw [List.mem_singleton] at q;exact q ▸ b.dX))
  obtain ⟨p1,p2,p3⟩:=IZ h3 hY1 hYB hYb (.slice A E.length c)
  have hsz:=HB.out.size
  have cY:=hY1.cell 0 _ rfl
  have fY:=hY1.frozen 0 (show 0<1 by decide)
  have HX:Hid (Cb B b n I [Y] w s m (PEn Y w.heap.size) (fun _=>True) (.returned (.tuple #[])) (w1.setCell ⟨Y,0,none⟩ (.slice A E.length c))):=Lib.hid (Or.inl ⟨E,s',L,h1,h2,p1,rfl,⟨A,c,p2,hr.only p3 (fun h0 k hk b' off e q=>by
   rw [List.mem_singleton] at hk
   have:=hf b' off e h0
   have:=HYL.out
   omega),fun b' off e h0=>Nat.le_trans hsz (hf b' off e h0)⟩,bT HB.out ((h6.mono (by simp)).trans (p3.mono (by simp))) (fun i hi=>Or.inl hi)⟩)
  clear h1 h2 h3 h6 hY1 p1 p2 p3 HG HY HA hr hf
  go_wp2_with fail
  go_end0
  exact HX.out
 ·exact ⟨rfl,Or.inr ⟨er,h1,h2,h3,rfl,trivial,bT HB.out (h6.mono (by simp)) (fun i hi=>Or.inl hi)⟩⟩
theorem Hi (w:World) (f:Value):Lo [] w [(w.heap.size,[f]),(w.heap.size+1,[.slice none 0 0])] ((w.alloc (.cells #[f] 116)).alloc (.cells #[.slice none 0 0] 34)):=
 ((Lo.start (L:=[]) w (by simp)).alloc _ rfl [f] _).alloc (w.heap.size+1) (by simp) [.slice none 0 0] _
def Kr (L:List Ent) (w:World) (e:Ending):Prop:=∃ A c,e=.returned (.tuple #[.slice A L.length c,.int .i64 0])∧eA w A L.length L
def Jg (er:Int):Ending:=.returned (.tuple #[.slice none 0 0,.int .i64 er])
theorem Hj (h:bu w V b s n I 0) (ht:dW w T V M b n I 0 op) (v:Vs s n I) (hq:s.q<4294967290) (m:Fs.M (List Ent)) (g:FuncId) (caps:Array Value) (hcg:∀ (args:Array Value) (W:World),(callFunc g args).run Tryz.prog W=.ok (.enter g args) W)
  (hg:∀ B w1,w.heap.size≤B→Ctx w1 B b s n I→aB [V] w w1→dW w1 T V M b n I 1 op→Calls Tryz.prog g (#[.agg (dB B T).toArray]++caps) w1 (Ends B b n I [] w1 s m (KEn w1))):
  Calls Tryz.prog 63 #[.pointer (some ⟨T,0,none⟩),.func (.func g) #[] caps] w fun e w'=>eM Kr Jg V b n I s m e w'∧aB (V::b.all) w w':=by
 have hmf:∀ (fn:Fn) (first cap:Array Value) (w:World),(Instr.makeFunc fn first cap).run Tryz.prog w=.ok (.func fn first cap) w:=fun _ _ _ _=>rfl
 have S:=Lib.hid (Hi w (.func (.func g) #[] caps))
 have hVlt:=h.row.lt
 have hbl:∀ k∈b.all,k<w.heap.size:=fun k hk=>h.store.lt k hk
 have HD:Hid (∀ W,Lo [] w [(w.heap.size,[.func (.func g) #[] caps]),(w.heap.size+1,[.slice none 0 0])] W→Calls Tryz.prog 55 #[.pointer (some ⟨T,0,none⟩),.func (.func 126) #[] #[.pointer (some ⟨w.heap.size,0,none⟩),.pointer (some ⟨w.heap.size+1,0,none⟩)]] W fun e w'=>∃ er s2 a,mM n I s m er s2 a∧e=.returned (.int .i64 er)∧bu w' V b s2 n I 0∧(∀ x,a=some x→∃ A c,au w' (w.heap.size+1) [.slice A x.length c]∧eA w' A x.length x)∧aB (V::b.all) w w'):=Lib.hid (fun W hl=>by
  have hv:bu W V b s n I 0:=h.below hl.bel
  have hsz:=hl.bel.size
  have hl2:=hl.lt 1 _ rfl
  simp only at hl2
  refine (vp hv (ht.below hl.bel) v hq [w.heap.size+1] (fun j hj=>by rw [List.mem_singleton] at hj;subst hj;exact ⟨hl2,by omega,fun q=>by have:=hbl _ q;omega⟩) m (PEn (w.heap.size+1)) (fun _=>True) (fun M a=>PEn.Bo _ _ _ a) (fun _ _ _ _ _ _ _=>trivial) 126 #[.pointer (some ⟨w.heap.size,0,none⟩),.pointer (some ⟨w.heap.size+1,0,none⟩)] (fun args W=>by simp [go_sem]) (fun B w1 hB hc ho htr=>?_)).mono ?_
  ·exact Mx g caps hcg hc ((hl.get 0 _ rfl).only ho (by simp;omega)) ((hl.get 1 _ rfl).only ho (by simp;omega)) (by omega) (fun q=>by have:=hbl _ q;omega) (fun W2 hb2=>hg B W2 (by omega) (hc.below hb2) (bT hl.bel ((ho.trans (aB.below hb2))) (fun i hi=>Or.inl hi)) (htr.below hb2))
  ·rintro e w' ⟨hst,hO⟩
   obtain ⟨er,s2,a,h1,h2,h3,h4⟩:=hst.to
   refine ⟨er,s2,a,h1,h2,h3,fun x hx=>?_,bT hl.bel hO (fun i hi=>?_)⟩
   ·subst hx
    obtain ⟨_,_,A,c,h5,h6,_⟩:=h4
    exact ⟨A,c,h5,h6⟩
   ·rcases List.mem_cons.1 hi with rfl | hi
    ·exact Or.inl (List.mem_cons_self ..)
    ·rcases List.mem_append.1 hi with hi | hi
     ·exact Or.inl (List.mem_cons_of_mem _ hi)
     ·rw [List.mem_singleton] at hi;right;omega)
 clear h ht v hq hg hVlt hbl
 go_enter Tryz.func63,Tryz.ntmps63
 go_wp2_with fail
 refine (HD.out _ S.out).mono ?_
 rintro e w1 ⟨er,s2,a,h1,rfl,h3,h4,h7⟩
 clear S HD
 by_cases h0:er=0
 ·subst h0
  obtain ⟨x,rfl⟩:∃ x,a=some x:=by
   rcases h1 with ⟨x,_,_,_,_,_,_,_,_,h⟩ | ⟨_,h,_⟩ | ⟨_,_,_,_,_,_,h,h',_⟩
   ·exact ⟨x,h⟩
   ·exact absurd rfl h
   ·exact absurd h'.symm h
  obtain ⟨A,c,h5,h6⟩:=h4 x rfl
  have cY:=h5.cell 0 _ rfl
  have HQ:Hid (eM Kr Jg V b n I s m (.returned (.tuple #[.slice A x.length c,.int .i64 0])) w1∧aB (V::b.all) w w1):=Lib.hid ⟨⟨0,s2,some x,h1,h3,fun q=>absurd rfl q,fun y _ hy=>by injection hy with hy;subst hy;exact ⟨A,c,rfl,h6⟩⟩,h7⟩
  clear h1 h3 h4 h5 h6 h7
  go_wp2_with fail
  go_ret2
  exact HQ.out
 ·have HQ:Hid (eM Kr Jg V b n I s m (Jg er) w1∧aB (V::b.all) w w1):=Lib.hid ⟨⟨er,s2,a,h1,h3,fun _=>rfl,fun y q _=>absurd q h0⟩,h7⟩
  have g0:(er != 0)=true:=by simpa using h0
  clear h1 h3 h4 h7 h0
  go_wp2_with fail
  go_ret2
  exact HQ.out
end
end Go.Proofs.YtagfoogfpabdfaaGreat

namespace Go.Proofs.YtagfoogfpabdfaaGreat

end Go.Proofs.YtagfoogfpabdfaaGreat
set_option maxRecDepth 100000
namespace Go.Proofs.YtagfoogfpabdfaaGreat
open Go.RowKit Go.Maps
open Dk (av aa)
open Ii (Ino)
open Dm (Ent Has)
open Fs (M andThen tell ret fail)
def wg (n I d:Int):M (List Ent):=andThen (jY I d) fun _=>Am n I d
def om (n I:Int) (op:Int→Int) (d:Int) (t:List UInt8):M Unit:=andThen (jY I d) fun _=>andThen (iR n I d t) fun r=>andThen (AV n I r.1) fun _=>andThen (si n I d t) fun _=>qE n I op d r.1 r.2
theorem ie {α β:Type} {m:M α} {f:α→M β} {V V2:Fs.View} {b:β} {L:List Nat} (h:andThen m f V=(.ok b,V2,L)):∃ a V1 L1,m V=(.ok a,V1,L1)∧∃ L2,f a V1=(.ok b,V2,L2):=by
 unfold andThen at h
 rcases e:m V with ⟨r,V1,L1⟩
 rw [e] at h
 cases r with
 | error e=>cases h
 |
  ok a=>
  simp only at h
  refine ⟨a,V1,L1,rfl,?_⟩
  rcases e2:f a V1 with ⟨x,y,z⟩
  rw [e2] at h
  simp only [Prod.mk.injEq] at h
  obtain ⟨rfl,rfl,_⟩:=h
  exact ⟨z,rfl⟩
theorem DL {n I d:Int} {t:List UInt8} {V V':Fs.View} {r:Int × Ino} {L:List Nat} (h:iR n I d t V=(.ok r,V',L)) (hI:I≤1000):(Lit.int .i64 r.1).wf=true:=by
 obtain ⟨a,V1,L1,_,L2,h2⟩:=ie h
 by_cases h0:a=0
 ·rw [if_pos h0] at h2
  cases h2
 ·rw [if_neg h0] at h2
  obtain ⟨x,V2,L3,h3,L4,h4⟩:=ie h2
  have h4:=congrArg Prod.fst h4
  injection h4 with h4
  subst h4
  have h3:=congrArg Prod.fst h3
  change xc I a 5 V1=.ok x at h3
  unfold xc at h3
  split at h3
  ·rename_i hb
   exact WalkArith.wf_i64 (by simp only;omega)
  ·cases h3
section
variable {w:World} {B T V M:Nat} {b:Blk} {s:Sto} {n I k:Int} {op:Int→Int}
theorem Mn (h:Ctx w B b s n I) (ht:dW w T V M b n I k op) {X:Nat} (d:Int) (h1:au w X [.int .i64 d]) (hne:X≠b.t):Calls Tryz.prog 64 #[mu B T,.pointer (some ⟨X,0,none⟩)] w (Ends B b n I [] w s (wg n I d) (KEn w)):=by
 unfold wg
 refine aQ fun R H=>?_
 have S0:=Lib.hid (Stp.start h (by simp) H)
 have S:=Lib.hid (S0.out.alloc w.heap.size rfl (dB B T) 97)
 have HTR:=Lib.hid ht
 have HD:Hid (∀ W s,Ctx W B b s n I→dW W T V M b n I k op→Calls Tryz.prog 49 #[.agg (dB B T).toArray,.int .i64 d] W (Ends B b n I [] W s (jY I d) fun _ e _=>e=.returned (lA B d))):=Lib.hid (fun W s hc hr=>jg hc hr d)
 have HA:=Lib.hid (fun W s (hc:Ctx W B b s n I)=>uw hc d)
 have c1:∀ o1,(w.alloc o1).cell? ⟨X,0,none⟩=some (.int .i64 d):=fun o1=>(h1.alloc o1).cell 0 _ rfl
 clear h H S0 ht h1 hne
 go_enter Tryz.func64,Tryz.ntmps64
 go_wp2_with (first
  | (with_reducible refine af wU (S.out.get 0 _ rfl) rfl rfl (.tmp 2) rfl rfl ?_)
  | (go_at_call 49;refine (HD.out _ _ S.out.ctx (HTR.out.stp S.out (by simp))).mono ?_;intro e w1 hE;rcases S.out.bind hE with ⟨rfl,hR⟩ | ⟨_,s1,L1,_,rfl,S2⟩;(exact ⟨rfl,hR⟩);clear hE c1;replace S:=Lib.hid S2;clear S2)
  | (go_at_call 65;have HSZ:=Lib.hid S.out.lo.only.size;refine (HA.out _ _ S.out.ctx).mono ?_;intro e w2 hE;rcases S.out.last hE with ⟨rfl,hR⟩ | ⟨E,s2,L2,_,⟨A,c,rfl,hr,hf⟩,S2⟩;(exact ⟨rfl,hR⟩);clear hE;replace S:=Lib.hid S2;clear S2))
 exact S.out.done ⟨A,c,rfl,hr,fun b off e h0=>Nat.le_trans HSZ.out (hf b off e h0)⟩
theorem KO (h:Ctx w B b s n I) (ht:dW w T V M b n I k op) {X1 X2:Nat} (d:Int) (t:List UInt8) (h1:au w X1 [.int .i64 d]) (h2:au w X2 [.string (strOf t)]) (hne:X1≠b.t∧X2≠b.t) (hd:(Lit.int .i64 d).wf=true) (hI:I≤1000):
  Calls Tryz.prog 78 #[mu B T,.pointer (some ⟨X1,0,none⟩),.pointer (some ⟨X2,0,none⟩)] w (Ends B b n I [] w s (om n I op d t) fun _ e _=>e=.returned (.tuple #[])):=by
 unfold om
 refine aQ fun R H=>?_
 have S0:=Lib.hid (Stp.start h (by simp) H)
 have S:=Lib.hid (S0.out.alloc w.heap.size rfl (dB B T) 97)
 have HTR:=Lib.hid ht
 have H2:=Lib.hid h2
 have HNE:=Lib.hid hne
 have HII:=Lib.hid hI
 have HD:Hid (∀ W s,Ctx W B b s n I→dW W T V M b n I k op→Calls Tryz.prog 49 #[.agg (dB B T).toArray,.int .i64 d] W (Ends B b n I [] W s (jY I d) fun _ e _=>e=.returned (lA B d))):=Lib.hid (fun W s hc hr=>jg hc hr d)
 have HF:Hid (∀ W s,Ctx W B b s n I→dW W T V M b n I k op→Calls Tryz.prog 67 #[.agg (dB B T).toArray,.agg (ea B d).toArray,.string (strOf t)] W (Ends B b n I [] W s (iR n I d t) fun r e _=>e=.returned (.tuple #[.int .i64 r.1,bH r.2]))):=Lib.hid (fun W s hc hr=>qc hc hr d t)
 have HM:Hid (∀ W s i,Ctx W B b s n I→Calls Tryz.prog 79 #[.agg (dB B T).toArray,.int .i64 i] W (Ends B b n I [] W s (AV n I i) fun _ e _=>e=.returned (.tuple #[]))):=Lib.hid (fun W s i hc=>AU hc i)
 have HV:Hid (∀ W s,Ctx W B b s n I→Calls Tryz.prog 77 #[.agg (ea B d).toArray,.string (strOf t)] W (Ends B b n I [] W s (si n I d t) fun _ e _=>e=.returned (.tuple #[]))):=Lib.hid (fun W s hc=>uu hc d t)
 have HL:Hid (∀ W s i x,(Lit.int .i64 i).wf=true→Ctx W B b s n I→dW W T V M b n I k op→Calls Tryz.prog 80 #[.agg (dB B T).toArray,.agg (ea B d).toArray,.int .i64 i,.agg (aH x).toArray] W (Ends B b n I [] W s (qE n I op d i x) fun _ e _=>e=.returned (.tuple #[]))):=Lib.hid (fun W s i x hi hc hr=>zY hc hr d i x hi hd)
 have c1:∀ o1,(w.alloc o1).cell? ⟨X1,0,none⟩=some (.int .i64 d):=fun o1=>(h1.alloc o1).cell 0 _ rfl
 clear h H S0 ht h1 h2 hne hd hI
 go_enter Tryz.func78,Tryz.ntmps78
 go_wp2_with (first
  | (with_reducible refine af wU (S.out.get 0 _ rfl) rfl rfl (.tmp 3) rfl rfl ?_)
  | (go_at_call 49;refine (HD.out _ _ S.out.ctx (HTR.out.stp S.out (by simp))).mono ?_;intro e w1 hE;rcases S.out.bind hE with ⟨rfl,hR⟩ | ⟨_,s1,L1,_,rfl,S2⟩;(exact ⟨rfl,hR⟩);clear hE c1;replace S:=Lib.hid S2;clear S2)
  | ((with_reducible refine ai (vs:=ea B d) mg ?_ (fC _ _) rfl (.tmp 4) (.tmp 9) rfl rfl ?_ ?_ ?_);(exact rfl);(exact rfl);(exact rfl);intro W4 hP hB2 hz2;replace S:=Lib.hid (S.out.made hP hB2 hz2);have c2:=S.out.cap H2.out HNE.out.2;clear hP hB2 hz2)
  | (with_reducible refine af mg (S.out.get 1 _ rfl) rfl rfl (.tmp 4) rfl rfl ?_))
 refine (HF.out _ _ S.out.ctx (HTR.out.stp S.out (by simp))).mono ?_
 intro e w2 hE
 rcases S.out.bind hE with ⟨rfl,hR⟩ | ⟨⟨i,x⟩,s2,L2,E2,rfl,S2⟩
 ·exact ⟨rfl,hR⟩
 have HW:=Lib.hid (DL E2 HII.out)
 clear hE c2 S E2 HF
 have S:=Lib.hid S2
 clear S2
 change Hid ((Lit.int .i64 i).wf=true) at HW
 go_wp2_with (first
  | (with_reducible refine af wU (S.out.get 0 _ rfl) rfl rfl (.tmp 3) rfl rfl ?_)
  | ((with_reducible refine ai (vs:=aH x) cz ?_ (aJ _) rfl (.tmp 6) (.tmp 16) rfl rfl ?_ ?_ ?_);(exact rfl);(exact rfl);(exact rfl);intro W5 hP hB2 hz2;replace S:=Lib.hid (S.out.made hP hB2 hz2);clear hP hB2 hz2)
  | (go_at_call 79;refine (HM.out _ _ _ S.out.ctx).mono ?_;intro e w3 hE;rcases S.out.bind hE with ⟨rfl,hR⟩ | ⟨_,s3,L3,_,rfl,S2⟩;(exact ⟨rfl,hR⟩);clear hE;replace S:=Lib.hid S2;have c2:=S.out.cap H2.out HNE.out.2;clear S2)
  | (with_reducible refine af mg (S.out.get 1 _ rfl) rfl rfl (.tmp 4) rfl rfl ?_)
  | (go_at_call 77;refine (HV.out _ _ S.out.ctx).mono ?_;intro e w5 hE;rcases S.out.bind hE with ⟨rfl,hR⟩ | ⟨_,s5,L5,_,rfl,S2⟩;(exact ⟨rfl,hR⟩);clear hE c2;replace S:=Lib.hid S2;clear S2)
  | (with_reducible refine af cz (S.out.get 2 _ rfl) rfl rfl (.tmp 6) rfl rfl ?_)
  | (go_at_call 80;refine (HL.out _ _ _ _ HW.out S.out.ctx (HTR.out.stp S.out (by simp))).mono ?_;intro e w6 hE;rcases S.out.last hE with ⟨rfl,hR⟩ | ⟨_,s6,L6,_,rfl,S2⟩;(exact ⟨rfl,hR⟩);clear hE;replace S:=Lib.hid S2;clear S2))
 go_end0
 exact S.out.done rfl
end
end Go.Proofs.YtagfoogfpabdfaaGreat

namespace Go.Proofs.YtagfoogfpabdfaaGreat

end Go.Proofs.YtagfoogfpabdfaaGreat
set_option maxRecDepth 100000
namespace Go.Proofs.YtagfoogfpabdfaaGreat
open Go.RowKit Go.Maps
open Dk (av aa)
open Ii (Ino)
open Dm (Ent Has)
open Fs (M andThen tell ret fail)
section
variable {P:Program} {ops:Array Oper} {Q:Exit→Act→World→Prop} {σ:Type} {S:σ→World→Prop} {sp:Nat→Bool} {vals:Nat→Value} {Bp:List PanicEntry→World→Prop}
def LY (F:Nat→Prop):List Nat→Prop
 | []=>True
 | j::l=>F j∧LY F l
theorem LY.at {F:Nat→Prop}:∀ {l:List Nat},LY F l→∀ j∈l,F j
 |
  _::_,⟨h,k⟩,j,hj=>by
  rcases List.mem_cons.1 hj with rfl | hj
  ·exact h
  ·exact k.at j hj
theorem dz {n:Nat} {s:σ} {listed:Array Bool} {a:Act} (l:List Nat) (N:σ→Nat→Value→σ→Prop) (hr:Region.ready .any ops listed=l) (hs:l.all sp=true) (hne:l≠[])
  (h:LY (fun j=>∃ o d,ops[j]?=some o∧o.dst=d∧fu P ops S Bp s o a (N s j)∧∀ u s',N s j u s'→gF P .any ops Q S Bp sp vals n s' (listed.setIfInBounds j true) (a.put d u)) l):gF P .any ops Q S Bp sp vals (n+1) s listed a:=
 gF.fork (N s) (fun j hj=>List.all_eq_true.1 hs j (hr ▸ hj)) (hr ▸ hne) (fun j o hj ho=>by
  obtain ⟨o',d,h1,h0,h2,_⟩:=h.at j (hr ▸ hj)
  rw [ho] at h1
  injection h1 with h1
  exact h1 ▸ h2) (fun j o u s' hj ho hu=>by
  obtain ⟨o',d,h1,h0,_,h3⟩:=h.at j (hr ▸ hj)
  rw [ho] at h1
  injection h1 with h1
  subst h1 h0
  exact h3 u s' hu)
end
section
variable {P:Program} {ops:Array Oper} {Q:Exit→Act→World→Prop} {σ:Type} {S:σ→World→Prop} {sp:Nat→Bool} {vals:Nat→Value} {Bp:List PanicEntry→World→Prop}
theorem zX {n:Nat} {s:σ} {listed:Array Bool} {a:Act} (h:∀ a1,a1=a→gF P .any ops Q S Bp sp vals n s listed a1):gF P .any ops Q S Bp sp vals n s listed a:=h a rfl
end
theorem Lo.perm {L:List Nat} {w0 w:World} {l l':List (Nat × List Value)} (h:Lo L w0 l w) (p:l.Perm l'):Lo L w0 l' w:=
 ⟨fun x hx=>h.row x (p.mem_iff.2 hx),(p.map _).nodup_iff.1 h.ne,h.only,h.low⟩
theorem Stp.perm {α:Type} {R:Ending→World→Prop} {B:Nat} {b:Blk} {n I:Int} {Ls:List Nat} {w0 w:World} {K:α→Ending→World→Prop} {l l':List (Nat × List Value)} {s:Sto} {m:Fs.M α} (h:Stp R B b n I Ls w0 K l s m w) (p:l.Perm l'):Stp R B b n I Ls w0 K l' s m w:=⟨h.lo.perm p,h.ctx,h.low,h.left⟩
structure Rk where
 c:Nat
 x:Option Nat
 y:Option Nat
 st:Nat
def LU (n I f:Int) (t:List UInt8) (to:Int) (u:List UInt8):M Unit:=andThen (iR n I f t) fun r=>andThen (iX n I to u) fun old=>if old=r.1 then ret () else andThen (pr n I to u r.1) fun _=>si n I f t
def IW (n I f:Int) (t:List UInt8) (to:Int) (u:List UInt8):Nat→M Unit
 | 0=>andThen (jY I f) fun _=>andThen (jY I to) fun _=>LU n I f t to u
 | 1=>andThen (jY I to) fun _=>LU n I f t to u
 | _=>LU n I f t to u
def rkL (X:Option Nat) (v:List Value):List (Nat × List Value):=match X with
 | none=>[]
 | some X=>[(X,v)]
def rkR (B:Nat) (f to:Int) (k:Rk):List (Nat × List Value):=rkL k.x (if k.st=0 then [.pointer none,.int .i64 0] else ea B f)++rkL k.y (if k.st=2 then ea B to else [.pointer none,.int .i64 0])
def RkS (R:Ending→World→Prop) (B T:Nat) (b:Blk) (n I:Int) (w0:World) (K:Unit→Ending→World→Prop) (f:Int) (t:List UInt8) (to:Int) (u:List UInt8) (V0:Fs.View) (k:Rk) (W:World):Prop:=∃ s',nv s'=V0∧Stp R B b n I [] w0 K ((w0.heap.size,dB B T)::rkR B f to k) s' (IW n I f t to u k.c) W
def rkF (a:Act) (B T:Nat) (f to:Int) (X Y:Nat):Act:=(((((((a.put (some 11) (.agg (dB B T).toArray)).put (some 12) (.int .i64 f)).put (some 14) (.agg (dB B T).toArray)).put (some 15) (.int .i64 to)).put (some 13) (lA B f)).put (some 16) (lA B to)).put (some 6) (.pointer (some ⟨X,0,none⟩))).put (some 7) (.pointer (some ⟨Y,0,none⟩))
def RkQ (R:Ending→World→Prop) (B T:Nat) (b:Blk) (n I:Int) (w0:World) (K:Unit→Ending→World→Prop) (f:Int) (t:List UInt8) (to:Int) (u:List UInt8) (V0:Fs.View) (a0:Act) (e:Exit) (a:Act) (W:World):Prop:=
 (e=.normal∧∃ X Y s',a=rkF a0 B T f to X Y∧nv s'=V0∧Stp R B b n I [] w0 K [(w0.heap.size,dB B T),(X,ea B f),(Y,ea B to)] s' (LU n I f t to u) W) ∨
 (e=.panic [bn B]∧a.defers=a0.defers∧R (.panicked [bn B]) W)
theorem EK {P:Program} {c:Code} {Q:Exit→Act→World→Prop} {a:Act} {w:World} (h:∀ a0,a0=a→c.wp P Q a0 w):c.wp P Q a w:=h a rfl
theorem sN {I i:Int} {V V':Fs.View} {a:Unit} {L:List Nat} (h:jY I i V=(.ok a,V',L)):V'=V:=by
 obtain ⟨x,V1,L1,h1,L2,h2⟩:=ie h
 obtain ⟨y,V2,L3,h3,L4,h4⟩:=ie h2
 have e1:V1=V:=(congrArg (·.2.1) h1).symm
 have e2:V2=V1:=(congrArg (·.2.1) h3).symm
 have e3:V'=V2:=by
  by_cases c:x.l=0
  ·rw [if_pos c] at h4;cases h4
  ·rw [if_neg c] at h4;exact (congrArg (·.2.1) h4).symm
 rw [e3,e2,e1]
theorem yP {n I d:Int} {t:List UInt8} {V V':Fs.View} {r:Int × Ino} {L:List Nat} (h:iR n I d t V=(.ok r,V',L)):V'=V∧r.1≠0:=by
 obtain ⟨a,V1,L1,h1,L2,h2⟩:=ie h
 obtain ⟨F,V3,L3,h3,L4,h4⟩:=ie h1
 have e1:V3=V:=(congrArg (·.2.1) h3).symm
 have e2:V1=V3:=(congrArg (·.2.1) h4).symm
 by_cases h0:a=0
 ·rw [if_pos h0] at h2
  cases h2
 ·rw [if_neg h0] at h2
  obtain ⟨x,V5,L5,h5,L6,h6⟩:=ie h2
  have e3:V5=V1:=(congrArg (·.2.1) h5).symm
  have e4:V'=V5:=(congrArg (·.2.1) h6).symm
  have e5:=congrArg (·.1) h6
  injection e5 with e5
  exact ⟨by rw [e4,e3,e2,e1],by rw [← e5];exact h0⟩
def rkN:Rk→Nat→Int→Int→Nat→Value→Rk→Prop
 | ⟨_,x,y,st⟩,B,f,_,2,u,k'=>u=lA B f∧k'=⟨1,x,y,st⟩
 | ⟨_,x,y,st⟩,B,_,to,5,u,k'=>u=lA B to∧k'=⟨2,x,y,st⟩
 | ⟨c,_,y,st⟩,_,_,_,6,u,k'=>∃ X,u=.pointer (some ⟨X,0,none⟩)∧k'=⟨c,some X,y,st⟩
 | ⟨c,x,_,st⟩,_,_,_,7,u,k'=>∃ X,u=.pointer (some ⟨X,0,none⟩)∧k'=⟨c,x,some X,st⟩
 | ⟨c,x,y,_⟩,_,_,_,_,u,k'=>u=undef∧k'=⟨c,x,y,1⟩
section
variable {R:Ending→World→Prop} {B T:Nat} {b:Blk} {n I:Int} {w0 W:World} {K:Unit→Ending→World→Prop} {f:Int} {t:List UInt8} {to:Int} {u:List UInt8} {V0:Fs.View} {X Y:Nat} {a:Act} {o:Oper}
theorem Fy (h:RkS R B T b n I w0 K f t to u V0 ⟨2,some X,some Y,0⟩ W) (ho:o.op=.store 99 (.tmp 6) (.tmp 13)) (hx:a.eval (.tmp 6)=.pointer (some ⟨X,0,none⟩)) (hy:a.eval (.tmp 13)=.agg (ea B f).toArray):dE Tryz.prog (execOp a.eval o) W (fun u' w'=>∃ k',(u'=undef∧k'=(⟨2,some X,some Y,1⟩:Rk))∧RkS R B T b n I w0 K f t to u V0 k' w'):=by
 obtain ⟨s8,e8,S8⟩:=h
 exact bA mg (S8.get 1 _ rfl) rfl rfl (fC B f) (.tmp 6) (.tmp 13) ho hx hy ⟨_,⟨rfl,rfl⟩,⟨s8,e8,S8.put 1 _ rfl (ea B f) rfl⟩⟩
theorem IU {a0 a':Act} (h:RkS R B T b n I w0 K f t to u V0 ⟨2,some X,some Y,1⟩ W) (ho:o.op=.store 99 (.tmp 7) (.tmp 16)) (hx:a.eval (.tmp 7)=.pointer (some ⟨Y,0,none⟩)) (hy:a.eval (.tmp 16)=.agg (ea B to).toArray) (ha:a'=rkF a0 B T f to X Y):dE Tryz.prog (execOp a.eval o) W (fun _ w'=>RkQ R B T b n I w0 K f t to u V0 a0 .normal a' w'):=by
 obtain ⟨s9,e9,S9⟩:=h
 exact bA mg (S9.get 2 _ rfl) rfl rfl (fC B to) (.tmp 7) (.tmp 16) ho hx hy (Or.inl ⟨rfl,_,_,s9,ha,e9,S9.put 2 _ rfl (ea B to) rfl⟩)
theorem nJ {o:Oper} (h:o.guard=none) (y:Nat→Option Bool):Region.wanted o y=true:=by unfold Region.wanted;rw [h]
theorem IT {a0:Act} {ops:Array Oper} {Bp:List PanicEntry→World→Prop} {sp:Nat→Bool} {vals:Nat→Value} {listed:Array Bool} (r8:Region.ready .any ops listed=[8]) (p8:sp 8=true) (o8:(ops[8]?).map (fun o=>(o.op,o.dst,o.guard))=some (.store 99 (.tmp 6) (.tmp 13),none,none))
  (r9:(Region.ready .any ops (listed.setIfInBounds 8 true)).contains 9=true) (p9:sp 9=true) (o9:(ops[9]?).map (fun o=>(o.op,o.dst,o.guard))=some (.store 99 (.tmp 7) (.tmp 16),none,none)) (l9:Gh ops 9=true)
  (e6:a.eval (.tmp 6)=.pointer (some ⟨X,0,none⟩)) (e13:a.eval (.tmp 13)=.agg (ea B f).toArray) (e7:a.eval (.tmp 7)=.pointer (some ⟨Y,0,none⟩)) (e16:a.eval (.tmp 16)=.agg (ea B to).toArray) (ha:a=rkF a0 B T f to X Y):
  gF Tryz.prog .any ops (RkQ R B T b n I w0 K f t to u V0 a0) (RkS R B T b n I w0 K f t to u V0) Bp sp vals 2 ⟨2,some X,some Y,0⟩ listed a:=by
 obtain ⟨q8,h8,g8⟩:=Option.map_eq_some_iff.1 o8
 obtain ⟨q9,h9,g9⟩:=Option.map_eq_some_iff.1 o9
 simp only [Prod.mk.injEq] at g8 g9
 refine dz [8] (fun k=>rkN k B f to) r8 (by simp [p8]) (by decide) ⟨⟨q8,none,h8,g8.2.1,⟨nJ g8.2.2 _,fun W hS=>cJ ((Fy hS g8.1 e6 e13).mono fun _ _ h=>h)⟩,?_⟩,trivial⟩
 rintro _ _ ⟨rfl,rfl⟩
 exact jt (i:=9) (d:=none) h9 g9.2.1 r9 p9 l9 (nJ g9.2.2 _) fun W hS=>cJ (IU hS g9.1 e7 e16 ha)
end
section
variable {w:World} {B T V M:Nat} {b:Blk} {s:Sto} {n I k:Int} {op:Int→Int}
theorem IV (h:Ctx w B b s n I) (ht:dW w T V M b n I k op) {X1 X2 X3 X4:Nat} (f to:Int) (t u:List UInt8) (h1:au w X1 [.int .i64 f]) (h2:au w X2 [.int .i64 to]) (h3:au w X3 [.string (strOf t)]) (h4:au w X4 [.string (strOf u)]) (hne:X1≠b.t∧X2≠b.t∧X3≠b.t∧X4≠b.t) (hu:(strOf u).size≤maxLen)
    (hk:∀ r V' L,iR n I f t (nv s)=(.ok r,V',L)→¬ r.2.k=2) (ho:∀ r V' L,iX n I to u (nv s)=(.ok r,V',L)→r=0):
    Calls Tryz.prog 71 #[mu B T,.pointer (some ⟨X1,0,none⟩),.pointer (some ⟨X2,0,none⟩),.pointer (some ⟨X3,0,none⟩),.pointer (some ⟨X4,0,none⟩)] w (Ends B b n I [] w s (IW n I f t to u 0) fun _ e _=>e=.returned (.tuple #[])):=by
  refine aQ fun R H=>?_
  have S0:=Lib.hid (Stp.start h (by simp) H)
  have S:=Lib.hid (S0.out.alloc w.heap.size rfl (dB B T) 97)
  have HTR:=Lib.hid ht
  have H1:=Lib.hid h1
  have H2:=Lib.hid h2
  have H3:=Lib.hid h3
  have H4:=Lib.hid h4
  have HNE:=Lib.hid hne
  have HK:=Lib.hid hk
  have HO:=Lib.hid ho
  have HD:Hid (∀ W s i,Ctx W B b s n I→dW W T V M b n I k op→Calls Tryz.prog 49 #[.agg (dB B T).toArray,.int .i64 i] W (Ends B b n I [] W s (jY I i) fun _ e _=>e=.returned (lA B i))):=Lib.hid (fun W s i hc hr=>jg hc hr i)
  have HF:Hid (∀ W s,Ctx W B b s n I→dW W T V M b n I k op→Calls Tryz.prog 67 #[.agg (dB B T).toArray,.agg (ea B f).toArray,.string (strOf t)] W (Ends B b n I [] W s (iR n I f t) fun r e _=>e=.returned (.tuple #[.int .i64 r.1,bH r.2]))):=Lib.hid (fun W s hc hr=>qc hc hr f t)
  have HG:Hid (∀ W s,Ctx W B b s n I→Calls Tryz.prog 73 #[.agg (ea B to).toArray,.string (strOf u)] W (Ends B b n I [] W s (iX n I to u) fun r e _=>e=.returned (.int .i64 r))):=Lib.hid (fun W s hc=>mh hc to u)
  have HA:Hid (∀ W s i,Ctx W B b s n I→Calls Tryz.prog 74 #[.agg (ea B to).toArray,.string (strOf u),.int .i64 i] W (Ends B b n I [] W s (pr n I to u i) fun _ e _=>e=.returned (.tuple #[]))):=Lib.hid (fun W s i hc=>ux hc to u i hu)
  have HV:Hid (∀ W s,Ctx W B b s n I→Calls Tryz.prog 77 #[.agg (ea B f).toArray,.string (strOf t)] W (Ends B b n I [] W s (si n I f t) fun _ e _=>e=.returned (.tuple #[]))):=Lib.hid (fun W s hc=>uu hc f t)
  clear h H S0 ht h1 h2 h3 h4 hne hu hk ho
  generalize hV0:nv s=V0 at HK HO
  have HV0:=Lib.hid hV0
  clear hV0
  go_enter Tryz.func71,Tryz.ntmps71
  go_wp2_with fail
  refine EK fun a0 ha=>?_
  refine wp_mono (Q:=RkQ R B T b n I w (fun _ e _=>e=.returned (.tuple #[])) f t to u V0 a0) ?_ ?_
  · subst ha
    refine aO (RkS R B T b n I w (fun _ e _=>e=.returned (.tuple #[])) f t to u V0) (fun ch W=>ch=[bn B]∧R (.panicked [bn B]) W) (fun ix=>ix == 2 || ix == 5 || ix == 6 || ix == 7 || ix == 8 || ix == 9) (fun ix=>[.agg (dB B T).toArray,.int .i64 f,undef,.agg (dB B T).toArray,.int .i64 to].getD ix undef) ⟨0,none,none,0⟩ (by kernel_rfl) (by kernel_rfl) (fun ch a' W hd hh=>?_) ⟨s,HV0.out,S.out.drew⟩ ?_
    · obtain ⟨rfl,hR⟩:=hh
      exact Or.inr ⟨rfl,hd,hR⟩
    refine ag (i:=0) (d:=some 11) (v:=(.agg (dB B T).toArray)) rfl rfl (by kernel_rfl) (by kernel_rfl) rfl rfl (bM fW (by kernel_rfl) (.tmp 5) rfl rfl (fun k W hS=>(hS.choose_spec.2.get 0 _ rfl).range)) ?_
    try simp only [Act.put,puA,puB,puC]
    refine ag (i:=1) (d:=some 12) (v:=(.int .i64 f)) rfl rfl (by kernel_rfl) (by kernel_rfl) rfl rfl (ae (by kernel_rfl) ?_) ?_
    · (intro sZ wZ hZ;have cZ:=(fun k W hS=>hS.choose_spec.2.cap H1.out HNE.out.1) sZ wZ hZ;go_simp)
    try simp only [Act.put,puA,puB,puC]
    refine ag (i:=3) (d:=some 14) (v:=(.agg (dB B T).toArray)) rfl rfl (by kernel_rfl) (by kernel_rfl) rfl rfl (bM fW (by kernel_rfl) (.tmp 5) rfl rfl (fun k W hS=>(hS.choose_spec.2.get 0 _ rfl).range)) ?_
    try simp only [Act.put,puA,puB,puC]
    refine ag (i:=4) (d:=some 15) (v:=(.int .i64 to)) rfl rfl (by kernel_rfl) (by kernel_rfl) rfl rfl (ae (by kernel_rfl) ?_) ?_
    · (intro sZ wZ hZ;have cZ:=(fun k W hS=>hS.choose_spec.2.cap H2.out HNE.out.2.1) sZ wZ hZ;go_simp)
    try simp only [Act.put,puA,puB,puC]
    refine zX fun a1 ha=>?_
    iterate 4
      all_goals
        first
          | refine dz [2,6,7] (fun k=>rkN k B f to) (by decide +kernel) rfl (by decide) ?_
          | refine dz [5,6,7] (fun k=>rkN k B f to) (by decide +kernel) rfl (by decide) ?_
          | refine dz [2,7] (fun k=>rkN k B f to) (by decide +kernel) rfl (by decide) ?_
          | refine dz [2,6] (fun k=>rkN k B f to) (by decide +kernel) rfl (by decide) ?_
          | refine dz [5,6] (fun k=>rkN k B f to) (by decide +kernel) rfl (by decide) ?_
          | refine dz [5,7] (fun k=>rkN k B f to) (by decide +kernel) rfl (by decide) ?_
          | refine dz [6,7] (fun k=>rkN k B f to) (by decide +kernel) rfl (by decide) ?_
          | refine dz [2] (fun k=>rkN k B f to) (by decide +kernel) rfl (by decide) ?_
          | refine dz [5] (fun k=>rkN k B f to) (by decide +kernel) rfl (by decide) ?_
          | refine dz [6] (fun k=>rkN k B f to) (by decide +kernel) rfl (by decide) ?_
          | refine dz [7] (fun k=>rkN k B f to) (by decide +kernel) rfl (by decide) ?_
        repeat' (first | exact True.intro | refine And.intro ?_ ?_)
        all_goals
          first
            | (refine ⟨_,some 13,rfl,rfl,⟨by kernel_rfl,fun W hS=>?_⟩,?_⟩
               · obtain ⟨s8,e8,S8⟩:=hS
                 refine ky (f:=49) (args:=#[.agg (dB B T).toArray,.int .i64 f]) (by subst ha;kernel_rfl) ((HD.out _ _ _ S8.ctx (HTR.out.stp S8 (by simp))).mono fun e w' hE=>?_)
                 rcases S8.bind hE with ⟨rfl,hR⟩ | ⟨_,s9,L9,E9,rfl,S9⟩
                 · exact Or.inr ⟨_,rfl,rfl,hR⟩
                 · exact Or.inl ⟨_,rfl,_,⟨rfl,rfl⟩,⟨s9,(sN E9).trans e8,S9⟩⟩
               rintro _ _ ⟨rfl,rfl⟩)
            | (refine ⟨_,some 16,rfl,rfl,⟨by kernel_rfl,fun W hS=>?_⟩,?_⟩
               · obtain ⟨s8,e8,S8⟩:=hS
                 refine ky (f:=49) (args:=#[.agg (dB B T).toArray,.int .i64 to]) (by subst ha;kernel_rfl) ((HD.out _ _ _ S8.ctx (HTR.out.stp S8 (by simp))).mono fun e w' hE=>?_)
                 rcases S8.bind hE with ⟨rfl,hR⟩ | ⟨_,s9,L9,E9,rfl,S9⟩
                 · exact Or.inr ⟨_,rfl,rfl,hR⟩
                 · exact Or.inl ⟨_,rfl,_,⟨rfl,rfl⟩,⟨s9,(sN E9).trans e8,S9⟩⟩
               rintro _ _ ⟨rfl,rfl⟩)
            | (refine ⟨_,some 6,rfl,rfl,⟨by kernel_rfl,fun W hS=>?_⟩,?_⟩
               · obtain ⟨s8,e8,S8⟩:=hS
                 first
                   | exact cJ (eX (v:=.pointer (some ⟨W.heap.size,0,none⟩)) (w':=W.alloc (.cells #[.pointer none,.int .i64 0] 99)) (by go_simp) ⟨_,⟨_,rfl,rfl⟩,⟨s8,e8,S8.alloc W.heap.size rfl [.pointer none,.int .i64 0] _⟩⟩)
                   | exact cJ (eX (v:=.pointer (some ⟨W.heap.size,0,none⟩)) (w':=W.alloc (.cells #[.pointer none,.int .i64 0] 99)) (by go_simp) ⟨_,⟨_,rfl,rfl⟩,⟨s8,e8,(S8.alloc W.heap.size rfl [.pointer none,.int .i64 0] _).perm ((List.Perm.swap _ _ _).cons _)⟩⟩)
               rintro _ _ ⟨X,rfl,rfl⟩)
            | (refine ⟨_,some 7,rfl,rfl,⟨by kernel_rfl,fun W hS=>?_⟩,?_⟩
               · obtain ⟨s8,e8,S8⟩:=hS
                 first
                   | exact cJ (eX (v:=.pointer (some ⟨W.heap.size,0,none⟩)) (w':=W.alloc (.cells #[.pointer none,.int .i64 0] 99)) (by go_simp) ⟨_,⟨_,rfl,rfl⟩,⟨s8,e8,S8.alloc W.heap.size rfl [.pointer none,.int .i64 0] _⟩⟩)
                   | exact cJ (eX (v:=.pointer (some ⟨W.heap.size,0,none⟩)) (w':=W.alloc (.cells #[.pointer none,.int .i64 0] 99)) (by go_simp) ⟨_,⟨_,rfl,rfl⟩,⟨s8,e8,(S8.alloc W.heap.size rfl [.pointer none,.int .i64 0] _).perm ((List.Perm.swap _ _ _).cons _)⟩⟩)
               rintro _ _ ⟨X,rfl,rfl⟩)
    all_goals exact IT (by decide +kernel) rfl (by kernel_rfl) (by decide +kernel) rfl (by kernel_rfl) (by decide +kernel) (by subst ha;kernel_rfl) (by subst ha;kernel_rfl) (by subst ha;kernel_rfl) (by subst ha;kernel_rfl) (by subst ha;kernel_rfl)
  · intro e a' W hq
    rcases hq with ⟨rfl,X,Y,s9,rfl,e9,S9⟩ | ⟨rfl,hd,hR⟩
    · subst ha
      have S1:=Lib.hid S9
      have E9:=Lib.hid e9
      clear S9 e9 S HD HV0 H1 H2
      unfold rkF
      try simp only [Act.put,puA,puB,puC]
      have c3:=S1.out.cap H3.out HNE.out.2.2.1
      go_wp2_with (first
        | (with_reducible refine af wU (S1.out.get 0 _ rfl) rfl rfl (.tmp 5) rfl rfl ?_)
        | (with_reducible refine af mg (S1.out.get 1 _ rfl) rfl rfl (.tmp 6) rfl rfl ?_))
      refine (HF.out _ _ S1.out.ctx (HTR.out.stp S1.out (by simp))).mono ?_
      intro e w2 hE
      rcases S1.out.bind hE with ⟨rfl,hR⟩ | ⟨⟨i,x⟩,s2,L2,E2,rfl,S2⟩
      · exact ⟨rfl,hR⟩
      have hv:=yP E2
      rw [E9.out] at E2
      have hk2:¬ x.k=2:=HK.out _ _ _ E2
      have V2:=Lib.hid (hv.1.trans E9.out)
      have g0:(x.k == 2)=false:=by simpa using hk2
      have hi0:i≠0:=hv.2
      have g1:((0:Int) == i)=false:=by simpa using fun q=>hi0 q.symm
      clear hE c3 S1 E2 HF hv hk2 E9 HK
      have S:=Lib.hid S2
      clear S2
      go_wp2_with (first
        | ((with_reducible refine ai (vs:=aH x) cz ?_ (aJ _) rfl (.tmp 9) (.tmp 23) rfl rfl ?_ ?_ ?_);(exact rfl);(exact rfl);(exact rfl);intro W5 hP hB2 hz2;replace S:=Lib.hid (S.out.made hP hB2 hz2);have cK:=(S.out.get 3 _ rfl).cell 0 _ rfl;have c4:=S.out.cap H4.out HNE.out.2.2.2;clear hP hB2 hz2)
        | (with_reducible refine af mg (S.out.get 2 _ rfl) rfl rfl (.tmp 7) rfl rfl ?_))
      refine (HG.out _ _ S.out.ctx).mono ?_
      intro e w3 hE
      rcases S.out.bind hE with ⟨rfl,hR⟩ | ⟨old,s3,L3,E3,rfl,S2⟩
      · exact ⟨rfl,hR⟩
      rw [V2.out] at E3
      obtain rfl:=HO.out _ _ _ E3
      clear hE c4 cK S E3 HG HO V2
      have S:=Lib.hid (S2.of (m':=andThen (pr n I to u i) fun _=>si n I f t) (by rw [if_neg (fun q=>hi0 q.symm)]))
      have cK:=(S.out.get 3 _ rfl).cell 0 _ rfl
      have c4:=S.out.cap H4.out HNE.out.2.2.2
      clear S2 hi0
      go_wp2_with (first
        | (with_reducible refine af mg (S.out.get 2 _ rfl) rfl rfl (.tmp 7) rfl rfl ?_)
        | (go_at_call 74;refine (HA.out _ _ _ S.out.ctx).mono ?_;intro e w4 hE;rcases S.out.bind hE with ⟨rfl,hR⟩ | ⟨_,s4,L4,_,rfl,S2⟩;(exact ⟨rfl,hR⟩);clear hE cK c4;replace S:=Lib.hid S2;have cK:=(S.out.get 3 _ rfl).cell 0 _ rfl;have c3:=S.out.cap H3.out HNE.out.2.2.1;clear S2)
        | (with_reducible refine af mg (S.out.get 1 _ rfl) rfl rfl (.tmp 6) rfl rfl ?_)
        | (go_at_call 77;refine (HV.out _ _ S.out.ctx).mono ?_;intro e w5 hE;rcases S.out.last hE with ⟨rfl,hR⟩ | ⟨_,s5,L5,_,rfl,S2⟩;(exact ⟨rfl,hR⟩);clear hE cK c3;replace S:=Lib.hid S2;clear S2))
      go_end0
      exact S.out.done rfl
    · subst ha
      exact ⟨hd,hR⟩
end
end Go.Proofs.YtagfoogfpabdfaaGreat

namespace Go.Proofs.YtagfoogfpabdfaaGreat

end Go.Proofs.YtagfoogfpabdfaaGreat
set_option maxRecDepth 100000
namespace Go.Proofs.YtagfoogfpabdfaaGreat
open Go.RowKit Go.Maps
open Dk (av aa)
open Ii (Ino)
open Dm (Ent)
open Fs (M andThen tell ret fail View Eqv uR aw cX bt dn bQ)
section
variable {n I:Int} (hpl:Pl.aA n I=true)
include hpl
theorem rW (d:Int):uR n (uV n I d):=fun V V' h=>by
 unfold uV
 rw [Fs.CT hpl d 0 67840 V V' h]
theorem CQ (i e:Int):uR n (xc I i e):=fun V V' h=>by
 unfold xc
 split
 ·rename_i c
  have q:Fs.bJ V i=Fs.bJ V' i:=Fs.oS hpl c.1 c.2 V V' h
  rw [q]
 ·rfl
theorem Il (i:Int):uR n (ofF I i):=fun V V' h=>by
 have q:ofE I i V=ofE I i V':=by
  unfold ofE
  split
  ·rename_i c
   have q:Fs.bJ V i=Fs.bJ V' i:=Fs.oS hpl c.1 c.2 V V' h
   rw [q]
  ·rfl
 unfold ofF
 rw [q]
theorem xR (d:Int) (F:List UInt8) (a:Nat) (e:Ent):Fs.Loc n (pq n I d F a e):=Fs.CP hpl _ _ _
theorem xT (d:Int) (t:List UInt8) (i:Int):Fs.Loc n (pr n I d t i):=by
 unfold pr
 exact bQ (fun _=>dn _) (fun _=>aw (cX (rW hpl d)) fun F=>bQ (fun _=>dn _) (fun _=>xR hpl _ _ _ _))
theorem xQ (d:Int) (t:List UInt8):Fs.Loc n (si n I d t):=by
 unfold si
 refine aw (cX (rW hpl d)) fun F=>?_
 cases Dm.spot (bg F) t with
 | none=>exact dn _
 | some k=>exact xR hpl _ _ _ _
theorem lq (d:Int) (t:List UInt8):Fs.Loc n (iX n I d t):=aw (cX (rW hpl d)) fun _=>bt _
theorem xS (d:Int):Fs.Loc n (Am n I d):=aw (cX (rW hpl d)) fun _=>bt _
theorem ln (i:Int):Fs.Loc n (uc I i):=cX (Fs.zS hpl i)
theorem jU (i:Int):Fs.Loc n (jY I i):=aw (cX (CQ hpl i 2)) fun _=>aw (cX (Il hpl i)) fun _=>bQ (fun _=>dn _) (fun _=>bt _)
theorem oR (d:Int) (t:List UInt8):Fs.Loc n (iR n I d t):=aw (lq hpl d t) fun _=>bQ (fun _=>dn _) (fun _=>aw (cX (CQ hpl _ 5)) fun _=>bt _)
omit hpl in
theorem qC (x:Ino):Fs.Loc n (jf n I x):=by
 unfold jf
 exact bQ (fun _=>bt _) (fun _=>dn _)
theorem Gb (i:Int):Fs.Loc n (AV n I i):=aw (cX (Il hpl i)) fun _=>aw (aw (xS hpl i) fun _=>bt _) fun _=>bQ (fun _=>bt _) (fun _=>dn _)
theorem rZ (op:Int→Int) (i l:Int):Fs.Loc n (lX n I op i l):=aw (ln hpl i) fun _=>aw (Fs.zU hpl _ _) fun _=>bQ (fun _=>Fs.vY hpl _) (fun _=>bt _)
theorem Ge (op:Int→Int) (i:Int):Fs.Loc n (DB n I op i):=aw (ln hpl i) fun _=>bQ (fun _=>dn _) (fun _=>rZ hpl _ _ _)
theorem xP (op:Int→Int) (i:Int):Fs.Loc n (tQ n I op i):=aw (ln hpl i) fun _=>rZ hpl _ _ _
theorem CX (op:Int→Int) (d i:Int) (x:Ino):Fs.Loc n (qE n I op d i x):=by
 unfold qE
 exact bQ (fun _=>aw (xP hpl _ _) fun _=>rZ hpl _ _ _) (fun _=>xP hpl _ _)
theorem tV (d:Int) (t:List UInt8) (x:Ino):Fs.Loc n (kg n I d t x):=by
 unfold kg
 exact bQ (fun _=>dn _) (fun _=>aw (lq hpl _ _) fun _=>bQ (fun _=>dn _) (fun _=>aw (Fs.Jq hpl _) fun _=>aw (xT hpl _ _ _) fun _=>bt _))
theorem CW (op:Int→Int) (d:Int) (t:List UInt8) (p u:Int):Fs.Loc n (mH n I op d t p u):=aw (jU hpl _) fun _=>aw (qC _) fun _=>aw (Ge hpl _ _) fun _=>aw (tV hpl _ _ _) fun _=>aw (ln hpl _) fun _=>bt _
theorem zT (d:Int) (t:List UInt8) (p u:Int):Fs.Loc n (jF n I d t p u):=aw (jU hpl _) fun _=>aw (qC _) fun _=>aw (tV hpl _ _ _) fun _=>aw (ln hpl _) fun _=>bt _
theorem Gd (d:Int):Fs.Loc n (wg n I d):=aw (jU hpl _) fun _=>xS hpl _
theorem CS (op:Int→Int) (d:Int) (t:List UInt8):Fs.Loc n (om n I op d t):=aw (jU hpl _) fun _=>aw (oR hpl _ _) fun _=>aw (Gb hpl _) fun _=>aw (xQ hpl _ _) fun _=>CX hpl _ _ _ _
theorem Jp (f:Int) (t:List UInt8) (to:Int) (u:List UInt8):Fs.Loc n (IW n I f t to u 0):=aw (jU hpl _) fun _=>aw (jU hpl _) fun _=>aw (oR hpl _ _) fun _=>aw (lq hpl _ _) fun _=>bQ (fun _=>bt _) (fun _=>aw (xT hpl _ _ _) fun _=>xQ hpl _ _)
end
end Go.Proofs.YtagfoogfpabdfaaGreat

namespace Go.Proofs.YtagfoogfpabdfaaGreat

end Go.Proofs.YtagfoogfpabdfaaGreat
set_option maxRecDepth 100000
namespace Go.Proofs.YtagfoogfpabdfaaGreat
open Go.RowKit Go.Maps
open Dk (av aa)
open Ii (Ino)
open Dm (Ent)
open Fs (M andThen tell ret fail View)
def eB {α:Type} (r:Fs.Out α):View:=r.2.1
def sumOf {α β:Type} (f:α→β) (r:Fs.Out α):Option (β × Nat):=match r with
 | (.ok a,_,L)=>some (f a,L.length)
 | (.error _,_,_)=>none
def op0:Int→Int:=fun _=>0
def e1:=mH 70 8 op0 1 [97] 493 0 (AF 70 8)
def e2:=jF 70 8 2 [98] 420 0 (eB e1)
def e3:=IW 70 8 2 [98] 1 [99] 0 (eB e2)
def e4:=wg 70 8 1 (eB e3)
def e5:=om 70 8 op0 1 [97] (eB e3)
theorem LH:sumOf (fun a=>a.1) e1=some (2,7):=by kernel_rfl
theorem LG:sumOf (fun a=>a.1) e2=some (3,6):=by kernel_rfl
theorem LF:sumOf (fun _=>()) e3=some ((),2):=by kernel_rfl
theorem LD:sumOf (fun a=>a) e4=some ([(2,[97]),(3,[99])],0):=by kernel_rfl
theorem LC:sumOf (fun _=>()) e5=some ((),6):=by kernel_rfl
theorem JL:sumOf (fun a=>a.2.k) (iR 70 8 2 [98] (eB e2))=some (1,0):=by kernel_rfl
theorem JT:sumOf (fun a=>a) (iX 70 8 1 [99] (eB e2))=some (0,0):=by kernel_rfl
theorem FF:Pl.aA 70 8=true:=by decide
theorem Cc {α β:Type} {m:M α} {f:α→β} {V0:View} {s s2:Sto} {k c:Nat} {er:Int} {a:Option α} {x:β} (hl:Fs.Loc 70 m) (hC:Calm s 70 8 k) (hk:k≤1000000) (hE:Fs.Eqv 70 (nv s) V0) (hS:sumOf f (m V0)=some (x,c)) (hc:c≤34) (ht:mM 70 8 s m er s2 a):
  er=0∧Calm s2 70 8 (k+1)∧Fs.Eqv 70 (nv s2) (eB (m V0))∧∃ y,a=some y∧f y=x:=by
 obtain ⟨c2,hr⟩:=hC.long hk ht
 have hl:=hl (nv s) V0 hE
 unfold eB
 rcases hm:m V0 with ⟨r,V,L⟩
 rw [hm] at hl hS
 cases r with
 | error e=>simp [sumOf] at hS
 |
  ok b=>
  unfold sumOf at hS
  simp only [Option.some.injEq,Prod.mk.injEq] at hS
  obtain ⟨rfl,hL⟩:=hS
  rcases hr with ⟨x,V2,L2,e,rfl,rfl,hv⟩ | ⟨hf,h0,_,_⟩
  ·rw [e] at hl
   obtain ⟨k1,k2,_⟩:=hl
   simp only [Except.ok.injEq] at k1
   subst k1
   exact ⟨rfl,c2,fun i h1 h2=>(hv i ⟨h2,Or.inr h1⟩).trans (k2 i h1 h2),_,rfl,rfl⟩
  ·exfalso
   rcases hf with ⟨V2,L2,e⟩ | ⟨_,hf⟩
   ·rw [e] at hl
    cases hl.1
   ·have:=JY s.dk.last.length (m (nv s)).2.2
    rw [hl.2.2] at this hf
    rw [hC.idle,hC.vs.r] at hf
    simp only at this hf
    omega
theorem tG {α β:Type} {m:M α} {f:α→β} {V0 V:View} {c:Nat} {x:β} (hl:Fs.Loc 70 m) (hE:Fs.Eqv 70 V V0) (hS:sumOf f (m V0)=some (x,c)):∀ r V' L,m V=(.ok r,V',L)→f r=x:=by
 intro r V' L h
 have hl:=(hl V V0 hE).1
 rw [h] at hl
 rcases hm:m V0 with ⟨r2,V2,L2⟩
 rw [hm] at hl hS
 simp only at hl
 subst hl
 unfold sumOf at hS
 simp only [Option.some.injEq,Prod.mk.injEq] at hS
 exact hS.1
end Go.Proofs.YtagfoogfpabdfaaGreat

namespace Go.Proofs.YtagfoogfpabdfaaGreat
end Go.Proofs.YtagfoogfpabdfaaGreat
