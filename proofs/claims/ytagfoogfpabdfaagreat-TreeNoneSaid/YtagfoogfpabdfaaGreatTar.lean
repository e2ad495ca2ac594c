/- Texts of the proof. -/
import Derived.Test.YtagfoogfpabdfaaGreatTan
import Derived.Test.YtagfoogfpabdfaaGreatTaq
import Derived.Test.YtagfoogfpabdfaaGreatTam
set_option maxRecDepth 100000
set_option maxHeartbeats 16000000
namespace Go.Proofs.YtagfoogfpabdfaaGreat
end Go.Proofs.YtagfoogfpabdfaaGreat
set_option maxRecDepth 100000
namespace Go.Proofs.YtagfoogfpabdfaaGreat
open Go.RowKit Go.Maps
open Dk (av aa)
open Ii (Ino)
open Dm (Ent Has)
open Fs (M andThen tell ret fail)
def xc (I i e:Int) (V:Fs.View):Except Int Ino:=if 1≤i∧i≤I then (if (Fs.bJ V i).k=0 then .error e else .ok (Fs.bJ V i)) else .error e
def uc (I i:Int):M Ino:=tell (Fs.lv I i)
def jY (I i:Int):M Unit:=andThen (tell (xc I i 2)) fun x=>andThen (tell (ofF I i)) fun _=>if x.l=0 then fail 2 else ret ()
def iR (n I d:Int) (t:List UInt8):M (Int × Ino):=andThen (iX n I d t) fun r=>if r=0 then fail 2 else andThen (tell (xc I r 5)) fun x=>ret (r,x)
def jf (n I:Int) (x:Ino):M Ino:=if Ii.kd n I x=true then ret x else fail 22
def AV (n I i:Int):M Unit:=andThen (tell (ofF I i)) fun _=>andThen (andThen (Am n I i) fun E=>ret (decide (E=[]))) fun r=>if r=true then ret () else fail 39
theorem wC {w W:World} {B:Nat} {b:Blk} {s:Sto} {n I:Int} (h:Ctx w B b s n I) {l:List (Nat × List Value)} (hl:Lo [] w l W) (er:Int) (h0:er≠0):Calls Tryz.prog 58 #[.pointer (some ⟨B,0,none⟩),.int .i64 er] W fun e w'=>e=.panicked [bn B]∧gq w' B b s n I er∧aB [B] w w':=
 (cM (Lo.ctx (L:=[]) hl h) er h0).mono fun e w' hh=>⟨hh.1,hh.2.1,(show aB [B] w W from aB.below hl.bel).via hh.2.2 (fun i hi=>Or.inl hi)⟩
theorem su (w:World) (B T:Nat):Lo [] w [(w.heap.size,dB B T),(w.heap.size+1,aH Ii.zero)] ((w.alloc (.cells #[.pointer (some ⟨B,0,none⟩),.pointer (some ⟨T,0,none⟩)] 97)).alloc (.cells (aH Ii.zero).toArray 103)):=
 ((Lo.start (L:=[]) w (by simp)).alloc _ rfl (dB B T) _).alloc (w.heap.size+1) (by simp) (aH Ii.zero) _
section
variable {w:World} {B T V M:Nat} {b:Blk} {s:Sto} {n I k:Int} {op:Int→Int}
theorem yH (h:Ctx w B b s n I) (i er:Int) (h0:er≠0) (c:i<1):Calls Tryz.prog 125 #[mu B T,.int .i64 i,.int .i64 er] w fun e w'=>e=.panicked [bn B]∧gq w' B b s n I er∧aB [B] w w':=by
 have S:=Lib.hid (su w B T)
 have HF:=Lib.hid (fun W l (hl:Lo [] w l W)=>wC h hl er h0)
 have c0:=(S.out.get 0 _ rfl).cell 0 _ rfl
 have g0:decide (i<1)=true:=by simpa using c
 clear h h0 c
 go_enter Tryz.func125,Tryz.ntmps125
 go_wp2_with (go_at_call 58;refine (HF.out _ _ S.out).mono ?_;rintro e w1 ⟨rfl,hR⟩)
 exact ⟨rfl,rfl,hR⟩
theorem vl (h:Ctx w B b s n I) (ht:dW w T V M b n I k op) (i er:Int) (h0:er≠0) (c1:¬ i<1) (c:I<i):Calls Tryz.prog 125 #[mu B T,.int .i64 i,.int .i64 er] w fun e w'=>e=.panicked [bn B]∧gq w' B b s n I er∧aB [B] w w':=by
 have S:=Lib.hid (su w B T)
 have HF:=Lib.hid (fun W l (hl:Lo [] w l W)=>wC h hl er h0)
 have HV:=Lib.hid (fun W l (hl:Lo [] w l W)=>kL (ht.row.step hl.bel))
 have HP:=Lib.hid (fun W l (hl:Lo [] w l W)=>kI (ht.vol.step hl.bel))
 have c0:=(S.out.get 0 _ rfl).cell 0 _ rfl
 have c1':=(S.out.get 0 _ rfl).cell 1 _ rfl
 have hfd:∀ W:World,(Instr.field 132 (bz n I) 1).run Tryz.prog W=.ok (.int .i64 I) W:=fun W=>by kernel_rfl
 have g0:decide (i<1)=false:=by simpa using c1
 have g1:decide (I<i)=true:=by simpa using c
 clear h h0 ht
 go_enter Tryz.func125,Tryz.ntmps125
 go_wp2_with (first
  | (go_at_call 20;refine (HV.out _ _ S.out).mono ?_;rintro e w1 ⟨rfl,rfl⟩)
  | (go_at_call 103;refine (HP.out _ _ S.out).mono ?_;rintro e w1 ⟨rfl,hb⟩;clear c0 c1';replace S:=Lib.hid (S.out.below hb);have c0:=(S.out.get 0 _ rfl).cell 0 _ rfl;clear hb)
  | (go_at_call 58;refine (HF.out _ _ S.out).mono ?_;rintro e w1 ⟨rfl,hR⟩))
 exact ⟨rfl,rfl,hR⟩
theorem vk (h:Ctx w B b s n I) (ht:dW w T V M b n I k op) (i er:Int) (h0:er≠0) (c:1≤i∧i≤I) (hk:(Fs.bJ (nv s) i).k=0):Calls Tryz.prog 125 #[mu B T,.int .i64 i,.int .i64 er] w fun e w'=>e=.panicked [bn B]∧gq w' B b s n I er∧aB [B] w w':=by
 have S:=Lib.hid (su w B T)
 have HF:=Lib.hid (fun W l (hl:Lo [] w l W)=>wC h hl er h0)
 have HV:=Lib.hid (fun W l (hl:Lo [] w l W)=>kL (ht.row.step hl.bel))
 have HP:=Lib.hid (fun W l (hl:Lo [] w l W)=>kI (ht.vol.step hl.bel))
 have HI:=Lib.hid (fun W l (hl:Lo [] w l W)=>gP (Lo.ctx (L:=[]) hl h) i c)
 have c0:=(S.out.get 0 _ rfl).cell 0 _ rfl
 have c1':=(S.out.get 0 _ rfl).cell 1 _ rfl
 have hfd:∀ W:World,(Instr.field 132 (bz n I) 1).run Tryz.prog W=.ok (.int .i64 I) W:=fun W=>by kernel_rfl
 have g0:decide (i<1)=false:=by simp;omega
 have g1:decide (I<i)=false:=by simp;omega
 have n0:¬ i<1:=by omega
 have n1:¬ I<i:=by omega
 generalize Fs.bJ (nv s) i=x at HI hk
 clear h h0 ht c
 go_enter Tryz.func125,Tryz.ntmps125
 go_wp2_with (first
  | (go_at_call 20;refine (HV.out _ _ S.out).mono ?_;rintro e w1 ⟨rfl,rfl⟩)
  | (go_at_call 103;refine (HP.out _ _ S.out).mono ?_;rintro e w1 ⟨rfl,hb⟩;clear c0 c1';replace S:=Lib.hid (S.out.below hb);have c0:=(S.out.get 0 _ rfl).cell 0 _ rfl;clear hb)
  | (go_at_call 111;refine (HI.out _ _ S.out).mono ?_;rintro e w2 ⟨rfl,hb⟩;clear c0;replace S:=Lib.hid (S.out.below hb);clear hb)
  | ((with_reducible refine ai (vs:=aH x) cz ?_ (aJ _) rfl (.tmp 7) (.tmp 26) rfl rfl ?_ ?_ ?_);(exact rfl);(exact rfl);(exact rfl);intro W4 hP hB2 hz2;replace S:=Lib.hid (S.out.made hP hB2 hz2);have c0:=(S.out.get 0 _ rfl).cell 0 _ rfl;have cK:=(S.out.get 2 _ rfl).cell 0 _ rfl;clear hP hB2 hz2)
  | (go_at_call 58;refine (HF.out _ _ S.out).mono ?_;rintro e w3 ⟨rfl,hR⟩))
 exact ⟨rfl,rfl,hR⟩
theorem yG (h:Ctx w B b s n I) (ht:dW w T V M b n I k op) (i er:Int) (c:1≤i∧i≤I) (hk:¬ (Fs.bJ (nv s) i).k=0):Calls Tryz.prog 125 #[mu B T,.int .i64 i,.int .i64 er] w fun e w'=>e=.returned (bH (Fs.bJ (nv s) i))∧Below w.heap.size w w':=by
 have S:=Lib.hid (su w B T)
 have HV:=Lib.hid (fun W l (hl:Lo [] w l W)=>kL (ht.row.step hl.bel))
 have HP:=Lib.hid (fun W l (hl:Lo [] w l W)=>kI (ht.vol.step hl.bel))
 have HI:=Lib.hid (fun W l (hl:Lo [] w l W)=>gP (Lo.ctx (L:=[]) hl h) i c)
 have c0:=(S.out.get 0 _ rfl).cell 0 _ rfl
 have c1':=(S.out.get 0 _ rfl).cell 1 _ rfl
 have hfd:∀ W:World,(Instr.field 132 (bz n I) 1).run Tryz.prog W=.ok (.int .i64 I) W:=fun W=>by kernel_rfl
 have g0:decide (i<1)=false:=by simp;omega
 have g1:decide (I<i)=false:=by simp;omega
 have n0:¬ i<1:=by omega
 have n1:¬ I<i:=by omega
 generalize Fs.bJ (nv s) i=x at HI hk ⊢
 have g2:(x.k == 0)=false:=by simpa using hk
 clear h ht c
 go_enter Tryz.func125,Tryz.ntmps125
 go_wp2_with (first
  | (go_at_call 20;refine (HV.out _ _ S.out).mono ?_;rintro e w1 ⟨rfl,rfl⟩)
  | (go_at_call 103;refine (HP.out _ _ S.out).mono ?_;rintro e w1 ⟨rfl,hb⟩;clear c0 c1';replace S:=Lib.hid (S.out.below hb);have c0:=(S.out.get 0 _ rfl).cell 0 _ rfl;clear hb)
  | (go_at_call 111;refine (HI.out _ _ S.out).mono ?_;rintro e w2 ⟨rfl,hb⟩;clear c0;replace S:=Lib.hid (S.out.below hb);clear hb)
  | ((with_reducible refine ai (vs:=aH x) cz ?_ (aJ _) rfl (.tmp 7) (.tmp 26) rfl rfl ?_ ?_ ?_);(exact rfl);(exact rfl);(exact rfl);intro W4 hP hB2 hz2;replace S:=Lib.hid (S.out.made hP hB2 hz2);have cK:=(S.out.get 2 _ rfl).cell 0 _ rfl;clear hP hB2 hz2)
  | (with_reducible refine af cz (S.out.get 2 _ rfl) rfl rfl (.tmp 7) rfl rfl ?_)
  | ((with_reducible refine ak (vs:=aH x) cz (S.out.get 1 _ rfl) ?_ ?_ (aJ _) rfl (.tmp 6) (.tmp 34) rfl ?_ ?_ ?_);(exact rfl);(exact rfl);(exact rfl);(exact rfl)))
 have S2:=Lib.hid (S.out.put 1 _ rfl (aH x) rfl)
 exact bodyPost_ret (aC cz _ 6 rfl _ (S2.out.get 1 _ rfl) rfl rfl) rfl ⟨rfl,S2.out.bel⟩
theorem qd (h:Ctx w B b s n I) (ht:dW w T V M b n I k op) (i er:Int) (h0:er≠0):Calls Tryz.prog 125 #[mu B T,.int .i64 i,.int .i64 er] w (Ends B b n I [] w s (tell (xc I i er)) fun x e w'=>e=.returned (bH x)∧Below w.heap.size w w'):=by
 by_cases c:1≤i∧i≤I
 ·by_cases hk:(Fs.bJ (nv s) i).k=0
  ·refine (vk h ht i er h0 c hk).mono ?_
   rintro e w' ⟨rfl,hB,hO⟩
   exact Ends.untold (w1:=w) (by unfold xc;rw [if_pos c,if_pos hk]) h0 (Below.refl _ _) hB hO
  ·refine (yG h ht i er c hk).mono ?_
   rintro e w' ⟨rfl,hb⟩
   exact Ends.told (by unfold xc;rw [if_pos c,if_neg hk]) h hb ⟨rfl,hb⟩
 ·have he:xc I i er (nv s)=.error er:=by unfold xc;rw [if_neg c]
  by_cases c1:i<1
  ·refine (yH h i er h0 c1).mono ?_
   rintro e w' ⟨rfl,hB,hO⟩
   exact Ends.untold (w1:=w) he h0 (Below.refl _ _) hB hO
  ·refine (vl h ht i er h0 c1 (by omega)).mono ?_
   rintro e w' ⟨rfl,hB,hO⟩
   exact Ends.untold (w1:=w) he h0 (Below.refl _ _) hB hO
end
end Go.Proofs.YtagfoogfpabdfaaGreat

namespace Go.Proofs.YtagfoogfpabdfaaGreat

end Go.Proofs.YtagfoogfpabdfaaGreat
set_option maxRecDepth 100000
namespace Go.Proofs.YtagfoogfpabdfaaGreat
open Go.RowKit Go.Maps
open Dk (av aa)
open Ii (Ino)
open Dm (Ent Has)
open Fs (M andThen tell ret fail)
theorem zi {t:TypeId} {n:Nat} (ht:mN t n) (fn:Func) (r s:Nat) (hf:fn.results=#[.tmp r,.cell s t]) {w:World} {b:Nat} {vs:List Value} {v:Value} (tmps:Array Value) (k:au w b vs) (hl:vs.length=n) (hs:tmps.getD s undef=.pointer (some ⟨b,0,none⟩)) (hr:tmps.getD r undef=v):
  (results fn tmps).run Tryz.prog w=.ok (.tuple #[v,.agg vs.toArray]) w:=by
 have hl:=k.mW ht hl
 unfold results
 rw [hf]
 simp only [Array.mapM_eq_mapM_toList,List.mapM_cons,List.mapM_nil,hs,hr,asAddr,Sem.run_bind,Sem.run_pure,Result.andThen_ok,hl,Sem.run_map]
 rfl
section
variable {w:World} {B T V M:Nat} {b:Blk} {s:Sto} {n I k:Int} {op:Int→Int}
theorem yM (h:Ctx w B b s n I) (ht:dW w T V M b n I k op) (i:Int):Calls Tryz.prog 62 #[mu B T,.int .i64 i] w (Ends B b n I [] w s (tell (xc I i 2)) fun x e _=>e=.returned (bH x)):=by
 refine aQ fun R H=>?_
 have S0:=Lib.hid (Stp.start h (by simp) H)
 have S:=Lib.hid ((S0.out.alloc w.heap.size rfl (dB B T) 97).alloc (w.heap.size+1) (by simp) (aH Ii.zero) 103)
 have HC:=Lib.hid (fun W (hc:Ctx W B b s n I) (hr:dW W T V M b n I k op)=>qd hc hr i 2 (by decide))
 have HTR:=Lib.hid ht
 clear h H S0 ht
 go_enter Tryz.func62,Tryz.ntmps62
 go_wp2_with (first
  | (with_reducible refine af wU (S.out.get 0 _ rfl) rfl rfl (.tmp 2) rfl rfl ?_)
  | (go_at_call 125;refine (HC.out _ S.out.ctx (HTR.out.stp S.out (by simp))).mono ?_;intro e w1 hE;rcases S.out.last hE with ⟨rfl,hR⟩ | ⟨x,s1,L1,_,⟨rfl,_⟩,S2⟩;(exact ⟨rfl,hR⟩);clear hE;replace S:=Lib.hid S2;clear S2)
  | ((with_reducible refine ak (vs:=aH x) cz (S.out.get 1 _ rfl) ?_ ?_ (aJ _) rfl (.tmp 4) (.tmp 7) rfl ?_ ?_ ?_);(exact rfl);(exact rfl);(exact rfl);(exact rfl)))
 have S2:=Lib.hid (S.out.put 1 _ rfl (aH x) rfl)
 exact bodyPost_ret (aC cz _ 4 rfl _ (S2.out.get 1 _ rfl) rfl rfl) rfl (S2.out.done rfl)
theorem Gg (h:Ctx w B b s n I) (ht:dW w T V M b n I k op) (i:Int):Calls Tryz.prog 130 #[mu B T,.int .i64 i] w (Ends B b n I [] w s (tell (xc I i 5)) fun x e _=>e=.returned (bH x)):=by
 refine aQ fun R H=>?_
 have S0:=Lib.hid (Stp.start h (by simp) H)
 have S:=Lib.hid ((S0.out.alloc w.heap.size rfl (dB B T) 97).alloc (w.heap.size+1) (by simp) (aH Ii.zero) 103)
 have HC:=Lib.hid (fun W (hc:Ctx W B b s n I) (hr:dW W T V M b n I k op)=>qd hc hr i 5 (by decide))
 have HTR:=Lib.hid ht
 clear h H S0 ht
 go_enter Tryz.func130,Tryz.ntmps130
 go_wp2_with (first
  | (with_reducible refine af wU (S.out.get 0 _ rfl) rfl rfl (.tmp 2) rfl rfl ?_)
  | (go_at_call 125;refine (HC.out _ S.out.ctx (HTR.out.stp S.out (by simp))).mono ?_;intro e w1 hE;rcases S.out.last hE with ⟨rfl,hR⟩ | ⟨x,s1,L1,_,⟨rfl,_⟩,S2⟩;(exact ⟨rfl,hR⟩);clear hE;replace S:=Lib.hid S2;clear S2)
  | ((with_reducible refine ak (vs:=aH x) cz (S.out.get 1 _ rfl) ?_ ?_ (aJ _) rfl (.tmp 4) (.tmp 7) rfl ?_ ?_ ?_);(exact rfl);(exact rfl);(exact rfl);(exact rfl)))
 have S2:=Lib.hid (S.out.put 1 _ rfl (aH x) rfl)
 exact bodyPost_ret (aC cz _ 4 rfl _ (S2.out.get 1 _ rfl) rfl rfl) rfl (S2.out.done rfl)
theorem uM (h:Ctx w B b s n I) (i:Int):Calls Tryz.prog 52 #[mu B T,.int .i64 i] w (Ends B b n I [] w s (uc I i) fun x e _=>e=.returned (fH i x)):=by
 unfold uc
 refine aQ fun R H=>?_
 have S0:=Lib.hid (Stp.start h (by simp) H)
 have S:=Lib.hid ((S0.out.alloc w.heap.size rfl (dB B T) 97).alloc (w.heap.size+1) (by simp) (aZ 0 Ii.zero) 33)
 have c0:=(S.out.get 0 _ rfl).cell 0 _ rfl
 have HC:=Lib.hid (fun W (hc:Ctx W B b s n I)=>iq hc i)
 have HA:=Lib.hid (fun W x=>Be i x W)
 clear h H S0
 go_enter Tryz.func52,Tryz.ntmps52
 go_wp2_with (first
  | (go_at_call 111;refine (HC.out _ S.out.ctx).mono ?_;intro e w1 hE;rcases S.out.last hE with ⟨rfl,hR⟩ | ⟨x,s1,L1,_,⟨rfl,_⟩,S2⟩;(exact ⟨rfl,hR⟩);clear hE;replace S:=Lib.hid S2;clear S2)
  | (go_at_call 61;refine (HA.out _ _).mono ?_;rintro e w2 ⟨rfl,hb⟩;replace S:=Lib.hid (S.out.below hb);clear hb;change Hid (Stp _ _ _ _ _ _ _ _ _ _ _ w2) at S;rw [show fH i x=.agg (aZ i x).toArray from rfl])
  | ((with_reducible refine ak (vs:=aZ i x) de (S.out.get 1 _ rfl) ?_ ?_ (bq _ _) rfl (.tmp 4) (.tmp 10) rfl ?_ ?_ ?_);(exact rfl);(exact rfl);(exact rfl);(exact rfl)))
 have S2:=Lib.hid (S.out.put 1 _ rfl (aZ i x) rfl)
 exact bodyPost_ret (aC de _ 4 rfl _ (S2.out.get 1 _ rfl) rfl rfl) rfl (S2.out.done rfl)
theorem qo (h:Ctx w B b s n I) (ht:dW w T V M b n I k op) (x:Ino):Calls Tryz.prog 50 #[mu B T,bH x] w (Ends B b n I [] w s (jf n I x) fun y e _=>e=.returned (bH y)):=by
 unfold jf
 refine aQ fun R H=>?_
 have S0:=Lib.hid (Stp.start h (by simp) H)
 have S:=Lib.hid (((S0.out.alloc w.heap.size rfl (dB B T) 97).alloc (w.heap.size+1) (by simp) (aH x) 103).alloc (w.heap.size+2) (by simp) (aH Ii.zero) 103)
 have c0:=(S.out.get 0 _ rfl).cell 0 _ rfl
 have c1:=(S.out.get 0 _ rfl).cell 1 _ rfl
 have HV:=Lib.hid (fun W (hr:dW W T V M b n I k op)=>kL hr.row)
 have HP:=Lib.hid (fun W (hr:dW W T V M b n I k op)=>kI hr.vol)
 have HR:=Lib.hid (fun W=>qI n I x W)
 have HF:=Lib.hid (fun W (hc:Ctx W B b s n I)=>cM hc 22 (by decide))
 have HTR:=Lib.hid ht
 clear h H S0 ht
 have S1:=Lib.hid (S.out.of (m':=if Ii.kd n I x=true then ret x else fail 22) rfl)
 clear S c0 c1
 generalize Ii.kd n I x=r at HR S1
 unfold bH
 go_enter Tryz.func50,Tryz.ntmps50
 go_wp2_with fail
 refine fN (C:=Stp R B b n I [] w _ _ s _) (by kernel_rfl) S1.out.drew ?_
 refine ic cz rfl (.tmp 3) rfl rfl (by kernel_rfl) (fun _ hC=>hC.get 1 _ rfl) ?_
 try simp only [Act.put,puA,puB,puC]
 refine bD (.pointer (some ⟨w.heap.size,1,none⟩)) (by kernel_rfl) ?_ ?_
 ·(intro _ _;go_simp)
 try simp only [Act.put,puA,puB,puC]
 refine bD (.pointer (some ⟨T,0,none⟩)) (by kernel_rfl) ?_ ?_
 ·(intro W hC;have c:=(hC.get 0 _ rfl).cell 1 _ rfl;go_simp)
 try simp only [Act.put,puA,puB,puC]
 refine ep 20 #[.pointer (some ⟨T,0,none⟩)] (.pointer (some ⟨V,0,none⟩)) (by kernel_rfl) (fun _=>by go_simp) (fun W hC=>(HV.out W (HTR.out.stp hC (by simp))).mono fun _ _ h=>⟨h.1,h.2 ▸ hC⟩) ?_
 try simp only [Act.put,puA,puB,puC]
 refine ep 103 #[.pointer (some ⟨V,0,none⟩)] (bz n I) (by kernel_rfl) (fun _=>by go_simp) (fun W hC=>(HP.out W (HTR.out.stp hC (by simp))).mono fun _ _ h=>⟨h.1,hC.below h.2⟩) ?_
 try simp only [Act.put,puA,puB,puC]
 refine ep 110 #[.agg (aH x).toArray,bz n I] (.bool r) (by kernel_rfl) (fun _=>by go_simp) (fun W hC=>(HR.out W).mono fun _ _ h=>⟨h.1,hC.below h.2⟩) ?_
 try simp only [Act.put,puA,puB,puC]
 refine bD (.bool (!r)) (by kernel_rfl) ?_ ?_
 ·(intro _ _;go_simp)
 try simp only [Act.put,puA,puB,puC]
 refine wpQuiet_nil ?_
 intro W hC
 have S:=Lib.hid hC
 clear hC S1
 cases r with
 |
  true=>
  replace S:=Lib.hid (S.out.of (m':=ret x) (by rw [if_pos rfl]))
  go_wp2_with (first
   | (with_reducible refine af cz (S.out.get 1 _ rfl) rfl rfl (.tmp 3) rfl rfl ?_)
   | ((with_reducible refine ak (vs:=aH x) cz (S.out.get 2 _ rfl) ?_ ?_ (aJ _) rfl (.tmp 4) (.tmp 15) rfl ?_ ?_ ?_);(exact rfl);(exact rfl);(exact rfl);(exact rfl)))
  have S2:=Lib.hid (S.out.put 2 _ rfl (aH x) rfl)
  exact bodyPost_ret (aC cz _ 4 rfl _ (S2.out.get 2 _ rfl) rfl rfl) rfl (S2.out.done rfl)
 |
  false=>
  replace S:=Lib.hid (S.out.of (m':=fail 22) (by rw [if_neg (by decide)]))
  have c9:=(S.out.get 0 _ rfl).cell 0 _ rfl
  go_wp2_with (go_at_call 58;refine (HF.out _ S.out.ctx).mono ?_;rintro e w4 ⟨rfl,hB,hO⟩)
  exact ⟨rfl,S.out.ma (eo.err rfl) (by decide) hB hO⟩
theorem jg (h:Ctx w B b s n I) (ht:dW w T V M b n I k op) (i:Int):Calls Tryz.prog 49 #[mu B T,.int .i64 i] w (Ends B b n I [] w s (jY I i) fun _ e _=>e=.returned (lA B i)):=by
 unfold jY
 refine aQ fun R H=>?_
 have S0:=Lib.hid (Stp.start h (by simp) H)
 have S:=Lib.hid ((S0.out.alloc w.heap.size rfl (dB B T) 97).alloc (w.heap.size+1) (by simp) [.pointer none,.int .i64 0] 99)
 have HC:=Lib.hid (fun W (hc:Ctx W B b s n I) (hr:dW W T V M b n I k op)=>yM hc hr i)
 have HO:=Lib.hid (fun W s (hc:Ctx W B b s n I)=>Cy hc i)
 have HF:=Lib.hid (fun W s (hc:Ctx W B b s n I)=>cM hc 2 (by decide))
 have HTR:=Lib.hid ht
 clear h H S0 ht
 go_enter Tryz.func49,Tryz.ntmps49
 go_wp2_with (first
  | (with_reducible refine af wU (S.out.get 0 _ rfl) rfl rfl (.tmp 2) rfl rfl ?_)
  | (go_at_call 62;refine (HC.out _ S.out.ctx (HTR.out.stp S.out (by simp))).mono ?_;intro e w1 hE;rcases S.out.bind hE with ⟨rfl,hR⟩ | ⟨x,s1,L1,_,rfl,S2⟩;(exact ⟨rfl,hR⟩);clear hE;replace S:=Lib.hid S2;clear S2)
  | ((with_reducible refine ai (vs:=aH x) cz ?_ (aJ _) rfl (.tmp 5) (.tmp 9) rfl rfl ?_ ?_ ?_);(exact rfl);(exact rfl);(exact rfl);intro W4 hP hB2 hz2;replace S:=Lib.hid (S.out.made hP hB2 hz2);have c0:=(S.out.get 0 _ rfl).cell 0 _ rfl;clear hP hB2 hz2))
 refine (HO.out _ _ S.out.ctx).mono ?_
 intro e w2 hE
 rcases S.out.bind hE with ⟨rfl,hR⟩ | ⟨_,s2,L2,_,⟨rfl,_⟩,S2⟩
 ·exact ⟨rfl,hR⟩
 clear hE c0 S HC HO HTR
 by_cases hl:x.l=0
 ·have S:=Lib.hid (S2.of (m':=fail 2) (by rw [if_pos hl]))
  clear S2
  go_wp2_with (first
   | ((with_reducible refine ai (vs:=ea B i) mg ?_ (fC _ _) rfl (.tmp 6) (.tmp 13) rfl rfl ?_ ?_ ?_);(exact rfl);(exact rfl);(exact rfl);intro W5 hP hB2 hz2;replace S:=Lib.hid (S.out.made hP hB2 hz2);have cL:=(S.out.get 2 _ rfl).cell 3 _ rfl;rw [hl] at cL;have c0:=(S.out.get 0 _ rfl).cell 0 _ rfl;clear hP hB2 hz2)
   | (go_at_call 58;refine (HF.out _ _ S.out.ctx).mono ?_;rintro e w4 ⟨rfl,hB,hO⟩))
  exact ⟨rfl,S.out.ma (eo.err rfl) (by decide) hB hO⟩
 ·have S:=Lib.hid (S2.of (m':=ret ()) (by rw [if_neg hl]))
  have g0:(x.l == 0)=false:=by simpa using hl
  clear S2 hl
  go_wp2_with (first
   | ((with_reducible refine ai (vs:=ea B i) mg ?_ (fC _ _) rfl (.tmp 6) (.tmp 13) rfl rfl ?_ ?_ ?_);(exact rfl);(exact rfl);(exact rfl);intro W5 hP hB2 hz2;replace S:=Lib.hid (S.out.made hP hB2 hz2);have cL:=(S.out.get 2 _ rfl).cell 3 _ rfl;clear hP hB2 hz2)
   | (with_reducible refine af mg (S.out.get 3 _ rfl) rfl rfl (.tmp 6) rfl rfl ?_)
   | ((with_reducible refine ak (vs:=ea B i) mg (S.out.get 1 _ rfl) ?_ ?_ (fC _ _) rfl (.tmp 4) (.tmp 20) rfl ?_ ?_ ?_);(exact rfl);(exact rfl);(exact rfl);(exact rfl)))
  have S2:=Lib.hid (S.out.put 1 _ rfl (ea B i) rfl)
  exact bodyPost_ret (aC mg _ 4 rfl _ (S2.out.get 1 _ rfl) rfl rfl) rfl (S2.out.done rfl)
theorem qc (h:Ctx w B b s n I) (ht:dW w T V M b n I k op) (d:Int) (t:List UInt8):Calls Tryz.prog 67 #[mu B T,lA B d,.string (strOf t)] w (Ends B b n I [] w s (iR n I d t) fun r e _=>e=.returned (.tuple #[.int .i64 r.1,bH r.2])):=by
 unfold iR
 refine aQ fun R H=>?_
 have S0:=Lib.hid (Stp.start h (by simp) H)
 have S:=Lib.hid (((S0.out.alloc w.heap.size rfl (dB B T) 97).alloc (w.heap.size+1) (by simp) (ea B d) 99).alloc (w.heap.size+2) (by simp) (aH Ii.zero) 103)
 have HD:=Lib.hid (fun W (hc:Ctx W B b s n I)=>mh hc d t)
 have HL:=Lib.hid (fun W s (hc:Ctx W B b s n I) (hr:dW W T V M b n I k op) i=>Gg hc hr i)
 have HF:=Lib.hid (fun W s (hc:Ctx W B b s n I)=>cM hc 2 (by decide))
 have HTR:=Lib.hid ht
 clear h H S0 ht
 go_enter Tryz.func67,Tryz.ntmps67
 go_wp2_with (with_reducible refine af mg (S.out.get 1 _ rfl) rfl rfl (.tmp 4) rfl rfl ?_)
 refine (HD.out _ S.out.ctx).mono ?_
 intro e w2 hE
 rcases S.out.bind hE with ⟨rfl,hR⟩ | ⟨r,s2,L2,_,rfl,S2⟩
 ·exact ⟨rfl,hR⟩
 clear hE S HD
 by_cases h0:r=0
 ·have S:=Lib.hid (S2.of (m':=fail 2) (by rw [if_pos h0]))
  have c0:=(S.out.get 0 _ rfl).cell 0 _ rfl
  subst h0
  clear S2
  go_wp2_with (go_at_call 58;refine (HF.out _ _ S.out.ctx).mono ?_;rintro e w4 ⟨rfl,hB,hO⟩)
  exact ⟨rfl,S.out.ma (eo.err rfl) (by decide) hB hO⟩
 ·have S:=Lib.hid (S2.of (m':=andThen (tell (xc I r 5)) fun x=>ret (r,x)) (by rw [if_neg h0]))
  have g0:(r == 0)=false:=by simpa using h0
  clear S2 h0
  go_wp2_with (first
   | (with_reducible refine af wU (S.out.get 0 _ rfl) rfl rfl (.tmp 3) rfl rfl ?_)
   | (go_at_call 130;refine (HL.out _ _ S.out.ctx (HTR.out.stp S.out (by simp)) _).mono ?_;intro e w3 hE;rcases S.out.bind hE with ⟨rfl,hR⟩ | ⟨x,s3,L3,_,rfl,S2⟩;(exact ⟨rfl,hR⟩);clear hE;replace S:=Lib.hid S2;clear S2)
   | ((with_reducible refine ak (vs:=aH x) cz (S.out.get 2 _ rfl) ?_ ?_ (aJ _) rfl (.tmp 7) (.tmp 20) rfl ?_ ?_ ?_);(exact rfl);(exact rfl);(exact rfl);(exact rfl)))
  have S2:=Lib.hid (S.out.put 2 _ rfl (aH x) rfl)
  exact bodyPost_ret (zi cz _ 6 7 rfl _ (S2.out.get 2 _ rfl) rfl rfl rfl) rfl (S2.out.done rfl)
theorem AU (h:Ctx w B b s n I) (i:Int):Calls Tryz.prog 79 #[mu B T,.int .i64 i] w (Ends B b n I [] w s (AV n I i) fun _ e _=>e=.returned (.tuple #[])):=by
 unfold AV
 refine aQ fun R H=>?_
 have S0:=Lib.hid (Stp.start h (by simp) H)
 have S:=Lib.hid (S0.out.alloc w.heap.size rfl (dB B T) 97)
 have HO:=Lib.hid (fun W (hc:Ctx W B b s n I)=>Cy hc i)
 have HM:=Lib.hid (fun W s (hc:Ctx W B b s n I)=>wG hc i)
 have HF:=Lib.hid (fun W s (hc:Ctx W B b s n I)=>cM hc 39 (by decide))
 have c0:=(S.out.get 0 _ rfl).cell 0 _ rfl
 clear h H S0
 go_enter Tryz.func79,Tryz.ntmps79
 go_wp2_with (go_at_call 109;refine (HO.out _ S.out.ctx).mono ?_;intro e w1 hE;rcases S.out.bind hE with ⟨rfl,hR⟩ | ⟨_,s1,L1,_,⟨rfl,_⟩,S2⟩;(exact ⟨rfl,hR⟩);clear hE c0;replace S:=Lib.hid S2;clear S2)
 refine (HM.out _ _ S.out.ctx).mono ?_
 intro e w2 hE
 rcases S.out.bind hE with ⟨rfl,hR⟩ | ⟨r,s2,L2,_,rfl,S2⟩
 ·exact ⟨rfl,hR⟩
 clear hE S HO HM
 cases r with
 |
  true=>
  have S:=Lib.hid (S2.of (m':=ret ()) (by rw [if_pos rfl]))
  clear S2
  go_wp2_with fail
  go_end0
  exact S.out.done rfl
 |
  false=>
  have S:=Lib.hid (S2.of (m':=fail 39) (by rw [if_neg (by decide)]))
  have c0:=(S.out.get 0 _ rfl).cell 0 _ rfl
  clear S2
  go_wp2_with (go_at_call 58;refine (HF.out _ _ S.out.ctx).mono ?_;rintro e w4 ⟨rfl,hB,hO⟩)
  exact ⟨rfl,S.out.ma (eo.err rfl) (by decide) hB hO⟩
end
end Go.Proofs.YtagfoogfpabdfaaGreat

namespace Go.Proofs.YtagfoogfpabdfaaGreat

end Go.Proofs.YtagfoogfpabdfaaGreat
set_option maxRecDepth 100000
namespace Go.Proofs.YtagfoogfpabdfaaGreat
open Go.RowKit Go.Maps
open Dk (av aa)
open Ii (Ino)
theorem tk {w:World} {B:Nat} {b:Blk} {s:Sto} {n I:Int} (h:Ctx w B b s n I) (i:Int) (x:Ino):Calls Tryz.prog 83 #[.pointer (some ⟨B,0,none⟩),.int .i64 i,bH x] w (Ends B b n I [] w s (Fs.mn n I i x) fun _ e _=>e=.returned (.tuple #[])):=by
 refine aQ fun R H=>?_
 have S0:=Lib.hid (Stp.start h (by simp) H)
 have HW:Hid (∀ W was,Calls Tryz.prog 146 #[.agg (aH x).toArray,.agg (aH was).toArray] W fun e w'=>e=.returned (bH (Fs.lH x was))∧Below W.heap.size W w'):=Lib.hid (fun W was=>sG x was)
 unfold Fs.mn at S0
 clear h H
 unfold bH
 go_enter Tryz.func83,Tryz.ntmps83
 have HGO:=Lib.hid (fun W (hc:Ctx W B b s n I)=>dT hc)
 go_wp2_with fail
 generalize hw:World.alloc _ _=w1
 have S:Hid (Stp R B b n I [] w (fun _ e _=>e=.returned (.tuple #[])) [(w.heap.size,aH x)] s (Fs.andThen (Fs.tell (Fs.cV I i)) fun was=>Fs.andThen (Fs.kV n I (Fs.lH x was)) fun y=>Fs.sy i y) w1):=Lib.hid (by
  rw [← hw]
  exact S0.out.alloc w.heap.size rfl (aH x) _)
 clear hw S0
 go_wp2_with (first
  | (go_at_call 117;(with_reducible refine (HGO.out _ S.out.ctx).mono ?_);rintro e w2 ⟨rfl,rfl⟩)
  | (go_at_call 118;(with_reducible refine (gG S.out.ctx i).mono ?_);intro e w4 hE;rcases S.out.bind hE with ⟨rfl,hR⟩ | ⟨was,s4,L4,hi,rfl,S2⟩;(exact ⟨rfl,hR⟩);have hib:=ra (lJ hi);clear S hE hi;have S:=Lib.hid S2;clear S2)
  | ((with_reducible refine ai (vs:=aH was) cz ?_ (aJ _) rfl (.tmp 6) (.tmp 12) rfl rfl ?_ ?_ ?_);(exact rfl);(exact rfl);(exact rfl);intro W4 hP hB2 hz2;replace S:=Lib.hid (S.out.made hP hB2 hz2);clear hP hB2 hz2)
  | (with_reducible refine af cz (S.out.get 0 _ rfl) rfl rfl (.tmp 5) rfl rfl ?_)
  | (with_reducible refine af cz (S.out.get 1 _ rfl) rfl rfl (.tmp 6) rfl rfl ?_)
  | (go_at_call 146;(with_reducible refine (HW.out _ _).mono ?_);rintro e w3 ⟨rfl,hb⟩;replace S:=Lib.hid (S.out.below hb);clear hb)
  | (go_at_call 145;(with_reducible refine (kc S.out.ctx (Fs.lH x was)).mono ?_);intro e w4 hE;rcases S.out.bind hE with ⟨rfl,hR⟩ | ⟨y,s4,L4,_,rfl,S2⟩;(exact ⟨rfl,hR⟩);clear S hE;have S:=Lib.hid S2;clear S2)
  | (go_at_call 124;refine (kM S.out.ctx i y hib.1 hib.2).mono ?_;intro e w6 hE;rcases S.out.last hE with ⟨rfl,hR⟩ | ⟨_,s6,L6,_,rfl,S2⟩;(exact ⟨rfl,hR⟩);clear S hE;have S:=Lib.hid S2;clear S2))
 go_end0
 exact S.out.done rfl
end Go.Proofs.YtagfoogfpabdfaaGreat

namespace Go.Proofs.YtagfoogfpabdfaaGreat

end Go.Proofs.YtagfoogfpabdfaaGreat
set_option maxRecDepth 100000
namespace Go.Proofs.YtagfoogfpabdfaaGreat
open Go.RowKit Go.Maps
open Dk (av aa)
open Ii (Ino)
open Dm (Ent Has)
open Fs (M andThen tell ret fail)
def lX (n I:Int) (op:Int→Int) (i l:Int):M Unit:=andThen (uc I i) fun x=>andThen (Fs.mn n I i { x with l:=l }) fun _=>if l=0∧op i=0 then Fs.jN n I i else ret ()
def DB (n I:Int) (op:Int→Int) (i:Int):M Unit:=andThen (uc I i) fun x=>if 40≤x.l then fail 31 else lX n I op i (x.l+1)
def tQ (n I:Int) (op:Int→Int) (i:Int):M Unit:=andThen (uc I i) fun x=>lX n I op i (x.l - 1)
def qE (n I:Int) (op:Int→Int) (d i:Int) (x:Ino):M Unit:=if x.k=2 then andThen (tQ n I op d) fun _=>lX n I op i 0 else tQ n I op i
def kg (n I d:Int) (t:List UInt8) (x:Ino):M Int:=if Nm.chk t≠0 then fail (Nm.chk t) else andThen (iX n I d t) fun r=>if r≠0 then fail 17 else andThen (Fs.Ik n I x) fun i=>andThen (pr n I d t i) fun _=>ret i
theorem xX {I i:Int} {s s':Sto} {x:Ino} {L:List Nat} (h:tell (Fs.lv I i) (nv s)=(.ok x,nv s',L)):0≤x.l∧x.l<4294967296:=by
 have h:=lJ h
 unfold Fs.lv at h
 split at h
 ·injection h with h
  subst h
  exact Dn _ _
 ·cases h
section
variable {w:World} {B T V M:Nat} {b:Blk} {s:Sto} {n I k:Int} {op:Int→Int}
theorem oW (h:Ctx w B b s n I) (ht:dW w T V M b n I k op) (i l:Int) (hi:(Lit.int .i64 i).wf=true):Calls Tryz.prog 112 #[mu B T,.int .i64 i,.int .i64 l] w (Ends B b n I [] w s (lX n I op i l) fun _ e _=>e=.returned (.tuple #[])):=by
 unfold lX uc
 refine aQ fun R H=>?_
 have S0:=Lib.hid (Stp.start h (by simp) H)
 have S:=Lib.hid (S0.out.alloc w.heap.size rfl (dB B T) 97)
 have HI:=Lib.hid (fun W (hc:Ctx W B b s n I)=>iq hc i)
 have HC:Hid (∀ W s x,Ctx W B b s n I→Calls Tryz.prog 83 #[.pointer (some ⟨B,0,none⟩),.int .i64 i,.agg (aH x).toArray] W (Ends B b n I [] W s (Fs.mn n I i x) fun _ e _=>e=.returned (.tuple #[]))):=Lib.hid (fun W s x hc=>tk hc i x)
 have HR:=Lib.hid (fun W s (hc:Ctx W B b s n I)=>re hc i)
 have HTR:=Lib.hid ht
 have c0:=(S.out.get 0 _ rfl).cell 0 _ rfl
 clear h H S0 ht
 go_enter Tryz.func112,Tryz.ntmps112
 go_wp2_with (first
  | (go_at_call 111;refine (HI.out _ S.out.ctx).mono ?_;intro e w1 hE;rcases S.out.bind hE with ⟨rfl,hR⟩ | ⟨x,s1,L1,_,⟨rfl,_⟩,S2⟩;(exact ⟨rfl,hR⟩);clear hE c0;replace S:=Lib.hid S2;clear S2)
  | ((with_reducible refine ai (vs:=aH x) cz ?_ (aJ _) rfl (.tmp 6) (.tmp 10) rfl rfl ?_ ?_ ?_);(exact rfl);(exact rfl);(exact rfl);intro W4 hP hB2 hz2;replace S:=Lib.hid (S.out.made hP hB2 hz2);have fL:=(S.out.get 1 _ rfl).frozen 3 (show 3<11 by decide);have cL:=(S.out.get 1 _ rfl).cell 3 _ rfl;have S9:=Lib.hid (S.out.one 1 _ rfl 3 (.int .i64 l) (aH { x with l:=l }) (show 3+1≤11 by decide) rfl);have c1:=(S9.out.get 0 _ rfl).cell 0 _ rfl;clear hP hB2 hz2 S)
  | (with_reducible refine af cz (S9.out.get 1 _ rfl) rfl rfl (.tmp 6) rfl rfl ?_))
 refine (HC.out _ _ _ S9.out.ctx).mono ?_
 intro e w5 hE
 rcases S9.out.bind hE with ⟨rfl,hR⟩ | ⟨_,s5,L5,_,rfl,S2⟩
 ·exact ⟨rfl,hR⟩
 clear hE S9 c1 cL fL HI HC
 have cA:=(S2.get 0 _ rfl).cell 0 _ rfl
 have cB:=(S2.get 0 _ rfl).cell 1 _ rfl
 have cT:=(HTR.out.stp S2 (by simp)).row.cell 1 _ rfl
 have hlk:=(HTR.out.stp S2 (by simp)).map.look i hi
 by_cases hl:l=0
 ·subst hl
  by_cases ho:op i=0
  ·have S:=Lib.hid (S2.of (m':=Fs.jN n I i) (by rw [if_pos ⟨rfl,ho⟩]))
   rw [ho] at hlk
   clear S2 ho
   go_wp2_with (go_at_call 93;refine (HR.out _ _ S.out.ctx).mono ?_;intro e w6 hE;rcases S.out.last hE with ⟨rfl,hR⟩ | ⟨_,s6,L6,_,rfl,S2⟩;(exact ⟨rfl,hR⟩);clear hE;replace S:=Lib.hid S2;clear S2)
   go_end0
   exact S.out.done rfl
  ·have S:=Lib.hid (S2.of (m':=ret ()) (by rw [if_neg (fun q=>ho q.2)]))
   have g0:(op i == 0)=false:=by simpa using ho
   generalize op i=oi at hlk g0
   clear S2 ho
   go_wp2_with fail
   go_end0
   exact S.out.done rfl
 ·have S:=Lib.hid (S2.of (m':=ret ()) (by rw [if_neg (fun q=>hl q.1)]))
  have g0:(l == 0)=false:=by simpa using hl
  clear S2 hl hlk
  go_wp2_with fail
  go_end0
  exact S.out.done rfl
theorem DA (h:Ctx w B b s n I) (ht:dW w T V M b n I k op) (i:Int) (hi:(Lit.int .i64 i).wf=true):Calls Tryz.prog 51 #[mu B T,.int .i64 i] w (Ends B b n I [] w s (DB n I op i) fun _ e _=>e=.returned (.tuple #[])):=by
 unfold DB uc
 refine aQ fun R H=>?_
 have S0:=Lib.hid (Stp.start h (by simp) H)
 have S:=Lib.hid (S0.out.alloc w.heap.size rfl (dB B T) 97)
 have HI:=Lib.hid (fun W (hc:Ctx W B b s n I)=>iq hc i)
 have HK:Hid (∀ W s l,Ctx W B b s n I→dW W T V M b n I k op→Calls Tryz.prog 112 #[.agg (dB B T).toArray,.int .i64 i,.int .i64 l] W (Ends B b n I [] W s (lX n I op i l) fun _ e _=>e=.returned (.tuple #[]))):=Lib.hid (fun W s l hc hr=>oW hc hr i l hi)
 have HF:=Lib.hid (fun W s (hc:Ctx W B b s n I)=>cM hc 31 (by decide))
 have HTR:=Lib.hid ht
 have c0:=(S.out.get 0 _ rfl).cell 0 _ rfl
 clear h H S0 ht
 go_enter Tryz.func51,Tryz.ntmps51
 go_wp2_with fail
 refine (HI.out _ S.out.ctx).mono ?_
 intro e w1 hE
 rcases S.out.bind hE with ⟨rfl,hR⟩ | ⟨x,s1,L1,E1,⟨rfl,_⟩,S2⟩
 ·exact ⟨rfl,hR⟩
 obtain ⟨b1,b2⟩:=xX E1
 clear hE c0 S HI E1
 by_cases hl:40≤x.l
 ·have S:=Lib.hid (S2.of (m':=fail 31) (by rw [if_pos hl]))
  have g0:decide (40≤x.l)=true:=by simpa using hl
  clear S2 b1 b2
  go_wp2_with (first
   | ((with_reducible refine ai (vs:=aH x) cz ?_ (aJ _) rfl (.tmp 4) (.tmp 8) rfl rfl ?_ ?_ ?_);(exact rfl);(exact rfl);(exact rfl);intro W4 hP hB2 hz2;replace S:=Lib.hid (S.out.made hP hB2 hz2);have cL:=(S.out.get 1 _ rfl).cell 3 _ rfl;have c0:=(S.out.get 0 _ rfl).cell 0 _ rfl;clear hP hB2 hz2)
   | (go_at_call 58;refine (HF.out _ _ S.out.ctx).mono ?_;rintro e w4 ⟨rfl,hB,hO⟩))
  exact ⟨rfl,S.out.ma (eo.err rfl) (by decide) hB hO⟩
 ·have S:=Lib.hid (S2.of (m':=lX n I op i (x.l+1)) (by rw [if_neg hl]))
  have g0:decide (40≤x.l)=false:=by simpa using hl
  have g1:x.l<40:=by omega
  clear S2 b2
  go_wp2_with (first
   | ((with_reducible refine ai (vs:=aH x) cz ?_ (aJ _) rfl (.tmp 4) (.tmp 8) rfl rfl ?_ ?_ ?_);(exact rfl);(exact rfl);(exact rfl);intro W4 hP hB2 hz2;replace S:=Lib.hid (S.out.made hP hB2 hz2);have cL:=(S.out.get 1 _ rfl).cell 3 _ rfl;clear hP hB2 hz2)
   | (with_reducible refine af wU (S.out.get 0 _ rfl) rfl rfl (.tmp 2) rfl rfl ?_)
   | (go_at_call 112;refine (HK.out _ _ _ S.out.ctx (HTR.out.stp S.out (by simp))).mono ?_;intro e w6 hE;rcases S.out.last hE with ⟨rfl,hR⟩ | ⟨_,s6,L6,_,rfl,S2⟩;(exact ⟨rfl,hR⟩);clear hE;replace S:=Lib.hid S2;clear S2))
  go_end0
  exact S.out.done rfl
theorem fW {X o B T:Nat} (w:World) (h:w.rangeAt X o (dB B T)):(loadVar 97 ⟨X,o,none⟩).run Tryz.prog w=.ok (.agg (dB B T).toArray) w:=
 run_loadVar_mid (P:=Tryz.prog) w X o 97 (dB B T) _ h Tryz.underlying97 rfl (by kernel_rfl)
def LsS (R:Ending→World→Prop) (B:Nat) (b:Blk) (n I:Int) (w0:World) (K:Unit→Ending→World→Prop) (l:List (Nat × List Value)) (s:Sto) (m:Fs.M Unit) (f:Ino→Fs.M Unit):Option (Option Ino)→World→Prop
 | none,W=>∃ s',Stp R B b n I [] w0 K l s' (ret ()) W
 | some none,W=>Stp R B b n I [] w0 K l s m W
 | some (some x),W=>(∃ s',Stp R B b n I [] w0 K l s' (f x) W)∧0≤x.l∧x.l<4294967296
section
variable {R:Ending→World→Prop} {w0 W:World} {K:Unit→Ending→World→Prop} {l:List (Nat × List Value)} {m:Fs.M Unit} {f:Ino→Fs.M Unit}
theorem LsS.lo:∀ {k:Option (Option Ino)},LsS R B b n I w0 K l s m f k W→Lo [b.t] w0 l W
 | none,⟨_,h⟩=>Stp.lo h
 | some none,h=>Stp.lo h
 | some (some _),⟨⟨_,h⟩,_⟩=>Stp.lo h
theorem LsS.start (h:LsS R B b n I w0 K l s m f (some none) W):Stp R B b n I [] w0 K l s m W:=h
theorem LsS.mid {x:Ino} (h:LsS R B b n I w0 K l s m f (some (some x)) W):(∃ s',Stp R B b n I [] w0 K l s' (f x) W)∧0≤x.l∧x.l<4294967296:=h
theorem LsS.done (h:LsS R B b n I w0 K l s m f none W):∃ s',Stp R B b n I [] w0 K l s' (ret ()) W:=h
end
theorem CO (h:Ctx w B b s n I) (ht:dW w T V M b n I k op) (i:Int) (hi:(Lit.int .i64 i).wf=true):Calls Tryz.prog 75 #[mu B T,.int .i64 i] w (Ends B b n I [] w s (tQ n I op i) fun _ e _=>e=.returned (.tuple #[])):=by
 unfold tQ uc
 refine aQ fun R H=>?_
 have S0:=Lib.hid (Stp.start h (by simp) H)
 have S:=Lib.hid (S0.out.alloc w.heap.size rfl (dB B T) 97)
 have HI:=Lib.hid (fun W (hc:Ctx W B b s n I)=>iq hc i)
 have HK:Hid (∀ W s l,Ctx W B b s n I→dW W T V M b n I k op→Calls Tryz.prog 112 #[.agg (dB B T).toArray,.int .i64 i,.int .i64 l] W (Ends B b n I [] W s (lX n I op i l) fun _ e _=>e=.returned (.tuple #[]))):=Lib.hid (fun W s l hc hr=>oW hc hr i l hi)
 have HTR:=Lib.hid ht
 clear h H S0 ht hi
 go_enter Tryz.func75,Tryz.ntmps75
 go_wp2_with fail
 refine aO (LsS R B b n I w (fun _ e _=>e=.returned (.tuple #[])) [(w.heap.size,dB B T)] s (andThen (tell (Fs.lv I i)) fun x=>lX n I op i (x.l - 1)) (fun x=>lX n I op i (x.l - 1))) (fun ch W=>ch=[bn B]∧R (.panicked [bn B]) W) (fun ix=>ix == 8 || ix == 7 || ix == 6 || ix == 5) (fun ix=>[.agg (dB B T).toArray,.int .i64 i,.pointer (some ⟨w.heap.size,0,none⟩),.pointer (some ⟨B,0,none⟩),.int .i64 i].getD ix undef) (some none) (by kernel_rfl) (by kernel_rfl) (fun ch a' W hd hh=>?_) S.out.drew ?_
 ·exact ⟨hd,by obtain ⟨rfl,hR⟩:=hh;exact hR⟩
 refine ag (i:=0) (d:=some 4) (v:=(.agg (dB B T).toArray)) rfl rfl (by kernel_rfl) (by kernel_rfl) rfl rfl (bM fW (by kernel_rfl) (.tmp 2) rfl rfl (fun k W hS=>((LsS.lo hS).get 0 _ rfl).range)) ?_
 try simp only [Act.put,puA,puB,puC]
 refine ag (i:=1) (d:=some 5) (v:=(.int .i64 i)) rfl rfl (by kernel_rfl) (by kernel_rfl) rfl rfl (ae (by kernel_rfl) ?_) ?_
 ·((intro _ _ _;go_simp) <;> kernel_rfl)
 try simp only [Act.put,puA,puB,puC]
 refine ag (i:=2) (d:=some 6) (v:=(.pointer (some ⟨w.heap.size,0,none⟩))) rfl rfl (by kernel_rfl) (by kernel_rfl) rfl rfl (ae (by kernel_rfl) ?_) ?_
 ·((intro _ _ _;go_simp) <;> kernel_rfl)
 try simp only [Act.put,puA,puB,puC]
 refine ag (i:=3) (d:=some 7) (v:=(.pointer (some ⟨B,0,none⟩))) rfl rfl (by kernel_rfl) (by kernel_rfl) rfl rfl (ae (by kernel_rfl) ?_) ?_
 ·(intro sZ wZ hZ;have cZ:=(fun k W hS=>((LsS.lo hS).get 0 _ rfl).cell 0 _ rfl) sZ wZ hZ;go_simp)
 try simp only [Act.put,puA,puB,puC]
 refine ag (i:=4) (d:=some 8) (v:=(.int .i64 i)) rfl rfl (by kernel_rfl) (by kernel_rfl) rfl rfl (ae (by kernel_rfl) ?_) ?_
 ·((intro _ _ _;go_simp) <;> kernel_rfl)
 try simp only [Act.put,puA,puB,puC]
 refine cO (i:=5) (d:=some 9) [6,7,8] (fun u k=>∃ x,u=bH x∧k=some (some x)) rfl rfl (by kernel_rfl) (by kernel_rfl) rfl (by kernel_rfl) ⟨_,_,Ii.zero,rfl,rfl⟩ (by kernel_rfl) (bm (f:=111) (args:=#[.pointer (some ⟨B,0,none⟩),.int .i64 i]) ?_ (fun W hS=>by
  refine (HI.out _ (LsS.start hS).ctx).mono fun e w' hE=>?_
  rcases (LsS.start hS).bind hE with ⟨rfl,hR⟩ | ⟨x,s8,L8,E8,⟨rfl,_⟩,S2⟩
  ·exact Or.inr ⟨_,rfl,rfl,hR⟩
  ·exact Or.inl ⟨_,rfl,some (some x),⟨x,rfl,rfl⟩,⟨⟨s8,S2⟩,xX E8⟩⟩)) ?_
 ·(intro _;go_simp)
 rintro _ _ ⟨x,rfl,rfl⟩
 try simp only [Act.put,puA,puB,puC]
 refine cO (i:=6) (d:=some 10) [7,8] (fun u k=>u=.int .i64 x.l∧k=some (some x)) rfl rfl (by kernel_rfl) (by kernel_rfl) rfl (by kernel_rfl) ⟨_,_,rfl,rfl⟩ (by kernel_rfl) (fun W hS=>cJ (iI (v:=.int .i64 x.l) ?_ ⟨some (some x),⟨rfl,rfl⟩,hS⟩)) ?_
 ·(go_simp) <;> kernel_rfl
 rintro _ _ ⟨rfl,rfl⟩
 try simp only [Act.put,puA,puB,puC]
 refine cO (i:=7) (d:=some 11) [8] (fun u k=>u=.int .i64 (x.l - 1)∧k=some (some x)) rfl rfl (by kernel_rfl) (by kernel_rfl) rfl (by kernel_rfl) ⟨_,_,rfl,rfl⟩ (by kernel_rfl) (fun W hS=>cJ (iI (v:=.int .i64 (x.l - 1)) ?_ ⟨some (some x),⟨rfl,rfl⟩,hS⟩)) ?_
 ·obtain ⟨_,b1,b2⟩:=LsS.mid hS
  go_simp
  try exact IntWalk.i64_in _ (by omega)
 rintro _ _ ⟨rfl,rfl⟩
 try simp only [Act.put,puA,puB,puC]
 refine bw (i:=8) (d:=some 12) (fun u k=>u=.tuple #[]∧k=none) rfl rfl (by kernel_rfl) (by kernel_rfl) rfl (by kernel_rfl) ⟨_,_,rfl,rfl⟩ (by kernel_rfl) (bm (f:=112) (args:=#[.agg (dB B T).toArray,.int .i64 i,.int .i64 (x.l - 1)]) ?_ (fun W hS=>by
  obtain ⟨⟨s8,S8⟩,_⟩:=LsS.mid hS
  refine (HK.out _ _ _ S8.ctx (HTR.out.stp S8 (by simp))).mono fun e w' hE=>?_
  rcases S8.last hE with ⟨rfl,hR⟩ | ⟨_,s9,L9,_,rfl,S2⟩
  ·exact Or.inr ⟨_,rfl,rfl,hR⟩
  ·exact Or.inl ⟨_,rfl,none,⟨rfl,rfl⟩,⟨s9,S2⟩⟩)) ?_
 ·(intro _;go_simp)
 rintro _ _ ⟨rfl,rfl⟩
 try simp only [Act.put,puA,puB,puC]
 refine cH (by kernel_rfl) fun W hS=>?_
 obtain ⟨s9,S9⟩:=LsS.done hS
 go_wp2_with fail
 go_end0
 exact S9.done rfl
theorem zY (h:Ctx w B b s n I) (ht:dW w T V M b n I k op) (d i:Int) (x:Ino) (hi:(Lit.int .i64 i).wf=true) (hd:(Lit.int .i64 d).wf=true):Calls Tryz.prog 80 #[mu B T,lA B d,.int .i64 i,bH x] w (Ends B b n I [] w s (qE n I op d i x) fun _ e _=>e=.returned (.tuple #[])):=by
 refine aQ fun R H=>?_
 have S0:=Lib.hid (Stp.start h (by simp) H)
 have S:=Lib.hid (((S0.out.alloc w.heap.size rfl (dB B T) 97).alloc (w.heap.size+1) (by simp) (ea B d) 99).alloc (w.heap.size+2) (by simp) (aH x) 103)
 have HTR:=Lib.hid ht
 have cK:=(S.out.get 2 _ rfl).cell 0 _ rfl
 have HL:Hid (∀ W s i,(Lit.int .i64 i).wf=true→Ctx W B b s n I→dW W T V M b n I k op→Calls Tryz.prog 75 #[.agg (dB B T).toArray,.int .i64 i] W (Ends B b n I [] W s (tQ n I op i) fun _ e _=>e=.returned (.tuple #[]))):=Lib.hid (fun W s i hi hc hr=>CO hc hr i hi)
 have HK:Hid (∀ W s,Ctx W B b s n I→dW W T V M b n I k op→Calls Tryz.prog 112 #[.agg (dB B T).toArray,.int .i64 i,.int .i64 0] W (Ends B b n I [] W s (lX n I op i 0) fun _ e _=>e=.returned (.tuple #[]))):=Lib.hid (fun W s hc hr=>oW hc hr i 0 hi)
 have HI:=Lib.hid hi
 have HD:=Lib.hid hd
 unfold qE at S
 clear h H S0 ht hi hd
 unfold bH
 by_cases hk:x.k=2
 ·replace S:=Lib.hid (S.out.of (m':=andThen (tQ n I op d) fun _=>lX n I op i 0) (by rw [if_pos hk]))
  have g0:(x.k != 2)=false:=by rw [hk];rfl
  have cD:=(S.out.get 1 _ rfl).cell 1 _ rfl
  clear hk
  go_enter Tryz.func80,Tryz.ntmps80
  go_wp2_with (first
   | (with_reducible refine af wU (S.out.get 0 _ rfl) rfl rfl (.tmp 4) rfl rfl ?_)
   | (go_at_call 75;refine (HL.out _ _ _ HD.out S.out.ctx (HTR.out.stp S.out (by simp))).mono ?_;intro e w1 hE;rcases S.out.bind hE with ⟨rfl,hR⟩ | ⟨_,s1,L1,_,rfl,S2⟩;(exact ⟨rfl,hR⟩);clear hE cD cK;replace S:=Lib.hid S2;clear S2)
   | (go_at_call 112;refine (HK.out _ _ S.out.ctx (HTR.out.stp S.out (by simp))).mono ?_;intro e w2 hE;rcases S.out.last hE with ⟨rfl,hR⟩ | ⟨_,s2,L2,_,rfl,S2⟩;(exact ⟨rfl,hR⟩);clear hE;replace S:=Lib.hid S2;clear S2))
  go_end0
  exact S.out.done rfl
 ·replace S:=Lib.hid (S.out.of (m':=tQ n I op i) (by rw [if_neg hk]))
  have g0:(x.k != 2)=true:=by simpa using hk
  clear hk
  go_enter Tryz.func80,Tryz.ntmps80
  go_wp2_with (first
   | (with_reducible refine af wU (S.out.get 0 _ rfl) rfl rfl (.tmp 4) rfl rfl ?_)
   | (go_at_call 75;refine (HL.out _ _ _ HI.out S.out.ctx (HTR.out.stp S.out (by simp))).mono ?_;intro e w1 hE;rcases S.out.last hE with ⟨rfl,hR⟩ | ⟨_,s1,L1,_,rfl,S2⟩;(exact ⟨rfl,hR⟩);clear hE cK;replace S:=Lib.hid S2;clear S2))
  go_end0
  exact S.out.done rfl
theorem qQ (h:Ctx w B b s n I) (d:Int) (t:List UInt8) (x:Ino) (hm:(strOf t).size≤maxLen):Calls Tryz.prog 53 #[mu B T,lA B d,.string (strOf t),bH x] w (Ends B b n I [] w s (kg n I d t x) fun i e _=>e=.returned (.int .i64 i)):=by
 unfold kg
 refine aQ fun R H=>?_
 have S0:=Lib.hid (Stp.start h (by simp) H)
 have S:=Lib.hid (((S0.out.alloc w.heap.size rfl (dB B T) 97).alloc (w.heap.size+1) (by simp) (ea B d) 99).alloc (w.heap.size+2) (by simp) (aH x) 103)
 have HC:Hid (∀ W,Calls Tryz.prog 113 #[.string (strOf t)] W fun e w'=>e=.returned (.int .i64 (Nm.chk t))∧Below W.heap.size W w'):=Lib.hid (fun W=>by have:=pA (strOf t) W hm;rw [eU] at this;exact this)
 have HD:Hid (∀ W s,Ctx W B b s n I→Calls Tryz.prog 73 #[.agg (ea B d).toArray,.string (strOf t)] W (Ends B b n I [] W s (iX n I d t) fun r e _=>e=.returned (.int .i64 r))):=Lib.hid (fun W s hc=>mh hc d t)
 have HN:Hid (∀ W s,Ctx W B b s n I→Calls Tryz.prog 114 #[.pointer (some ⟨B,0,none⟩),.agg (aH x).toArray] W (Ends B b n I [] W s (Fs.Ik n I x) fun i e _=>e=.returned (.int .i64 i))):=Lib.hid (fun W s hc=>By hc x)
 have HA:Hid (∀ W s i,Ctx W B b s n I→Calls Tryz.prog 74 #[.agg (ea B d).toArray,.string (strOf t),.int .i64 i] W (Ends B b n I [] W s (pr n I d t i) fun _ e _=>e=.returned (.tuple #[]))):=Lib.hid (fun W s i hc=>ux hc d t i hm)
 have HF:=Lib.hid (fun W s er (h0:er≠0) (hc:Ctx W B b s n I)=>cM hc er h0)
 clear h H S0 hm
 unfold bH
 by_cases hc:Nm.chk t=0
 ·replace S:=Lib.hid (S.out.of (m':=andThen (iX n I d t) fun r=>if r≠0 then fail 17 else andThen (Fs.Ik n I x) fun i=>andThen (pr n I d t i) fun _=>ret i) (by rw [if_neg (by simpa using hc)]))
  rw [hc] at HC
  clear hc
  go_enter Tryz.func53,Tryz.ntmps53
  go_wp2_with (first
   | (go_at_call 113;refine (HC.out _).mono ?_;rintro e w1 ⟨rfl,hb⟩;replace S:=Lib.hid (S.out.below hb);clear hb)
   | (with_reducible refine af mg (S.out.get 1 _ rfl) rfl rfl (.tmp 5) rfl rfl ?_))
  refine (HD.out _ _ S.out.ctx).mono ?_
  intro e w2 hE
  rcases S.out.bind hE with ⟨rfl,hR⟩ | ⟨r,s2,L2,_,rfl,S2⟩
  ·exact ⟨rfl,hR⟩
  clear hE S HD HC
  by_cases h0:r=0
  ·have S:=Lib.hid (S2.of (m':=andThen (Fs.Ik n I x) fun i=>andThen (pr n I d t i) fun _=>ret i) (by rw [if_neg (by simpa using h0)]))
   have c0:=(S.out.get 0 _ rfl).cell 0 _ rfl
   subst h0
   clear S2
   go_wp2_with (first
    | (with_reducible refine af cz (S.out.get 2 _ rfl) rfl rfl (.tmp 7) rfl rfl ?_)
    | (go_at_call 114;refine (HN.out _ _ S.out.ctx).mono ?_;intro e w3 hE;rcases S.out.bind hE with ⟨rfl,hR⟩ | ⟨i,s3,L3,_,rfl,S2⟩;(exact ⟨rfl,hR⟩);clear hE c0;replace S:=Lib.hid S2;clear S2)
    | (with_reducible refine af mg (S.out.get 1 _ rfl) rfl rfl (.tmp 5) rfl rfl ?_)
    | (go_at_call 74;refine (HA.out _ _ _ S.out.ctx).mono ?_;intro e w4 hE;rcases S.out.bind hE with ⟨rfl,hR⟩ | ⟨_,s4,L4,_,rfl,S2⟩;(exact ⟨rfl,hR⟩);clear hE;replace S:=Lib.hid S2;clear S2))
   exact S.out.done rfl
  ·have S:=Lib.hid (S2.of (m':=fail 17) (by rw [if_pos (by simpa using h0)]))
   have c0:=(S.out.get 0 _ rfl).cell 0 _ rfl
   have g0:(r != 0)=true:=by simpa using h0
   clear S2 h0
   go_wp2_with (go_at_call 58;refine (HF.out _ _ _ (by decide) S.out.ctx).mono ?_;rintro e w4 ⟨rfl,hB,hO⟩)
   exact ⟨rfl,S.out.ma (eo.err rfl) (by decide) hB hO⟩
 ·replace S:=Lib.hid (S.out.of (m':=fail (Nm.chk t)) (by rw [if_pos (by simpa using hc)]))
  have g0:(Nm.chk t != 0)=true:=by simpa using hc
  have HZ:=Lib.hid hc
  generalize Nm.chk t=er at HC S g0 HZ
  clear hc
  go_enter Tryz.func53,Tryz.ntmps53
  go_wp2_with (first
   | (go_at_call 113;refine (HC.out _).mono ?_;rintro e w1 ⟨rfl,hb⟩;replace S:=Lib.hid (S.out.below hb);have c0:=(S.out.get 0 _ rfl).cell 0 _ rfl;clear hb)
   | (go_at_call 58;refine (HF.out _ _ _ HZ.out S.out.ctx).mono ?_;rintro e w4 ⟨rfl,hB,hO⟩))
  exact ⟨rfl,S.out.ma (eo.err rfl) HZ.out hB hO⟩
end
end Go.Proofs.YtagfoogfpabdfaaGreat

namespace Go.Proofs.YtagfoogfpabdfaaGreat

end Go.Proofs.YtagfoogfpabdfaaGreat
set_option maxRecDepth 100000
namespace Go.Proofs.YtagfoogfpabdfaaGreat
open Go.RowKit Go.Maps
open Dk (av aa)
open Ii (Ino)
open Dm (Ent Has)
open Fs (M andThen tell ret fail)
def mkI (k p u l:Int):Ino:={ k:=k,p:=p,u:=u,l:=l,s:=0,a:=0,b:=0,c:=0,d:=0,e:=0,f:=0 }
def ChS {α:Type} (R:Ending→World→Prop) (B:Nat) (b:Blk) (n I:Int) (w0:World) (K:α→Ending→World→Prop) (l:List (Nat × List Value)) (m:Fs.M α) (W:World):Prop:=∃ s',Stp R B b n I [] w0 K l s' m W
theorem Stp.cap {α:Type} {R:Ending→World→Prop} {B:Nat} {b:Blk} {n I:Int} {w0 w:World} {K:α→Ending→World→Prop} {l:List (Nat × List Value)} {s:Sto} {m:Fs.M α} {X:Nat} {v:Value} (h:Stp R B b n I [] w0 K l s m w) (hX:au w0 X [v]) (hne:X≠b.t):w.cell? ⟨X,0,none⟩=some v:=(hX.only h.lo.only (by simpa using hne)).cell 0 _ rfl
section
variable {w:World} {B T V M:Nat} {b:Blk} {s:Sto} {n I k:Int} {op:Int→Int}
def mH (n I:Int) (op:Int→Int) (d:Int) (t:List UInt8) (p u:Int):Fs.M (Int × Ino):=andThen (jY I d) fun _=>andThen (jf n I (mkI 2 p u 2)) fun x=>andThen (DB n I op d) fun _=>andThen (kg n I d t x) fun i=>andThen (uc I i) fun y=>ret (i,y)
theorem Li (h:Ctx w B b s n I) (ht:dW w T V M b n I k op) {X1 X2 X3 X4:Nat} (d p u:Int) (t:List UInt8) (h1:au w X1 [.int .i64 d]) (h2:au w X2 [.int .i64 p]) (h3:au w X3 [.int .i64 u]) (h4:au w X4 [.string (strOf t)]) (hne:X1≠b.t∧X2≠b.t∧X3≠b.t∧X4≠b.t) (hd:(Lit.int .i64 d).wf=true) (hm:(strOf t).size≤maxLen):
  Calls Tryz.prog 48 #[mu B T,.pointer (some ⟨X1,0,none⟩),.pointer (some ⟨X2,0,none⟩),.pointer (some ⟨X3,0,none⟩),.pointer (some ⟨X4,0,none⟩)] w (Ends B b n I [] w s (mH n I op d t p u) fun a e _=>e=.returned (fH a.1 a.2)):=by
 unfold mH
 refine aQ fun R H=>?_
 have S0:=Lib.hid (Stp.start h (by simp) H)
 have S:=Lib.hid ((S0.out.alloc w.heap.size rfl (dB B T) 97).alloc (w.heap.size+1) (by simp) (aZ 0 Ii.zero) 33)
 have HTR:=Lib.hid ht
 have H1:=Lib.hid h1
 have H2:=Lib.hid h2
 have H3:=Lib.hid h3
 have H4:=Lib.hid h4
 have HNE:=Lib.hid hne
 have HD:Hid (∀ W s,Ctx W B b s n I→dW W T V M b n I k op→Calls Tryz.prog 49 #[.agg (dB B T).toArray,.int .i64 d] W (Ends B b n I [] W s (jY I d) fun _ e _=>e=.returned (lA B d))):=Lib.hid (fun W s hc hr=>jg hc hr d)
 have HR:Hid (∀ W s,Ctx W B b s n I→dW W T V M b n I k op→Calls Tryz.prog 50 #[.agg (dB B T).toArray,.agg #[.int .i64 2,.int .i64 p,.int .i64 u,.int .i64 2,.int .i64 0,.int .i64 0,.int .i64 0,.int .i64 0,.int .i64 0,.int .i64 0,.int .i64 0]] W (Ends B b n I [] W s (jf n I (mkI 2 p u 2)) fun y e _=>e=.returned (bH y))):=Lib.hid (fun W s hc hr=>qo hc hr (mkI 2 p u 2))
 have HG:Hid (∀ W s,Ctx W B b s n I→dW W T V M b n I k op→Calls Tryz.prog 51 #[.agg (dB B T).toArray,.int .i64 d] W (Ends B b n I [] W s (DB n I op d) fun _ e _=>e=.returned (.tuple #[]))):=Lib.hid (fun W s hc hr=>DA hc hr d hd)
 have HE:Hid (∀ W s x,Ctx W B b s n I→Calls Tryz.prog 53 #[.agg (dB B T).toArray,.agg (ea B d).toArray,.string (strOf t),.agg (aH x).toArray] W (Ends B b n I [] W s (kg n I d t x) fun i e _=>e=.returned (.int .i64 i))):=Lib.hid (fun W s x hc=>qQ hc d t x hm)
 have HA:Hid (∀ W s i,Ctx W B b s n I→Calls Tryz.prog 52 #[.agg (dB B T).toArray,.int .i64 i] W (Ends B b n I [] W s (uc I i) fun x e _=>e=.returned (fH i x))):=Lib.hid (fun W s i hc=>uM hc i)
 have c1:∀ o1 o2,((w.alloc o1).alloc o2).cell? ⟨X1,0,none⟩=some (.int .i64 d):=fun o1 o2=>((h1.alloc o1).alloc o2).cell 0 _ rfl
 clear h H S0 ht h1 h2 h3 h4 hne hd hm
 go_enter Tryz.func48,Tryz.ntmps48
 go_wp2_with (first
  | (with_reducible refine af wU (S.out.get 0 _ rfl) rfl rfl (.tmp 5) rfl rfl ?_)
  | (go_at_call 49;refine (HD.out _ _ S.out.ctx (HTR.out.stp S.out (by simp))).mono ?_;intro e w1 hE;rcases S.out.bind hE with ⟨rfl,hR⟩ | ⟨_,s1,L1,_,rfl,S2⟩;(exact ⟨rfl,hR⟩);clear hE c1;replace S:=Lib.hid S2;clear S2)
  | ((with_reducible refine ai (vs:=ea B d) mg ?_ (fC _ _) rfl (.tmp 7) (.tmp 11) rfl rfl ?_ ?_ ?_);(exact rfl);(exact rfl);(exact rfl);intro W4 hP hB2 hz2;replace S:=Lib.hid (S.out.made hP hB2 hz2);have c2:=S.out.cap H2.out HNE.out.2.1;have c3:=S.out.cap H3.out HNE.out.2.2.1;clear hP hB2 hz2)
  | (go_at_call 50;refine (HR.out _ _ S.out.ctx (HTR.out.stp S.out (by simp))).mono ?_;intro e w2 hE;rcases S.out.bind hE with ⟨rfl,hR⟩ | ⟨x,s2,L2,_,rfl,S2⟩;(exact ⟨rfl,hR⟩);clear hE c2 c3;replace S:=Lib.hid S2;clear S2)
  | ((with_reducible refine ai (vs:=aH x) cz ?_ (aJ _) rfl (.tmp 8) (.tmp 16) rfl rfl ?_ ?_ ?_);(exact rfl);(exact rfl);(exact rfl);intro W5 hP hB2 hz2;replace S:=Lib.hid (S.out.made hP hB2 hz2);have c1:=S.out.cap H1.out HNE.out.1;clear hP hB2 hz2)
  | (go_at_call 51;refine (HG.out _ _ S.out.ctx (HTR.out.stp S.out (by simp))).mono ?_;intro e w3 hE;rcases S.out.bind hE with ⟨rfl,hR⟩ | ⟨_,s3,L3,_,rfl,S2⟩;(exact ⟨rfl,hR⟩);clear hE c1;replace S:=Lib.hid S2;clear S2))
 refine aO (ChS R B b n I w (fun a e _=>e=.returned (fH a.1 a.2)) [(w.heap.size,dB B T),(w.heap.size+1,aZ 0 Ii.zero),(w1.heap.size,ea B d),(w2.heap.size,aH x)]) (fun ch W=>ch=[bn B]∧R (.panicked [bn B]) W) (fun ix=>ix == 5 || ix == 6 || ix == 7) (fun ix=>[.agg (dB B T).toArray,.agg (dB B T).toArray,.agg (ea B d).toArray,.string (strOf t),.agg (aH x).toArray].getD ix undef) (andThen (kg n I d t x) fun i=>andThen (uc I i) fun y=>ret (i,y)) (by kernel_rfl) (by kernel_rfl) (fun ch a' W hd hh=>?_) ⟨_,S.out.drew⟩ ?_
 ·exact ⟨hd,by obtain ⟨rfl,hR⟩:=hh;exact hR⟩
 refine ag (i:=0) (d:=some 20) (v:=(.agg (dB B T).toArray)) rfl rfl (by kernel_rfl) (by kernel_rfl) rfl rfl (bM fW (by kernel_rfl) (.tmp 5) rfl rfl (fun k W hS=>(hS.choose_spec.get 0 _ rfl).range)) ?_
 try simp only [Act.put,puA,puB,puC]
 refine ag (i:=1) (d:=some 21) (v:=(.agg (dB B T).toArray)) rfl rfl (by kernel_rfl) (by kernel_rfl) rfl rfl (bM fW (by kernel_rfl) (.tmp 5) rfl rfl (fun k W hS=>(hS.choose_spec.get 0 _ rfl).range)) ?_
 try simp only [Act.put,puA,puB,puC]
 refine ag (i:=2) (d:=some 22) (v:=(.agg (ea B d).toArray)) rfl rfl (by kernel_rfl) (by kernel_rfl) rfl rfl (bM oU (by kernel_rfl) (.tmp 7) rfl rfl (fun k W hS=>(hS.choose_spec.get 2 _ rfl).range)) ?_
 try simp only [Act.put,puA,puB,puC]
 refine ag (i:=3) (d:=some 23) (v:=(.string (strOf t))) rfl rfl (by kernel_rfl) (by kernel_rfl) rfl rfl (ae (by kernel_rfl) ?_) ?_
 ·(intro sZ wZ hZ;have cZ:=(fun k W hS=>hS.choose_spec.cap H4.out HNE.out.2.2.2) sZ wZ hZ;go_simp)
 try simp only [Act.put,puA,puB,puC]
 refine ag (i:=4) (d:=some 24) (v:=(.agg (aH x).toArray)) rfl rfl (by kernel_rfl) (by kernel_rfl) rfl rfl (bM lu (by kernel_rfl) (.tmp 8) rfl rfl (fun k W hS=>(hS.choose_spec.get 3 _ rfl).range)) ?_
 try simp only [Act.put,puA,puB,puC]
 refine bw (i:=5) (d:=some 25) (fun u k=>∃ i,u=.int .i64 i∧k=andThen (uc I i) fun y=>ret (i,y)) rfl rfl (by kernel_rfl) (by kernel_rfl) rfl (by kernel_rfl) ⟨.int .i64 0,_,0,rfl,rfl⟩ (by kernel_rfl) (bm (f:=53) (args:=#[.agg (dB B T).toArray,.agg (ea B d).toArray,.string (strOf t),.agg (aH x).toArray]) ?_ (fun W hS=>by
  obtain ⟨s8,S8⟩:=hS
  refine (HE.out _ _ _ S8.ctx).mono fun e w' hE=>?_
  rcases S8.bind hE with ⟨rfl,hR⟩ | ⟨i,s9,L9,_,rfl,S9⟩
  ·exact Or.inr ⟨_,rfl,rfl,hR⟩
  ·exact Or.inl ⟨_,rfl,_,⟨i,rfl,rfl⟩,⟨s9,S9⟩⟩)) ?_
 ·(intro _;go_simp)
 rintro _ _ ⟨i,rfl,rfl⟩
 try simp only [Act.put,puA,puB,puC]
 refine bw (i:=6) (d:=some 26) (fun u k=>∃ y,u=.agg (aZ i y).toArray∧k=ret (i,y)) rfl rfl (by kernel_rfl) (by kernel_rfl) rfl (by kernel_rfl) ⟨_,_,Ii.zero,rfl,rfl⟩ (by kernel_rfl) (bm (f:=52) (args:=#[.agg (dB B T).toArray,.int .i64 i]) ?_ (fun W hS=>by
  obtain ⟨s8,S8⟩:=hS
  refine (HA.out _ _ i S8.ctx).mono fun e w' hE=>?_
  rcases S8.bind hE with ⟨rfl,hR⟩ | ⟨y,s9,L9,_,rfl,S9⟩
  ·exact Or.inr ⟨_,rfl,rfl,hR⟩
  ·exact Or.inl ⟨_,rfl,_,⟨y,rfl,rfl⟩,⟨s9,S9⟩⟩)) ?_
 ·(intro _;go_simp)
 rintro _ _ ⟨y,rfl,rfl⟩
 try simp only [Act.put,puA,puB,puC]
 refine jt (i:=7) (d:=none) rfl rfl (by kernel_rfl) rfl (by kernel_rfl) (by kernel_rfl) fun W hS=>cJ (bA de (hS.choose_spec.get 1 _ rfl) rfl rfl (bq i y) (.tmp 6) (.tmp 26) rfl rfl rfl ?_)
 obtain ⟨s9,S9⟩:=hS
 have S2:=Lib.hid (S9.put 1 _ rfl (aZ i y) rfl)
 clear S9 S
 try simp only [Act.put,puA,puB,puC]
 go_wp2_with fail
 exact bodyPost_ret (aC de _ 6 rfl _ (S2.out.get 1 _ rfl) rfl rfl) rfl (S2.out.done rfl)
def jF (n I:Int) (d:Int) (t:List UInt8) (p u:Int):Fs.M (Int × Ino):=andThen (jY I d) fun _=>andThen (jf n I (mkI 1 p u 1)) fun x=>andThen (kg n I d t x) fun i=>andThen (uc I i) fun y=>ret (i,y)
theorem JU (h:Ctx w B b s n I) (ht:dW w T V M b n I k op) {X1 X2 X3 X4:Nat} (d p u:Int) (t:List UInt8) (h1:au w X1 [.int .i64 d]) (h2:au w X2 [.int .i64 p]) (h3:au w X3 [.int .i64 u]) (h4:au w X4 [.string (strOf t)]) (hne:X1≠b.t∧X2≠b.t∧X3≠b.t∧X4≠b.t) (hm:(strOf t).size≤maxLen):
  Calls Tryz.prog 54 #[mu B T,.pointer (some ⟨X1,0,none⟩),.pointer (some ⟨X2,0,none⟩),.pointer (some ⟨X3,0,none⟩),.pointer (some ⟨X4,0,none⟩)] w (Ends B b n I [] w s (jF n I d t p u) fun a e _=>e=.returned (fH a.1 a.2)):=by
 unfold jF
 refine aQ fun R H=>?_
 have S0:=Lib.hid (Stp.start h (by simp) H)
 have S:=Lib.hid ((S0.out.alloc w.heap.size rfl (dB B T) 97).alloc (w.heap.size+1) (by simp) (aZ 0 Ii.zero) 33)
 have HTR:=Lib.hid ht
 have H1:=Lib.hid h1
 have H2:=Lib.hid h2
 have H3:=Lib.hid h3
 have H4:=Lib.hid h4
 have HNE:=Lib.hid hne
 have HD:Hid (∀ W s,Ctx W B b s n I→dW W T V M b n I k op→Calls Tryz.prog 49 #[.agg (dB B T).toArray,.int .i64 d] W (Ends B b n I [] W s (jY I d) fun _ e _=>e=.returned (lA B d))):=Lib.hid (fun W s hc hr=>jg hc hr d)
 have HR:Hid (∀ W s,Ctx W B b s n I→dW W T V M b n I k op→Calls Tryz.prog 50 #[.agg (dB B T).toArray,.agg #[.int .i64 1,.int .i64 p,.int .i64 u,.int .i64 1,.int .i64 0,.int .i64 0,.int .i64 0,.int .i64 0,.int .i64 0,.int .i64 0,.int .i64 0]] W (Ends B b n I [] W s (jf n I (mkI 1 p u 1)) fun y e _=>e=.returned (bH y))):=Lib.hid (fun W s hc hr=>qo hc hr (mkI 1 p u 1))
 have HE:Hid (∀ W s x,Ctx W B b s n I→Calls Tryz.prog 53 #[.agg (dB B T).toArray,.agg (ea B d).toArray,.string (strOf t),.agg (aH x).toArray] W (Ends B b n I [] W s (kg n I d t x) fun i e _=>e=.returned (.int .i64 i))):=Lib.hid (fun W s x hc=>qQ hc d t x hm)
 have HA:Hid (∀ W s i,Ctx W B b s n I→Calls Tryz.prog 52 #[.agg (dB B T).toArray,.int .i64 i] W (Ends B b n I [] W s (uc I i) fun x e _=>e=.returned (fH i x))):=Lib.hid (fun W s i hc=>uM hc i)
 have c1:∀ o1 o2,((w.alloc o1).alloc o2).cell? ⟨X1,0,none⟩=some (.int .i64 d):=fun o1 o2=>((h1.alloc o1).alloc o2).cell 0 _ rfl
 clear h H S0 ht h1 h2 h3 h4 hne hm
 go_enter Tryz.func54,Tryz.ntmps54
 go_wp2_with (first
  | (with_reducible refine af wU (S.out.get 0 _ rfl) rfl rfl (.tmp 5) rfl rfl ?_)
  | (go_at_call 49;refine (HD.out _ _ S.out.ctx (HTR.out.stp S.out (by simp))).mono ?_;intro e w1 hE;rcases S.out.bind hE with ⟨rfl,hR⟩ | ⟨_,s1,L1,_,rfl,S2⟩;(exact ⟨rfl,hR⟩);clear hE c1;replace S:=Lib.hid S2;clear S2)
  | ((with_reducible refine ai (vs:=ea B d) mg ?_ (fC _ _) rfl (.tmp 7) (.tmp 11) rfl rfl ?_ ?_ ?_);(exact rfl);(exact rfl);(exact rfl);intro W4 hP hB2 hz2;replace S:=Lib.hid (S.out.made hP hB2 hz2);have c2:=S.out.cap H2.out HNE.out.2.1;have c3:=S.out.cap H3.out HNE.out.2.2.1;clear hP hB2 hz2)
  | (go_at_call 50;refine (HR.out _ _ S.out.ctx (HTR.out.stp S.out (by simp))).mono ?_;intro e w2 hE;rcases S.out.bind hE with ⟨rfl,hR⟩ | ⟨x,s2,L2,_,rfl,S2⟩;(exact ⟨rfl,hR⟩);clear hE c2 c3;replace S:=Lib.hid S2;clear S2)
  | ((with_reducible refine ai (vs:=aH x) cz ?_ (aJ _) rfl (.tmp 8) (.tmp 16) rfl rfl ?_ ?_ ?_);(exact rfl);(exact rfl);(exact rfl);intro W5 hP hB2 hz2;replace S:=Lib.hid (S.out.made hP hB2 hz2);have c1:=S.out.cap H1.out HNE.out.1;clear hP hB2 hz2)
  | fail)
 refine aO (ChS R B b n I w (fun a e _=>e=.returned (fH a.1 a.2)) [(w.heap.size,dB B T),(w.heap.size+1,aZ 0 Ii.zero),(w1.heap.size,ea B d),(w2.heap.size,aH x)]) (fun ch W=>ch=[bn B]∧R (.panicked [bn B]) W) (fun ix=>ix == 5 || ix == 6 || ix == 7) (fun ix=>[.agg (dB B T).toArray,.agg (dB B T).toArray,.agg (ea B d).toArray,.string (strOf t),.agg (aH x).toArray].getD ix undef) (andThen (kg n I d t x) fun i=>andThen (uc I i) fun y=>ret (i,y)) (by kernel_rfl) (by kernel_rfl) (fun ch a' W hd hh=>?_) ⟨_,S.out.drew⟩ ?_
 ·exact ⟨hd,by obtain ⟨rfl,hR⟩:=hh;exact hR⟩
 refine ag (i:=0) (d:=some 17) (v:=(.agg (dB B T).toArray)) rfl rfl (by kernel_rfl) (by kernel_rfl) rfl rfl (bM fW (by kernel_rfl) (.tmp 5) rfl rfl (fun k W hS=>(hS.choose_spec.get 0 _ rfl).range)) ?_
 try simp only [Act.put,puA,puB,puC]
 refine ag (i:=1) (d:=some 18) (v:=(.agg (dB B T).toArray)) rfl rfl (by kernel_rfl) (by kernel_rfl) rfl rfl (bM fW (by kernel_rfl) (.tmp 5) rfl rfl (fun k W hS=>(hS.choose_spec.get 0 _ rfl).range)) ?_
 try simp only [Act.put,puA,puB,puC]
 refine ag (i:=2) (d:=some 19) (v:=(.agg (ea B d).toArray)) rfl rfl (by kernel_rfl) (by kernel_rfl) rfl rfl (bM oU (by kernel_rfl) (.tmp 7) rfl rfl (fun k W hS=>(hS.choose_spec.get 2 _ rfl).range)) ?_
 try simp only [Act.put,puA,puB,puC]
 refine ag (i:=3) (d:=some 20) (v:=(.string (strOf t))) rfl rfl (by kernel_rfl) (by kernel_rfl) rfl rfl (ae (by kernel_rfl) ?_) ?_
 ·(intro sZ wZ hZ;have cZ:=(fun k W hS=>hS.choose_spec.cap H4.out HNE.out.2.2.2) sZ wZ hZ;go_simp)
 try simp only [Act.put,puA,puB,puC]
 refine ag (i:=4) (d:=some 21) (v:=(.agg (aH x).toArray)) rfl rfl (by kernel_rfl) (by kernel_rfl) rfl rfl (bM lu (by kernel_rfl) (.tmp 8) rfl rfl (fun k W hS=>(hS.choose_spec.get 3 _ rfl).range)) ?_
 try simp only [Act.put,puA,puB,puC]
 refine bw (i:=5) (d:=some 22) (fun u k=>∃ i,u=.int .i64 i∧k=andThen (uc I i) fun y=>ret (i,y)) rfl rfl (by kernel_rfl) (by kernel_rfl) rfl (by kernel_rfl) ⟨.int .i64 0,_,0,rfl,rfl⟩ (by kernel_rfl) (bm (f:=53) (args:=#[.agg (dB B T).toArray,.agg (ea B d).toArray,.string (strOf t),.agg (aH x).toArray]) ?_ (fun W hS=>by
  obtain ⟨s8,S8⟩:=hS
  refine (HE.out _ _ _ S8.ctx).mono fun e w' hE=>?_
  rcases S8.bind hE with ⟨rfl,hR⟩ | ⟨i,s9,L9,_,rfl,S9⟩
  ·exact Or.inr ⟨_,rfl,rfl,hR⟩
  ·exact Or.inl ⟨_,rfl,_,⟨i,rfl,rfl⟩,⟨s9,S9⟩⟩)) ?_
 ·(intro _;go_simp)
 rintro _ _ ⟨i,rfl,rfl⟩
 try simp only [Act.put,puA,puB,puC]
 refine bw (i:=6) (d:=some 23) (fun u k=>∃ y,u=.agg (aZ i y).toArray∧k=ret (i,y)) rfl rfl (by kernel_rfl) (by kernel_rfl) rfl (by kernel_rfl) ⟨_,_,Ii.zero,rfl,rfl⟩ (by kernel_rfl) (bm (f:=52) (args:=#[.agg (dB B T).toArray,.int .i64 i]) ?_ (fun W hS=>by
  obtain ⟨s8,S8⟩:=hS
  refine (HA.out _ _ i S8.ctx).mono fun e w' hE=>?_
  rcases S8.bind hE with ⟨rfl,hR⟩ | ⟨y,s9,L9,_,rfl,S9⟩
  ·exact Or.inr ⟨_,rfl,rfl,hR⟩
  ·exact Or.inl ⟨_,rfl,_,⟨y,rfl,rfl⟩,⟨s9,S9⟩⟩)) ?_
 ·(intro _;go_simp)
 rintro _ _ ⟨y,rfl,rfl⟩
 try simp only [Act.put,puA,puB,puC]
 refine jt (i:=7) (d:=none) rfl rfl (by kernel_rfl) rfl (by kernel_rfl) (by kernel_rfl) fun W hS=>cJ (bA de (hS.choose_spec.get 1 _ rfl) rfl rfl (bq i y) (.tmp 6) (.tmp 23) rfl rfl rfl ?_)
 obtain ⟨s9,S9⟩:=hS
 have S2:=Lib.hid (S9.put 1 _ rfl (aZ i y) rfl)
 clear S9 S
 try simp only [Act.put,puA,puB,puC]
 go_wp2_with fail
 exact bodyPost_ret (aC de _ 6 rfl _ (S2.out.get 1 _ rfl) rfl rfl) rfl (S2.out.done rfl)
end
end Go.Proofs.YtagfoogfpabdfaaGreat

namespace Go.Proofs.YtagfoogfpabdfaaGreat
end Go.Proofs.YtagfoogfpabdfaaGreat
