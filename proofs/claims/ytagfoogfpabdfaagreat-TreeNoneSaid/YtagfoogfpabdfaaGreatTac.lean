/- Texts of the proof. -/
import Derived.Test.YtagfoogfpabdfaaGreatTab
import Derived.Deep.RegionHeld3
import Derived.ProofKit
import Derived.OpenShut
import Derived.ShutString
import Derived.ChangeOld
import Derived.Lib.SmallJoins
import Derived.Deep.Slices
import Derived.IntWalk
import Derived.Test.YtagfoogfpabdfaaGreatTaa
import Derived.WalkKit
import Derived.WalkSpells
import Derived.WalkLawsBesides
import Derived.Laws.BitsAllLaws
import Derived.Lib.Hide
set_option maxRecDepth 100000
set_option maxHeartbeats 16000000
namespace Go.Proofs.YtagfoogfpabdfaaGreat
section
open Go.RowKit Go.Maps
open Dk (av aa)
def AE (s:Dk.St) (left:Nat→Bool):List (List UInt8):=(List.range s.last.length).map fun i=>if left i then Dk.eG s i else Dk.nowAt s i
theorem eT (s:Dk.St) (left:Nat→Bool):(AE s left).length=s.last.length:=by unfold AE;simp
theorem rV (s:Dk.St) (left:Nat→Bool) (i:Nat) (hi:i<s.last.length):(AE s left)[i]?=some (if left i then Dk.eG s i else Dk.nowAt s i):=by
 unfold AE
 rw [List.getElem?_map,List.getElem?_range hi];rfl
theorem zO (s:Dk.St) (left:Nat→Bool) (h:∀ i,i<s.last.length→left i=false→Dk.bU s i=none):AE s left=s.last:=by
 apply List.ext_getElem?
 intro i
 by_cases hi:i<s.last.length
 ·rw [rV s left i hi]
  have hl:s.last[i]?=some (Dk.eG s i):=by unfold Dk.eG;rw [List.getD_eq_getElem?_getD,List.getElem?_eq_getElem hi];rfl
  rw [hl]
  cases e:left i with
  | true=>rfl
  |
   false=>
   have:=h i hi e
   simp [Dk.nowAt,this]
 ·rw [List.getElem?_eq_none (by rw [eT];omega),List.getElem?_eq_none (by omega)]
theorem FY (s:Dk.St) (left:Nat→Bool) (h:∀ i,left i=false):AE s left=(Dk.eH s).last:=by
 unfold AE Dk.eH
 apply List.map_congr_left
 intro i _
 rw [h i];rfl
theorem CK (s:Dk.St) (left left':Nat→Bool) (i:Nat) (p:List UInt8) (hi:i<s.last.length) (hp:Dk.bU s i=some p) (h1:left' i=false) (h2:∀ j,j≠i→left' j=left j):(AE s left).set i p=AE s left':=by
 apply List.ext_getElem?
 intro j
 rw [List.getElem?_set]
 by_cases e:i=j
 ·subst e
  rw [if_pos rfl,if_pos (by rw [eT];exact hi),rV s left' i hi,h1]
  simp [Dk.nowAt,hp]
 ·rw [if_neg e]
  by_cases hj:j<s.last.length
  ·rw [rV s left j hj,rV s left' j hj,h2 j (fun q=>e q.symm)]
  ·rw [List.getElem?_eq_none (by rw [eT];omega),List.getElem?_eq_none (by rw [eT];omega)]
theorem aB.Lh {l:List Nat} {b:Nat} {a w w':World} (h:aB l a w) (k:aB [b] w w') (hb:a.heap.size≤b):aB l a w':=
 ⟨k.os.trans h.os,k.tape.trans h.tape,k.output.trans h.output,Nat.le_trans h.size k.size,fun i hi hn=>(k.block i (Nat.lt_of_lt_of_le hi h.size) (by simp;omega)).trans (h.block i hi hn)⟩
structure pJ (w1:World) (l m r:Nat) (s:Dk.St) (D:DataW (List UInt8)) (left:Lit→Bool) (cnt:Nat) (w:World):Prop where
 rg:w.ranges Tryz.prog 3 eE m r (Maps.size D) D left cnt
 rows:bG w l (AE s (fun i=>left (.int .i64 (i:Int))))
 only:aB [l] w1 w
 sub:∀ kl,left kl=true→Maps.has D kl=true
theorem Mq:∀ key kl,keyOf Tryz.prog 3 key=some kl→∃ x,key=Value.int .i64 x:=fun key kl h=>by
 obtain ⟨x,rfl,_⟩:=Maps.keyOf_int_inv Tryz.underlying3 h
 exact ⟨x,rfl⟩
theorem Mp:∀ v (y:DataW (List UInt8) × List MemPlace),eE v=some y→∃ c,v=an c:=fun v y h=>by
 obtain ⟨p,_,rfl,_⟩:=ld h
 exact ⟨p,rfl⟩
theorem MT {s:Dk.St} (hok:s.Ok) {D:DataW (List UInt8)} (hD:wV D s.cache) {x:Int} {c:List UInt8} {kl:Lit} {y:DataW (List UInt8) × List MemPlace} (hkey:keyOf Tryz.prog 3 (.int .i64 x)=some kl) (hl:Maps.has D kl=true) (hv:eE (an c)=some y) (hat:∀ zd,D.atKey kl zd=y.1):
  ∃ i:Nat,x=(i:Int)∧kl=.int .i64 (i:Int)∧i<s.last.length∧Dk.bU s i=some c∧c.length=64:=by
 obtain ⟨x',ex,rfl,_⟩:=Maps.keyOf_int_inv Tryz.underlying3 hkey
 injection ex with _ ex
 subst ex
 rw [hD.has] at hl
 have h0:0≤x∧(s.cache.getD x.toNat none).isSome=true:=by simpa using hl
 obtain ⟨i,rfl⟩:=Int.eq_ofNat_of_zero_le h0.1
 rw [Int.toNat_natCast] at h0
 obtain ⟨p,hp⟩:=Option.isSome_iff_exists.1 h0.2
 obtain ⟨q,hq,e1,e2⟩:=ld hv
 have hcq:=oD e1
 have:=hD.held i p hp .nil
 rw [hat,e2] at this
 injection this with this
 refine ⟨i,rfl,rfl,?_,?_,by rw [hcq];exact hq⟩
 ·rw [List.getD_eq_getElem?_getD] at hp
  rw [← hok.same]
  by_cases hi:i<s.cache.length
  ·exact hi
  ·rw [List.getElem?_eq_none (by omega)] at hp;cases hp
 ·unfold Dk.bU;rw [hp,hcq,this]
theorem na {w1 w2:World} {d l m r:Nat} {s:Dk.St} (h:aG w1 d l m s) {D:DataW (List UInt8)} (hD:wV D s.cache) (hrg:w2.ranges Tryz.prog 3 eE m r (Maps.size D) D (Maps.has D) (Maps.size D)) (hg:w1.grownBy w2 none):
  pJ w1 l m r s D (Maps.has D) (Maps.size D) w2 where
 rg:=hrg
 rows:=by
  rw [zO s _ (fun i hi e=>by
   rw [hD.has] at e
   cases hc:Dk.bU s i with
   | none=>rfl
   |
    some p=>
    have:s.cache.getD i none=some p:=hc
    rw [Int.toNat_natCast,this] at e
    simp at e)]
  exact h.rows.block (hg.block l h.llt (by simp))
 only:=aB.pe hg
 sub:=fun _ h=>h
theorem Af {w1 w w':World} {l m r:Nat} {s:Dk.St} {D:DataW (List UInt8)} {left:Lit→Bool} {cnt cnt':Nat} {i:Nat} {p:List UInt8} (h:pJ w1 l m r s D left cnt w) (hr:w1.heap.size≤r) (hl:l<w1.heap.size) (_hm:m<w1.heap.size) (hlm:l≠m)
  (hrg:w'.ranges Tryz.prog 3 eE m r (Maps.size D) D (fun z=>left z && !z.sameKey (.int .i64 (i:Int))) cnt') (hg:w.grownBy w' (some r)) (hi:i<s.last.length) (hp:Dk.bU s i=some p) (hpl:p.length=64) {w2:World} (hb:Below w'.heap.size w' w2):
  bG w2 l (AE s (fun i=>left (.int .i64 (i:Int))))∧pJ w1 l m r s D (fun z=>left z && !z.sameKey (.int .i64 (i:Int))) cnt' (w2.setCells l (i*64) (ab p))∧aB [l] w1 w2:=by
 have ho:aB [l] w1 w2:=(h.only.Lh (aB.grown hg (by simp)) hr).trans (aB.below hb)
 have hlw:l<w'.heap.size:=Nat.lt_of_lt_of_le (Nat.lt_of_lt_of_le hl h.only.size) hg.size
 have hrow:bG w2 l (AE s (fun i=>left (.int .i64 (i:Int)))):=
  (h.rows.block (hg.block l (Nat.lt_of_lt_of_le hl h.only.size) (fun e=>by injection e with e;omega))).block (hb.block l hlw)
 refine ⟨hrow,⟨?_,?_,aB.setCells l (by simp) _ _ _ ho,fun kl e=>h.sub kl (by simp at e;exact e.1)⟩,ho⟩
 ·have h1:w2.ranges Tryz.prog 3 eE m r (Maps.size D) D (fun z=>left z && !z.sameKey (.int .i64 (i:Int))) cnt':=
   hrg.kept (row:=none) ⟨hb.os,hb.tape,hb.output,hb.size,fun k hk _=>hb.block k hk⟩ (by simp) (by simp)
  have hrl:r≠l:=by omega
  refine h1.kept (row:=some l) ⟨?_,?_,?_,?_,?_⟩ (fun e=>by injection e with e;exact hlm e.symm) (fun e=>by injection e with e;exact hrl e)
  ·exact (aB.setCells (a:=w2) l (l:=[l]) (by simp) (ab p) (i*64) w2 (aB.refl _ _)).os
  ·exact (aB.setCells (a:=w2) l (l:=[l]) (by simp) (ab p) (i*64) w2 (aB.refl _ _)).tape
  ·exact (aB.setCells (a:=w2) l (l:=[l]) (by simp) (ab p) (i*64) w2 (aB.refl _ _)).output
  ·exact (aB.setCells (a:=w2) l (l:=[l]) (by simp) (ab p) (i*64) w2 (aB.refl _ _)).size
  ·intro k hk hn
   exact gg l _ _ _ k (fun e=>hn (by rw [e]))
 ·have:=hrow.put i (by rw [eT];exact hi) p hpl
  rw [CK s _ (fun j=>left (.int .i64 (j:Int)) && !(Lit.int .i64 (j:Int)).sameKey (.int .i64 (i:Int))) i p hi hp (by simp [Lit.sameKey]) (fun j hj=>by
   have hne:(j:Int)≠(i:Int):=by omega
   simp [Lit.sameKey,hne])] at this
  exact this
theorem DH {w1 w w':World} {d l m r:Nat} {s:Dk.St} (h1:aG w1 d l m s) {D:DataW (List UInt8)} {left:Lit→Bool} {cnt:Nat} (h:pJ w1 l m r s D left cnt w) (hleft:∀ kl,left kl=false)
  (hm:dw w' m (List.replicate s.last.length none)) (ht:w.mapTurned w' m):aG w' d l m (Dk.eH s)∧aB [l,m] w1 w':=by
 have hd:w'.heap[d]?=w1.heap[d]?:=(ht.grown.block d (Nat.lt_of_lt_of_le h1.dlt h.only.size) (fun e=>h1.dm (by injection e))).trans (h.only.block d h1.dlt (by simpa using h1.dl))
 have hrow:bG w' l (Dk.eH s).last:=by
  rw [← FY s (fun i=>left (.int .i64 (i:Int))) (fun i=>hleft _)]
  exact h.rows.block (ht.grown.block l (Nat.lt_of_lt_of_le h1.llt h.only.size) (fun e=>h1.lm (by injection e)))
 have hlen:(Dk.eH s).last.length=s.last.length:=by unfold Dk.eH;simp
 refine ⟨?_,(h.only.mono (by simp)).trans (aB.grown ht.grown (by simp))⟩
 exact {
     ok:=Dk.qO h1.ok,dl:=h1.dl,dm:=h1.dm,lm:=h1.lm
     c0:=(World.cell?_of_block (w:=w1) (a:=⟨d,0,none⟩) hd).trans h1.c0
     c1:=(World.cell?_of_block (w:=w1) (a:=⟨d,1,none⟩) hd).trans h1.c1
     c2:=(World.cell?_of_block (w:=w1) (a:=⟨d,2,none⟩) hd).trans h1.c2
     c3:=by rw [hlen];exact (World.cell?_of_block (w:=w1) (a:=⟨d,3,none⟩) hd).trans h1.c3
     c4:=(World.cell?_of_block (w:=w1) (a:=⟨d,4,none⟩) hd).trans h1.c4
     f0:=(World.frozen?_of_block (w:=w1) (a:=⟨d,0,none⟩) hd).trans h1.f0
     f1:=(World.frozen?_of_block (w:=w1) (a:=⟨d,1,none⟩) hd).trans h1.f1
     f2:=(World.frozen?_of_block (w:=w1) (a:=⟨d,2,none⟩) hd).trans h1.f2
     rows:=hrow,map:=hm }
end

section
open Go.RowKit Go.Maps
open Dk (av aa)
theorem pj {w:World} {d l m:Nat} {s:Dk.St} (h:aG w d l m s):Calls Tryz.prog 197 #[.pointer (some ⟨d,0,none⟩)] w fun e w'=>
  e=.returned (.int .i64 (Dk.kf s))∧aG w' d l m (Dk.flush s)∧aB [d,l,m] w w':=by
 have HD:=Lib.hid h
 have HW:=Lib.hid (lz h)
 have HS:=Lib.hid (td h)
 cases hdn:s.down with
 |
  true=>
  have HE:Hid (Dk.kf s=5):=Lib.hid (by unfold Dk.kf;rw [if_pos hdn])
  have HF:Hid (Dk.flush s=s):=Lib.hid (by unfold Dk.flush;rw [if_pos hdn])
  rw [HE.out,HF.out]
  rw [hdn] at HW
  clear h hdn
  go_enter Tryz.func197,Tryz.ntmps197
  go_wp2_with (go_at_call 96;refine HW.out.mono ?_;rintro e w' ⟨rfl,rfl⟩)
  go_ret
  exact ⟨rfl,HD.out,aB.refl _ _⟩
 |
  false=>
  rw [hdn] at HW
  have hnd:¬ s.down=true:=by rw [hdn];simp
  have HE:Hid (Dk.kf s=Dk.cn s):=Lib.hid (by unfold Dk.kf;rw [if_neg hnd])
  by_cases e0:Dk.cn s=0
  ·have HF:Hid (Dk.flush s=Dk.eH (Dk.df s)):=Lib.hid (by unfold Dk.flush;rw [if_neg hnd,if_pos e0])
   rw [HE.out,HF.out,e0]
   rw [e0] at HS
   clear h hdn hnd e0 HE HF
   generalize Dk.df s=s1 at HS ⊢
   go_enter Tryz.func197,Tryz.ntmps197
   go_wp2_with fail
   refine HW.out.mono ?_
   rintro e w' ⟨rfl,rfl⟩
   go_wp2_with fail
   refine HS.out.mono ?_
   rintro e w1 ⟨rfl,hd1,ho1,hz1⟩
   have HD1:=Lib.hid hd1
   have HO1:=Lib.hid ho1
   have c4:=hd1.c4
   obtain ⟨D,hown,hD⟩:=hd1.map
   have HM:=Lib.hid hD
   have HL:=Lib.hid hd1.llt
   have HMM:=Lib.hid hd1.mlt
   clear hd1 ho1 hz1 hD HW HS HD
   go_wp2_with (at_range;refine wpList_range_own _ rfl _ 82 rfl 3 87 ju Tryz.underlying82 eE m (Maps.size D) D rfl hown ?_;intro w0 hrg0 hg0 hs0)
   go_frame
   have HST:=Lib.hid (na HD1.out HM.out hrg0 hg0)
   clear hrg0 hg0 hs0 hown
   go_loopw [20] (fun _ wr=>∃ (left:Lit→Bool) (cnt:Nat),pJ w1 l m w1.heap.size s1 D left cnt wr) (fun _ wr=>wr.rangeLeft m w1.heap.size)
   case atStart=>exact ⟨_,_,HST.out⟩
   case round=>
    obtain ⟨left,cnt,hfl⟩:=hrel
    have HFL:=Lib.hid hfl
    have hrg:=hfl.rg
    clear hfl HST
    go_wp2_with (at_next;refine wpList_next_ranges _ rfl _ rfl 3 ju eE (Value.int .i64) an Mq Mp m w1.heap.size (Maps.size D) D left cnt rfl hrg ?_ ?_)
    ·intro _ hl0
     have HL0:=Lib.hid hl0
     clear hl0
     have c4':wr.cell? ⟨d,4,none⟩=some (.map (some m)):=(HFL.out.only.cell (p:=⟨d,4,none⟩) HD1.out.dlt (by simpa using HD1.out.dl)).trans c4
     obtain ⟨w2,hcl0,hmp,htn⟩:=dw.clear (w:=wr) (b:=m) (c:=s1.cache) ⟨D,tight hrg.owns,HM.out⟩ s1.last.length 0
     have hcl:∀ ty,(Builtin.clear_ #[82] ty #[.map (some m)]).run Tryz.prog wr=.ok (.tuple #[]) w2:=fun ty=>hcl0
     clear hcl0
     go_wp2
     go_ret
     obtain ⟨q1,q2⟩:=DH HD1.out HFL.out HL0.out hmp htn
     exact ⟨rfl,q1,(HO1.out.mono (by simp)).trans (q2.mono (by simp))⟩
    ·intro x c kl y1 y2 w2 cnt2 hkey hlx hv hat hrg2 hlt hg2 hs2 hen
     obtain ⟨i,rfl,rfl,hi,hci,hcl⟩:=MT (y:=(y1,y2)) HD1.out.ok HM.out hkey (HFL.out.sub _ hlx) hv hat
     have HI:=Lib.hid hi
     have HCI:=Lib.hid hci
     have HCL:=Lib.hid hcl
     have hilen:(i:Int)<(s1.last.length:Int):=by omega
     have hi0:(0:Int)≤(i:Int):=by omega
     have HNX:=Lib.hid (fun (W:World) (hb:Below w2.heap.size w2 W)=>Af (w2:=W) HFL.out (Nat.le_refl _) HL.out HMM.out HD1.out.lm hrg2 hg2 hi hci hcl hb)
     have HLT:=Lib.hid hlt
     clear hkey hlx hv hat hci hcl hi hs2 hlt hg2
     go_wp2_with (first
      | ((with_reducible refine aq rfl (.tmp 5) (.tmp 24) rfl rfl ?_ ?_ HCL.out ?_);(exact rfl);(exact rfl);intro W2 hP hB2 hz2))
     have HQ:=Lib.hid (HNX.out W2.drew hB2.drew)
     have c3'':W2.drew.cell? ⟨d,3,none⟩=some (.slice (some ⟨l,0,none⟩) s1.last.length s1.last.length):=(HQ.out.2.2.cell (p:=⟨d,3,none⟩) HD1.out.dlt (by simpa using HD1.out.dl)).trans HD1.out.c3
     have HPP:=Lib.hid hP
     clear hen hB2 hz2 hP
     refine wp_region_still_tail 7 (by kernel_rfl) (by kernel_rfl) ?_
     simp only [List.take_succ_cons,List.take_zero,List.drop_succ_cons,List.drop_zero]
     change wpStill _ _ W2.drew (fun a'=>wpList _ _ _ _ a' W2.drew) _ _
     still_step
     still_step
     still_step
     still_step
     still_step
     refine dN (HPP.out.block rfl) rfl (.tmp 5) rfl rfl ?_
     still_step
     refine wpStill_nil ?_
     refine wpList_store_row HQ.out.1 i (by rw [eT];exact HI.out) HCL.out rfl (.tmp 31) (.tmp 30) rfl rfl rfl ?_
     go_frame
     go_wp2
     go_roundw
     case rel=>exact ⟨_,_,HQ.out.2.1⟩
     case measure=>rw [HQ.out.2.1.rg.left_eq,hrg.left_eq];exact HLT.out
  ·have HF:Hid (Dk.flush s=Dk.df s):=Lib.hid (by unfold Dk.flush;rw [if_neg hnd,if_neg e0])
   rw [HE.out,HF.out]
   have hne2:(Dk.cn s == 0)=false:=by simpa using e0
   have hne3:(Dk.cn s != 0)=true:=by simpa using e0
   generalize Dk.cn s=E at HS hne2 hne3 ⊢
   clear h hdn hnd e0 HE HF
   go_enter Tryz.func197,Tryz.ntmps197
   go_wp2_with fail
   refine HW.out.mono ?_
   rintro e w' ⟨rfl,rfl⟩
   go_wp2_with fail
   refine HS.out.mono ?_
   rintro e w1 ⟨rfl,hd1,ho1,hz1⟩
   go_wp2
   go_ret
   exact ⟨rfl,hd1,ho1.mono (by simp)⟩
end

section
open Go.RowKit Go.Maps
open Dk (av aa)
end

section
open Go.RowKit
open Dk (av aa)
section
variable {ops:Array Oper} {Q:Exit→Act→World→Prop} {md:Region.Mode} {S:World→Prop}
theorem aF {P:Program} {i:Nat} {oi:Oper} {v:Value} {fuel:Nat} {listed:Array Bool} {a:Act} {w:World} {d:Option Tmp} (hi:ops[i]?=some oi) (hd:oi.dst=d)
  (hs:Region.noSelect ops=true) (hf:Region.free md ops listed i=true) (hr:(Region.ready md ops listed).contains i=true)
  (hQ:∀ c a w,Q (.panic c) (a.put oi.dst v) w→Q (.panic c) a w) (hy:YieldsIf P ops S oi v a) (hS:S w)
  (h:wpAnyH P md ops Q S fuel (listed.setIfInBounds i true) (a.put d v) w):wpAnyH P md ops Q S (fuel+1) listed a w:=
 wpAnyH_take hi hs hf hr hQ hy hS (hd ▸ h)
theorem ve {oi:Oper} {a:Act} {b o:Nat} {p:List UInt8} (hw:Region.wanted oi (yielded ops a.tmps)=true) (x:Operand) (ho:oi.op=.load 87 x) (hx:a.eval x=.pointer (some ⟨b,o,none⟩)) (hp:p.length=64) (hS:∀ w,S w→w.rangeAt b o (ab p)):
  YieldsIf Tryz.prog ops S oi (an p) a:=
 yieldsIf_load_mid hw 87 x ho b o hx (ab p) _ hS Tryz.underlying87 rfl (by rw [aY,aj,hp])
theorem sq {P:Program} {i:Nat} {oi:Oper} {fuel:Nat} {listed:Array Bool} {a:Act} {w:World} (hr:Region.ready md ops listed=[i]) (hi:ops[i]?=some oi) (hw:Region.wanted oi (yielded ops a.tmps)=true)
  (h:∀ K:Act→World→Prop,(∀ a w,S w→wpAnyH P md ops Q S fuel (listed.setIfInBounds i true) a w→K a w)→Oper.wp P oi a w K Q):wpAnyH P md ops Q S (fuel+1) listed a w:=by
 refine wpAnyH_ready hr (by simp) (AllReadyH.cons hi (fun K hK=>?_) AllReadyH.nil)
 rw [if_pos hw]
 exact h K (fun a w hS hW=>hK.out a w hS (fun _=>hW))
theorem sr {i:Nat} {oi:Oper} {fuel:Nat} {listed:Array Bool} {a:Act} {w:World} {b:Nat} {ps:List (List UInt8)} (h:bG w b ps) (n:Nat) {p:List UInt8} (hn:ps[n]?=some p)
  (hr:Region.ready md ops listed=[i]) (hi:ops[i]?=some oi) (hw:Region.wanted oi (yielded ops a.tmps)=true) (x:Operand) (ho:oi.op=.load 87 x) (hx:a.eval x=.pointer (some ⟨b,n*64,none⟩)) (d:Option Tmp) (hd:oi.dst=d) (hS:S w)
  (hK:wpAnyH Tryz.prog md ops Q S fuel (listed.setIfInBounds i true) (a.put d (an p)) w):wpAnyH Tryz.prog md ops Q S (fuel+1) listed a w:=
 sq hr hi hw fun _ hK'=>wp_load_mid 87 x ho b (n*64) hx (ab p) _ (h.range n p hn) Tryz.underlying87 rfl (by rw [aY,aj,h.size p (List.mem_of_getElem? hn)]) (hK' _ _ hS (hd ▸ hK))
theorem pR {i:Nat} {oi:Oper} {fuel:Nat} {listed:Array Bool} {a:Act} {w:World} {b:Nat} {ps:List (List UInt8)} (h:bG w b ps) (n:Nat) (hn:n<ps.length) {p:List UInt8} (hp:p.length=64)
  (hr:Region.ready md ops listed=[i]) (hi:ops[i]?=some oi) (hw:Region.wanted oi (yielded ops a.tmps)=true) (x y:Operand) (ho:oi.op=.store 87 x y) (hx:a.eval x=.pointer (some ⟨b,n*64,none⟩)) (hy:a.eval y=an p) (d:Option Tmp) (hd:oi.dst=d)
  (hS:S (w.setCells b (n*64) (ab p)))
  (hK:wpAnyH Tryz.prog md ops Q S fuel (listed.setIfInBounds i true) (a.put d undef) (w.setCells b (n*64) (ab p))):wpAnyH Tryz.prog md ops Q S (fuel+1) listed a w:=
 sq hr hi hw fun _ hK'=>wp_store_mid 87 x y ho b (n*64) (ab p).toArray hx hy (by rw [List.size_toArray,aj,hp];exact h.qZ n hn) (by rw [aY,List.size_toArray,aj,hp]) (all_oneCell_toArray (bV p)) (by
  rw [List.toList_toArray]
  exact hK' _ _ hS (hd ▸ hK))
end
end

section
open Go.RowKit Go.Maps
open Dk (av aa)
end

section
open Go.ChangeShapes Go.WideShapes Go.ChangeAt Go.RowKit
open Dk (av aa)
theorem bB (w:World) (x y:Operand) (p q:List UInt8):(eqGuard .neq 87 x y (an p) (an q)).run Tryz.prog w=.ok () w:=
 run_eqGuard_agg w .neq 87 x y _ _ (by kernel_rfl)
theorem gA (w:World) (p:List UInt8) (hp:p.length=64):(binOp .neq 87 (an p) (an p)).run Tryz.prog w=.ok (.bool false) w:=by
 rw [gB w p p hp hp];simp
theorem laidOut:laidOutB Tryz.prog=true:=by kernel_rfl
theorem own:ownKnob Tryz.prog.godebug=none:=by kernel_rfl
end

section
open Go.RowKit
open Dk (av aa)
open Hd (Head aA aM)
theorem kp (w:World) (p q:List UInt8) (hp:p.length=64) (hq:q.length=64) (h:p≠q):(binOp .neq 87 (an p) (an q)).run Tryz.prog w=.ok (.bool true) w:=by
 rw [gB w p q hp hq,decide_eq_false h];rfl
theorem vC (w:World) (p:List UInt8) (h:Head) (hp:p.length=64):RdS w p h false ((w.alloc (.cells (ab p).toArray 87)).alloc (.cells #[.int .i64 0,.bool false,.int .i64 0,.int .u32 0] 259)) where
 aK:=(bF w p _ hp).alloc _
 res:=by
  have:=lZ (w.alloc (.cells (ab p).toArray 87)) Hd.zero 259
  have e:(w.alloc (.cells (ab p).toArray 87)).heap.size=w.heap.size+1:=by simp
  rw [e] at this
  exact this
 below:=((Below.refl _ _).alloc (Nat.le_refl _) _).alloc (by simp) _
theorem Aj (p:List UInt8) (w:World) (hp:p.length=64) (h:Hd.fw p=true):
  Calls Tryz.prog 244 #[an p] w fun e w'=>e=.returned (.tuple #[dC (Hd.cE p),.bool true])∧Below w.heap.size w w':=by
 have HP:=Lib.hid hp
 have hbd:=Hd.rC p hp
 have HR:=Lib.hid (fun (w:World)=>oZ p w hp)
 have HS:=Lib.hid (vC w p (Hd.cE p) hp)
 have HE:Hid (∀ w,Calls Tryz.prog 267 #[dC (Hd.cE p)] w fun e w'=>e=.returned (.tuple #[an p,.int .i64 0])∧Below w.heap.size w w'):=Lib.hid (fun w=>by
  have:=mc (Hd.cE p) w (Hd.nI h).1 hbd.2.2.2.2.1 hbd.2.2.2.2.2
  rw [(Hd.nI h).2] at this
  exact this)
 clear h
 have E1:=fun (x y:Operand) (w:World)=>bB w x y p p
 have E2:=fun (w:World)=>gA w p hp
 clear hp hbd
 generalize Hd.cE p=h at *
 unfold an
 go_enter Tryz.func244,Tryz.ntmps244
 go_wp2_with (with_reducible refine ah HS.out.aK rfl (.tmp 1) rfl rfl ?_)
 refine (HR.out _).mono ?_
 rintro e w2 ⟨rfl,hb2⟩
 have S2:=Lib.hid (HS.out.call hb2)
 clear HS HR hb2
 go_wp2_with (first
  | ((with_reducible refine cm gZ (h:=h) rfl (.tmp 4) (.tmp 8) rfl rfl ?_ ?_ ?_);(exact rfl);(exact rfl);intro W3 hH hB3 hz3;have S3:=Lib.hid (S2.out.call hB3);have H3:=Lib.hid hH;clear S2 hH hB3 hz3;generalize w2.heap.size=C at H3 ⊢)
  | ((with_reducible refine cb gZ H3.out rfl (.tmp 4) rfl rfl ?_)))
 refine (HE.out _).mono ?_
 rintro e w4 ⟨rfl,hb4⟩
 have S4:=Lib.hid (S3.out.call hb4)
 have H4:=Lib.hid (H3.out.below hb4 H3.out.lt)
 clear S3 H3 hb4
 go_wp2_with (first
  | ((with_reducible refine aq rfl (.tmp 5) (.tmp 12) rfl rfl ?_ ?_ HP.out ?_);(exact rfl);(exact rfl);intro W5 hP hB5 hz5;have S5:=Lib.hid (S4.out.call hB5);have H5:=Lib.hid (H4.out.below hB5 H4.out.lt);have P5:=Lib.hid hP;clear S4 H4 hP hB5 hz5;generalize w4.heap.size=D at P5 ⊢)
  | ((with_reducible refine bo P5.out (.tmp 5) rfl rfl (by kernel_rfl) ?_))
  | ((with_reducible refine bo S5.out.aK (.tmp 1) rfl rfl (by kernel_rfl) ?_))
  | ((with_reducible refine cb gZ H5.out rfl (.tmp 4) rfl rfl ?_))
  | ((with_reducible refine eP gZ (h:=h) S5.out.res rfl (.tmp 2) (.tmp 22) rfl rfl ?_ ?_);(exact rfl)))
 exact bodyPost_ret (iz gZ _ 2 3 rfl _ (S5.out.res.put _) rfl rfl) rfl ⟨rfl,below_setCells _ (by omega) _ _ _ S5.out.below⟩
theorem Ak (p:List UInt8) (w:World) (hp:p.length=64) (h:aA (Hd.cE p)=false):
  Calls Tryz.prog 244 #[an p] w fun e w'=>e=.returned (.tuple #[dC Hd.zero,.bool false])∧Below w.heap.size w w':=by
 have HP:=Lib.hid hp
 have hbd:=Hd.rC p hp
 have HR:=Lib.hid (fun (w:World)=>oZ p w hp)
 have HS:=Lib.hid (vC w p (Hd.cE p) hp)
 have HE:=Lib.hid (fun (w:World)=>DR (Hd.cE p) w h)
 clear h

 clear hp hbd
 generalize Hd.cE p=h at *
 unfold an
 go_enter Tryz.func244,Tryz.ntmps244
 go_wp2_with (with_reducible refine ah HS.out.aK rfl (.tmp 1) rfl rfl ?_)
 refine (HR.out _).mono ?_
 rintro e w2 ⟨rfl,hb2⟩
 have S2:=Lib.hid (HS.out.call hb2)
 clear HS HR hb2
 go_wp2_with (first
  | ((with_reducible refine cm gZ (h:=h) rfl (.tmp 4) (.tmp 8) rfl rfl ?_ ?_ ?_);(exact rfl);(exact rfl);intro W3 hH hB3 hz3;have S3:=Lib.hid (S2.out.call hB3);have H3:=Lib.hid hH;clear S2 hH hB3 hz3;generalize w2.heap.size=C at H3 ⊢)
  | ((with_reducible refine cb gZ H3.out rfl (.tmp 4) rfl rfl ?_)))
 refine (HE.out _).mono ?_
 rintro e w4 ⟨rfl,hb4⟩
 have S4:=Lib.hid (S3.out.call hb4)
 have H4:=Lib.hid (H3.out.below hb4 H3.out.lt)
 clear S3 H3 hb4
 go_wp2_with (first
  | ((with_reducible refine aq rfl (.tmp 5) (.tmp 12) rfl rfl ?_ ?_ aa ?_);(exact rfl);(exact rfl);intro W5 hP hB5 hz5;have S5:=Lib.hid (S4.out.call hB5);have H5:=Lib.hid (H4.out.below hB5 H4.out.lt);have P5:=Lib.hid hP;clear S4 H4 hP hB5 hz5;generalize w4.heap.size=D at P5 ⊢)
  | ((with_reducible refine cb gZ H5.out rfl (.tmp 4) rfl rfl ?_))
  | ((with_reducible refine eP gZ (h:=Hd.zero) S5.out.res rfl (.tmp 2) (.tmp 21) rfl rfl ?_ ?_);(exact rfl)))
 exact bodyPost_ret (iz gZ _ 2 3 rfl _ (S5.out.res.put _) rfl rfl) rfl ⟨rfl,below_setCells _ (by omega) _ _ _ S5.out.below⟩
theorem wH (p:List UInt8) (w:World) (hp:p.length=64) (h:aA (Hd.cE p)=true) (hne:aM (Hd.cE p)≠p):
  Calls Tryz.prog 244 #[an p] w fun e w'=>e=.returned (.tuple #[dC Hd.zero,.bool false])∧Below w.heap.size w w':=by
 have HP:=Lib.hid hp
 have hbd:=Hd.rC p hp
 have HR:=Lib.hid (fun (w:World)=>oZ p w hp)
 have HS:=Lib.hid (vC w p (Hd.cE p) hp)
 have HE:=Lib.hid (fun (w:World)=>mc (Hd.cE p) w h hbd.2.2.2.2.1 hbd.2.2.2.2.2)
 have HQ:=Lib.hid (Hd.cP (Hd.cE p))
 clear h
 have E1:=fun (x y:Operand) (w:World)=>bB w x y (aM (Hd.cE p)) p
 have E2:=fun (w:World)=>kp w (aM (Hd.cE p)) p HQ.out hp hne
 clear hne
 clear hp hbd
 generalize Hd.cE p=h at *
 unfold an
 go_enter Tryz.func244,Tryz.ntmps244
 go_wp2_with (with_reducible refine ah HS.out.aK rfl (.tmp 1) rfl rfl ?_)
 refine (HR.out _).mono ?_
 rintro e w2 ⟨rfl,hb2⟩
 have S2:=Lib.hid (HS.out.call hb2)
 clear HS HR hb2
 go_wp2_with (first
  | ((with_reducible refine cm gZ (h:=h) rfl (.tmp 4) (.tmp 8) rfl rfl ?_ ?_ ?_);(exact rfl);(exact rfl);intro W3 hH hB3 hz3;have S3:=Lib.hid (S2.out.call hB3);have H3:=Lib.hid hH;clear S2 hH hB3 hz3;generalize w2.heap.size=C at H3 ⊢)
  | ((with_reducible refine cb gZ H3.out rfl (.tmp 4) rfl rfl ?_)))
 refine (HE.out _).mono ?_
 rintro e w4 ⟨rfl,hb4⟩
 have S4:=Lib.hid (S3.out.call hb4)
 have H4:=Lib.hid (H3.out.below hb4 H3.out.lt)
 clear S3 H3 hb4
 go_wp2_with (first
  | ((with_reducible refine aq rfl (.tmp 5) (.tmp 12) rfl rfl ?_ ?_ HQ.out ?_);(exact rfl);(exact rfl);intro W5 hP hB5 hz5;have S5:=Lib.hid (S4.out.call hB5);have H5:=Lib.hid (H4.out.below hB5 H4.out.lt);have P5:=Lib.hid hP;clear S4 H4 hP hB5 hz5;generalize w4.heap.size=D at P5 ⊢)
  | ((with_reducible refine bo P5.out (.tmp 5) rfl rfl (by kernel_rfl) ?_))
  | ((with_reducible refine bo S5.out.aK (.tmp 1) rfl rfl (by kernel_rfl) ?_))
  | ((with_reducible refine cb gZ H5.out rfl (.tmp 4) rfl rfl ?_))
  | ((with_reducible refine eP gZ (h:=Hd.zero) S5.out.res rfl (.tmp 2) (.tmp 21) rfl rfl ?_ ?_);(exact rfl)))
 exact bodyPost_ret (iz gZ _ 2 3 rfl _ (S5.out.res.put _) rfl rfl) rfl ⟨rfl,below_setCells _ (by omega) _ _ _ S5.out.below⟩
theorem DV (p:List UInt8) (w:World) (hp:p.length=64) (h:Hd.fw p=false):
  Calls Tryz.prog 244 #[an p] w fun e w'=>e=.returned (.tuple #[dC Hd.zero,.bool false])∧Below w.heap.size w w':=by
 cases hr:aA (Hd.cE p) with
 | false=>exact Ak p w hp hr
 |
  true=>
  refine wH p w hp hr (fun e=>?_)
  unfold Hd.fw at h
  rw [hr,e] at h
  simp at h
theorem Al (p:List UInt8) (w:World) (hp:p.length=64):
  Calls Tryz.prog 244 #[an p] w fun e w'=>e=.returned (.tuple #[dC (Hd.LX p),.bool (Hd.fw p)])∧Below w.heap.size w w':=by
 unfold Hd.LX
 cases h:Hd.fw p with
 | true=>exact Aj p w hp h
 | false=>exact DV p w hp h
end

section
open Go.ChangeShapes Go.WideShapes Go.ChangeAt Go.RowKit
open Dk (av aa)
structure gj (w:World) (A:Option Addr) (n:Nat) (ps:List (List UInt8)):Prop where
 len:ps.length=n
 small:n≤maxLen
 size:∀ p∈ps,p.length=64
 cells:0<n→∃ b off,A=some ⟨b,off,none⟩∧b<w.heap.size∧∀ i p,ps[i]?=some p→w.rangeAt b (off+i*64) (ab p)
theorem gj.step {w w':World} {A:Option Addr} {n:Nat} {ps:List (List UInt8)} (h:gj w A n ps) (hb:Below w.heap.size w w'):gj w' A n ps where
 len:=h.len
 small:=h.small
 size:=h.size
 cells:=fun hn=>by
  obtain ⟨b,off,rfl,hlt,hc⟩:=h.cells hn
  exact ⟨b,off,rfl,Nat.lt_of_lt_of_le hlt hb.size,fun i p hi j v hv=>(hb.cell (p:=⟨b,off+i*64+j,none⟩) hlt).trans (hc i p hi j v hv)⟩
end

section
open Go.RowKit
open Dk (av aa)
open Hd (Head aA aM)
theorem ec {ops:Array Oper} {rest:List Oper} {op:Oper} {a:Act} {Q:Exit→Act→World→Prop} {w:World} {b o:Nat} {p:List UInt8} (hr:w.rangeAt b o (ab p)) (hp:p.length=64) (hgd:op.guard=none) (x:Operand) (ho:op.op=.load 87 x)
  (hx:a.eval x=.pointer (some ⟨b,o,none⟩)) (h:wpList Tryz.prog ops Q rest (a.put op.dst (an p)) w):wpList Tryz.prog ops Q (op::rest) a w:=
 wpList_load_mid hgd 87 x ho b o hx (ab p) _ hr Tryz.underlying87 rfl (by rw [aY,aj,hp]) h
theorem sT {α:Type} (l:List α) (k:Nat) (a:α) (h:l[k]?=some a):l.take (k+1)=l.take k++[a]:=by
 obtain ⟨hk,he⟩:=List.getElem?_eq_some_iff.1 h
 rw [List.take_succ_eq_append_getElem hk,he]
def NxR (w0:World) (A:Option Addr) (n:Nat) (ps:List (List UInt8)) (W:World):Prop:=gj W A n ps∧Below w0.heap.size w0 W
theorem NxR.call {w0:World} {A:Option Addr} {n:Nat} {ps:List (List UInt8)} {W W':World} (k:NxR w0 A n ps W) (hb:Below W.heap.size W W'):NxR w0 A n ps W':=⟨k.1.step hb,k.2.trans (hb.mono k.2.size)⟩
theorem gj.drew {w:World} {A:Option Addr} {n:Nat} {ps:List (List UInt8)} (h:gj w A n ps):gj w.drew A n ps where
 len:=h.len
 small:=h.small
 size:=h.size
 cells:=fun hn=>by
  obtain ⟨b,off,e,hlt,hc⟩:=h.cells hn
  exact ⟨b,off,e,hlt,fun i p hi=>(World.rangeAt_drew ..).2 (hc i p hi)⟩
theorem NxR.drew {w0:World} {A:Option Addr} {n:Nat} {ps:List (List UInt8)} {W:World} (k:NxR w0 A n ps W):NxR w0 A n ps W.drew:=⟨k.1.drew,k.2.drew⟩
def NxS (w0:World) (A:Option Addr) (n:Nat) (ps:List (List UInt8)) (B:Nat) (p:List UInt8) (W:World):Prop:=NxR w0 A n ps W∧aD W B p
theorem NxS.call {w0:World} {A:Option Addr} {n:Nat} {ps:List (List UInt8)} {B:Nat} {p:List UInt8} {W W':World} (k:NxS w0 A n ps B p W) (hb:Below W.heap.size W W'):NxS w0 A n ps B p W':=⟨NxR.call k.1 hb,k.2.below hb k.2.lt⟩
theorem FX (A:Option Addr) (n c:Nat) (ps:List (List UInt8)) (w:World) (hrow:gj w A n ps):
  Calls Tryz.prog 246 #[.slice A n c] w fun e w'=>e=.returned (.int .i64 (Hd.dy ps))∧Below w.heap.size w w':=by
 have hn:=hrow.small
 unfold maxLen at hn
 have HR:Hid (NxR w A n ps w):=Lib.hid ⟨hrow,Below.refl _ _⟩
 have HL:=Lib.hid hrow.len
 have HZ:=Lib.hid hrow.size
 clear hrow
 go_enter Tryz.func246,Tryz.ntmps246
 go_wp2_with fail
 go_loopw [3,8] (fun x i wr=>∃ k:Nat,k≤n∧i=.int .i64 k∧x=.int .i64 (Hd.dy (ps.take k))∧NxR w A n ps wr) (fun _ i _=>n - (intOf i).toNat)
 case atStart=>exact ⟨0,Nat.zero_le _,rfl,rfl,HR.out⟩
 case round=>
  obtain ⟨k,hk,rfl,rfl,hnx⟩:=hrel
  have HX:=Lib.hid hnx
  clear hnx HR
  by_cases hlt:k<n
  ·obtain ⟨b,off,rfl,hb,hc⟩:=HX.out.1.cells (by omega)
   obtain ⟨p,hp⟩:∃ p,ps[k]?=some p:=⟨_,List.getElem?_eq_getElem (by rw [HL.out];exact hlt)⟩
   have HP:=Lib.hid (hc k p hp)
   have HPL:=Lib.hid (HZ.out p (List.mem_of_getElem? hp))
   have HT:=Lib.hid (sT ps k p hp)
   have G0:=Lib.hid (fun (w:World)=>bx p 0 4 w HPL.out (by omega) (by omega))
   have G6:=Lib.hid (fun (w:World)=>bx p 60 4 w HPL.out (by omega) (by omega))
   have hbd:=Hd.Dx p HPL.out
   have HU:Hid (Hd.dy (ps.take (k+1))=max (max (Hd.dy (ps.take k)) (Pg.ba p 0 4+1)) (Pg.ba p 60 4+1)):=Lib.hid (by rw [HT.out,Hd.zM];rfl)
   have hx0:=Hd.jq (ps.take k)
   have hx1:=Hd.CF (ps.take k) (fun q hq=>HZ.out q (List.mem_of_mem_take hq))
   clear hc hp hb HT
   generalize Hd.dy (ps.take k)=x at HU hx0 hx1 ⊢
   generalize Pg.ba p 0 4=g0 at G0 HU hbd
   generalize Pg.ba p 60 4=g6 at G6 HU hbd
   obtain ⟨b1,b2,b3,b4⟩:=hbd
   have w1:IntKind.i64.wrap (g0+1)=g0+1:=IntWalk.i64_in _ (by omega)
   have w2:IntKind.i64.wrap (g6+1)=g6+1:=IntWalk.i64_in _ (by omega)
   have hk0:(0:Int)≤(k:Int):=by omega
   have hk1:(k:Int)<(n:Int):=by omega
   go_wp2_with (first
    | ((with_reducible refine ec HP.out HPL.out rfl (.tmp 10) rfl ?_ ?_);(exact rfl))
    | ((with_reducible refine aq rfl (.tmp 5) (.tmp 11) rfl rfl ?_ ?_ HPL.out ?_);(exact rfl);(exact rfl);intro W2 hP hB2 hz2;have S2:Hid (NxS w (some ⟨b,off,none⟩) n ps wr.heap.size p W2):=Lib.hid ⟨NxR.call HX.out hB2,hP⟩;clear HX hP hB2 hz2;generalize wr.heap.size=B at S2 ⊢))
   obtain ⟨y,hy⟩:∃ y,max (max x (g0+1)) (g6+1)=y:=⟨_,rfl⟩
   have HY:=Lib.hid hy
   clear hy
   refine cq (fun (_:Unit)=>NxS w (some ⟨b,off,none⟩) n ps B p) (fun _=>false) (fun i=>[.int .i64 x,an p,.int .i64 g0,.int .i64 (g0+1),an p,.int .i64 g6,.int .i64 (g6+1),.int .i64 y,.int .i64 y].getD i undef) (()) (by kernel_rfl) (by kernel_rfl) (⟨S2.out.1.drew,S2.out.2.drew⟩) ?_
   refine ar (i:=0) (d:=some 12) (v:=.int .i64 x) rfl rfl (by kernel_rfl) (by kernel_rfl) rfl rfl (ae (by kernel_rfl) ?_) ?_
   ·intro _ _ _;go_simp
   (try simp only [Act.put,puA,puB,puC])
   refine ar (i:=1) (d:=some 13) (v:=an p) rfl rfl (by kernel_rfl) (by kernel_rfl) rfl rfl (bf (by kernel_rfl) (.tmp 5) rfl rfl (fun _ _ hS=>hS.2)) ?_
   (try simp only [Act.put,puA,puB,puC])
   refine ar (i:=2) (d:=some 14) (v:=.int .i64 g0) rfl rfl (by kernel_rfl) (by kernel_rfl) rfl rfl (aR (f:=205) (args:=#[an p,.int .i64 0,.int .i64 4]) (by kernel_rfl) ?_ (fun _ _ hS=>(G0.out _).mono fun _ _ ⟨he,hb⟩=>⟨he,NxS.call hS hb⟩)) ?_
   ·intro _;go_simp
   (try simp only [Act.put,puA,puB,puC])
   refine ar (i:=3) (d:=some 15) (v:=.int .i64 (g0+1)) rfl rfl (by kernel_rfl) (by kernel_rfl) rfl rfl (ae (by kernel_rfl) ?_) ?_
   ·intro _ _ _;go_simp
   (try simp only [Act.put,puA,puB,puC])
   refine ar (i:=4) (d:=some 16) (v:=an p) rfl rfl (by kernel_rfl) (by kernel_rfl) rfl rfl (bf (by kernel_rfl) (.tmp 5) rfl rfl (fun _ _ hS=>hS.2)) ?_
   (try simp only [Act.put,puA,puB,puC])
   refine ar (i:=5) (d:=some 17) (v:=.int .i64 g6) rfl rfl (by kernel_rfl) (by kernel_rfl) rfl rfl (aR (f:=205) (args:=#[an p,.int .i64 60,.int .i64 4]) (by kernel_rfl) ?_ (fun _ _ hS=>(G6.out _).mono fun _ _ ⟨he,hb⟩=>⟨he,NxS.call hS hb⟩)) ?_
   ·intro _;go_simp
   (try simp only [Act.put,puA,puB,puC])
   refine ar (i:=6) (d:=some 18) (v:=.int .i64 (g6+1)) rfl rfl (by kernel_rfl) (by kernel_rfl) rfl rfl (ae (by kernel_rfl) ?_) ?_
   ·intro _ _ _;go_simp
   (try simp only [Act.put,puA,puB,puC])
   refine ar (i:=7) (d:=some 19) (v:=.int .i64 y) rfl rfl (by kernel_rfl) (by kernel_rfl) rfl rfl (ae (by kernel_rfl) ?_) ?_
   ·intro _ _ _;go_simp;(rw [← HY.out];(repeat' split) <;> omega)
   (try simp only [Act.put,puA,puB,puC])
   refine ar (i:=8) (d:=some 3) (v:=.int .i64 y) rfl rfl (by kernel_rfl) (by kernel_rfl) rfl rfl (ae (by kernel_rfl) ?_) ?_
   ·intro _ _ _;go_simp
   (try simp only [Act.put,puA,puB,puC])
   refine fz (by kernel_rfl) ?_
   intro W3 hS
   have S3:=Lib.hid hS
   clear hS S2 w1 w2
   go_wp2_with fail
   go_roundw
   case rel=>exact ⟨k+1,by omega,by go_num,by rw [HU.out,HY.out],S3.out.1⟩
   case measure=>simp [intOf];omega
  ·have HK:Hid (ps.take k=ps):=Lib.hid (List.take_of_length_le (by rw [HL.out];omega))
   go_wp2_with fail
   go_ret
   exact ⟨iy (by rw [HK.out]),HX.out.2⟩
section
variable {ops:Array Oper} {σ:Type} {S:σ→World→Prop}
end
end

namespace Mt
def step (p:Int × Int) (c:UInt8):Int × Int:=((p.1+(c.toNat:Int)) % 65535,(p.2+(p.1+(c.toNat:Int)) % 65535) % 65535)
def run (p:Int × Int) (l:List UInt8):Int × Int:=l.foldl step p
def wi (p:Int × Int):Int:=p.2*65536+p.1
def splitN (s:Int):Int × Int:=(s % 65536 % 65535,s / 65536 % 65535)
def Fit (p:Int × Int):Prop:=0≤p.1∧p.1<65535∧0≤p.2∧p.2<65535
theorem Gz (p:Int × Int) (c:UInt8):Fit (step p c):=by
 unfold Fit step
 exact ⟨Int.emod_nonneg _ (by omega),Int.emod_lt_of_pos _ (by omega),Int.emod_nonneg _ (by omega),Int.emod_lt_of_pos _ (by omega)⟩
theorem wA (p:Int × Int) (l:List UInt8) (h:Fit p):Fit (run p l):=by
 induction l generalizing p with
 | nil=>exact h
 | cons c l ih=>exact ih _ (Gz p c)
theorem yf:Fit (0,0):=by unfold Fit;simp
theorem qm (p:Int × Int) (l r:List UInt8):run p (l++r)=run (run p l) r:=by
 unfold run;rw [List.foldl_append]
theorem Fv (p:Int × Int) (l:List UInt8) (c:UInt8):run p (l++[c])=step (run p l) c:=by
 rw [qm];rfl
theorem Js (p:Int × Int) (h:Fit p):0≤wi p∧wi p<4294967296:=by
 unfold Fit at h;unfold wi;omega
end Mt

section
open Go.RowKit
theorem xv {k:IntKind} {a b c d:Int} (h:a=b) (h':c=d):Ending.returned (.tuple #[.int k a,.int k c])=.returned (.tuple #[.int k b,.int k d]):=by rw [h,h']
theorem Hn (s:Int) (h0:0≤s) (h1:s<4294967296):(bits BinOp.and IntKind.u32 s 65535).tmod 65535=s % 65536 % 65535:=by
 rw [u32_and s 65535 h0 h1 (by omega) (by omega)]
 have e:s.toNat &&& (65535:Int).toNat=s.toNat % 65536:=Nat.and_two_pow_sub_one_eq_mod s.toNat 16
 rw [e,Int.tmod_eq_emod_of_nonneg (by omega)]
 omega
theorem Je (a b:Int) (h0:0≤a) (h1:a<65535) (h2:0≤b) (h3:b<65535):bits BinOp.or IntKind.u32 (b*65536) a=Mt.wi (a,b):=by
 rw [u32_or (b*65536) a (by omega) (by omega) (by omega) (by omega)]
 have e:(b*65536).toNat ||| a.toNat=(b*65536).toNat+a.toNat:=nat_join 16 _ _ (by omega) (by omega)
 rw [e]
 unfold Mt.wi
 simp only
 omega
theorem Bv (s:Int) (w:World) (h0:0≤s) (h1:s<4294967296):
  Calls Tryz.prog 276 #[.int .u32 s] w fun e w'=>e=.returned (.tuple #[.int .u32 (Mt.splitN s).1,.int .u32 (Mt.splitN s).2])∧w=w':=by
 go_enter Tryz.func276,Tryz.ntmps276
 go_wp2
 go_ret2
 exact ⟨xv (Hn s h0 h1) rfl,rfl⟩
theorem Gj (a b:Int) (w:World) (h0:0≤a) (h1:a<65535) (h2:0≤b) (h3:b<65535):
  Calls Tryz.prog 278 #[.int .u32 a,.int .u32 b] w fun e w'=>e=.returned (.int .u32 (Mt.wi (a,b)))∧w=w':=by
 go_enter Tryz.func278,Tryz.ntmps278
 go_wp2
 go_ret
 exact ⟨iy (Je a b h0 h1 h2 h3),rfl⟩
theorem Bg (s:ByteArray) (k:Nat) (h:k<s.size):s.data.toList.take (k+1)=s.data.toList.take k++[s[k]]:=by
 rw [List.take_succ_eq_append_getElem (by simpa using h)];rfl
theorem Kk (a b:Int) (s:ByteArray) (w:World) (hf:Mt.Fit (a,b)) (hs:s.size≤maxLen):
  Calls Tryz.prog 277 #[.int .u32 a,.int .u32 b,.string s] w fun e w'=>e=.returned (.tuple #[.int .u32 (Mt.run (a,b) s.data.toList).1,.int .u32 (Mt.run (a,b) s.data.toList).2])∧w=w':=by
 unfold maxLen at hs
 go_enter Tryz.func277,Tryz.ntmps277
 go_wp2
 go_loop [0,1,11] (fun x y i=>∃ k:Nat,k≤s.size∧i=.int .i64 k∧x=.int .u32 (Mt.run (a,b) (s.data.toList.take k)).1∧y=.int .u32 (Mt.run (a,b) (s.data.toList.take k)).2) (fun _ _ i=>s.size - (intOf i).toNat)
 case atStart=>exact ⟨0,Nat.zero_le _,rfl,rfl,rfl⟩
 case round=>
  obtain ⟨k,hk,rfl,rfl,rfl⟩:=hrel
  have hr:=Mt.wA (a,b) (s.data.toList.take k) hf
  by_cases hlt:k<s.size
  ·have HS:Hid (Mt.run (a,b) (s.data.toList.take (k+1))=Mt.step (Mt.run (a,b) (s.data.toList.take k)) s[k]):=Lib.hid (by rw [Bg s k hlt,Mt.Fv])
   obtain ⟨r1,r2,r3,r4⟩:=hr
   have hc:=s[k].toNat_lt
   go_wp2
   go_round
   case rel=>exact ⟨k+1,by omega,by go_num,by rw [HS.out];rfl,by rw [HS.out];rfl⟩
   case measure=>simp [intOf];omega
  ·have HK:Hid (s.data.toList.take k=s.data.toList):=Lib.hid (List.take_of_length_le (by simp;omega))
   go_wp2
   go_ret2
   exact ⟨xv (by rw [HK.out]) (by rw [HK.out]),rfl⟩
end

namespace Jn
structure Chg where
 no:Int
 aK:List UInt8
def cj:Dk.St→List Chg→Dk.St × Int
 | s,[]=>(Dk.flush s,Dk.kf s)
 | s,c::r=>if Dk.dg s c.no=0 then cj (Dk.write s c.no c.aK) r else (Dk.write s c.no c.aK,Dk.dg s c.no)
def runs:Dk.St→List (List Chg)→Dk.St × Int
 | s,[]=>(s,0)
 | s,l::r=>if (cj s l).2=0 then runs (cj s l).1 r else cj s l
def upd (L:List (List UInt8)) (cs:List Chg):List (List UInt8):=cs.foldl (fun L c=>L.set c.no.toNat c.aK) L
def AS (L:List (List UInt8)) (ls:List (List Chg)):List (List UInt8):=ls.foldl upd L
def Mu (C:List (Option (List UInt8))) (cs:List Chg):List (Option (List UInt8)):=cs.foldl (fun C c=>C.set c.no.toNat (some c.aK)) C
def Val (n:Nat) (cs:List Chg):Prop:=∀ c∈cs,Dk.hasB n c.no=true∧c.aK.length=64
structure Cl (s:Dk.St):Prop where
 ok:s.Ok
 up:s.down=false
 clean:s.cache=List.replicate s.last.length none
theorem cw (cs:List Chg):∀ L,(upd L cs).length=L.length:=by
 induction cs with
 | nil=>intro L;rfl
 | cons c r ih=>intro L;show (upd (L.set _ _) r).length=_;rw [ih,List.length_set]
def zJ (s:Dk.St):List (List UInt8):=(List.range s.last.length).map (Dk.nowAt s)
theorem iB (s:Dk.St):(zJ s).length=s.last.length:=by unfold zJ;simp
theorem vS (s:Dk.St) (i:Nat) (hi:i<s.last.length):(zJ s)[i]?=some (Dk.nowAt s i):=by
 unfold zJ
 rw [List.getElem?_map,List.getElem?_range hi];rfl
theorem FP (s:Dk.St) (h:s.cache.length=s.last.length) (i:Nat) (p:List UInt8):zJ (Dk.put s i p)=(zJ s).set i p:=by
 apply List.ext_getElem?
 intro j
 have hl:(Dk.put s i p).last=s.last:=rfl
 rw [List.getElem?_set,iB]
 by_cases hj:j<s.last.length
 ·rw [vS _ _ (by rw [hl];exact hj)]
  by_cases e:i=j
  ·subst e
   rw [if_pos rfl,if_pos hj]
   congr 1
   unfold Dk.nowAt Dk.bU Dk.put
   rw [List.getD_eq_getElem?_getD]
   simp only
   rw [List.getElem?_set_self (by omega)];rfl
  ·rw [if_neg e,vS _ _ hj]
   congr 1
   unfold Dk.nowAt Dk.bU Dk.eG Dk.put
   simp only [List.getD_eq_getElem?_getD]
   rw [List.getElem?_set_ne e]
 ·rw [List.getElem?_eq_none (by rw [iB,hl];omega)]
  by_cases e:i=j
  ·rw [if_pos e,if_neg (by omega)]
  ·rw [if_neg e,List.getElem?_eq_none (by rw [iB];omega)]
theorem qz (s:Dk.St):zJ (Dk.df s)=zJ s:=by
 unfold zJ
 rw [Dk.dP]
 congr 1
 funext i
 unfold Dk.nowAt Dk.bU Dk.eG
 rw [Dk.dP,Dk.eQ]
theorem qA {s:Dk.St} (h:s.cache=List.replicate s.last.length none):zJ s=s.last:=by
 apply List.ext_getElem?
 intro j
 by_cases hj:j<s.last.length
 ·rw [vS _ _ hj]
  unfold Dk.nowAt Dk.bU Dk.eG
  rw [h]
  simp only [List.getD_eq_getElem?_getD]
  rw [List.getElem?_replicate,if_pos hj,List.getElem?_eq_getElem hj];rfl
 ·rw [List.getElem?_eq_none (by rw [iB];omega),List.getElem?_eq_none (by omega)]
theorem qi {s:Dk.St} (h:Dk.cn s=0):(Dk.df s).down=s.down:=by
 unfold Dk.cn at h
 unfold Dk.df
 by_cases c:s.lim=true
 ·rw [if_pos c]
  by_cases e:s.left=0
  ·rw [if_pos ⟨c,e⟩] at h;omega
  ·rw [if_neg e]
 ·rw [if_neg c]
theorem nY {s:Dk.St} (h:Dk.cn s≠0):s.lim=true∧Dk.df s={ s with down:=true }∧Dk.cn s=5:=by
 have h5:Dk.cn s=5:=by rcases Dk.yX s with e | e;exact absurd e h;exact e
 unfold Dk.cn at h
 by_cases c:s.lim=true∧s.left=0
 ·refine ⟨c.1,?_,h5⟩
  unfold Dk.df
  rw [if_pos c.1,if_pos c.2]
 ·rw [if_neg c] at h;exact absurd rfl h
theorem tt (cs:List Chg):∀ (s:Dk.St),s.Ok→s.down=false→Val s.last.length cs →
  ((cj s cs).2=0∧Cl (cj s cs).1∧(cj s cs).1.lim=s.lim∧(cj s cs).1.last=upd (zJ s) cs) ∨
  ((cj s cs).2=5∧s.lim=true∧(cj s cs).1.Ok∧(cj s cs).1.down=true∧(cj s cs).1.last=s.last∧∃ k,(cj s cs).1.cache=Mu s.cache (cs.take k)):=by
 induction cs with
 |
  nil=>
  intro s hok hup _
  unfold cj Dk.flush Dk.kf
  rw [hup]
  by_cases h:Dk.cn s=0
  ·left
   simp only [Bool.false_eq_true,if_false,h,if_true]
   refine ⟨trivial,⟨Dk.qO (Dk.il hok),?_,?_⟩,?_,?_⟩
   ·show (Dk.df s).down=false
    rw [qi h];exact hup
   ·unfold Dk.eH
    simp
   ·show (Dk.df s).lim=s.lim
    exact Dk.nX s
   ·show zJ (Dk.df s)=upd (zJ s) []
    rw [qz];rfl
  ·right
   simp only [Bool.false_eq_true,if_false,h]
   obtain ⟨h1,h2,h3⟩:=nY h
   refine ⟨h3,h1,Dk.il hok,?_,Dk.dP s,0,Dk.eQ s⟩
   rw [h2]
 |
  cons c r ih=>
  intro s hok hup hv
  have hc:=hv c (by simp)
  have hr:Dk.dh s c.no=0:=Dk.kZ hup hc.1
  have hw:Dk.dg s c.no=Dk.cn s:=by unfold Dk.dg;rw [if_pos hr]
  unfold cj
  rw [hw]
  by_cases h:Dk.cn s=0
  ·rw [if_pos h]
   have he:Dk.write s c.no c.aK=Dk.put (Dk.df s) c.no.toNat c.aK:=by unfold Dk.write;rw [if_pos hr,if_pos h]
   have hl:(Dk.put (Dk.df s) c.no.toNat c.aK).last=s.last:=Dk.dP s
   have hok':(Dk.put (Dk.df s) c.no.toNat c.aK).Ok:=Dk.Ie (Dk.il hok) _ hc.2
   have hup':(Dk.put (Dk.df s) c.no.toNat c.aK).down=false:=by show (Dk.df s).down=false;rw [qi h];exact hup
   rw [he]
   rcases ih _ hok' hup' (by rw [hl];exact fun x hx=>hv x (by simp [hx])) with ⟨a1,a2,a3,a4⟩ | ⟨a1,a2,a3,a4,a5,k,a6⟩
   ·left
    refine ⟨a1,a2,a3.trans (Dk.nX s),a4.trans ?_⟩
    rw [FP _ (Dk.il hok).same,qz];rfl
   ·right
    refine ⟨a1,?_,a3,a4,a5.trans hl,k+1,?_⟩
    ·rw [← Dk.nX s];exact a2
    ·rw [a6]
     show Mu ((Dk.df s).cache.set _ _) _=_
     rw [Dk.eQ];rfl
  ·rw [if_neg h]
   right
   obtain ⟨h1,h2,h3⟩:=nY h
   have he:Dk.write s c.no c.aK=Dk.df s:=by unfold Dk.write;rw [if_pos hr,if_neg h]
   refine ⟨h3,h1,?_,?_,?_,0,?_⟩
   ·rw [he];exact Dk.il hok
   ·rw [he,h2]
   ·rw [he];exact Dk.dP s
   ·rw [he];exact Dk.eQ s
theorem mj (s:Dk.St) (gL:List UInt8):∀ k i,(Dk.eJ s gL k).1.getD i []=Dk.eG s i∨∃ p b,Dk.bU s i=some p∧(Dk.eJ s gL k).1.getD i []=Dk.qY (Dk.eG s i) p b
 | 0,i=>Or.inl rfl
 |
  k+1,i=>by
  rw [Dk.eJ]
  rcases Dk.gM s k (Dk.eJ s gL k) with e | ⟨p,c,r,hp,_,e⟩
  ·rw [e];exact mj s gL k i
  ·rw [e]
   by_cases hki:k=i
   ·subst hki
    simp only [List.getD_eq_getElem?_getD]
    rw [List.getElem?_set]
    rw [if_pos rfl]
    by_cases hl:k<(Dk.eJ s gL k).1.length
    ·rw [if_pos hl]
     exact Or.inr ⟨p,c,hp,rfl⟩
    ·rw [if_neg hl]
     rw [Dk.iL] at hl
     left
     unfold Dk.eG
     rw [List.getD_eq_getElem?_getD,List.getElem?_eq_none (l:=s.last) (by omega)]
   ·simp only [List.getD_eq_getElem?_getD]
    rw [List.getElem?_set_ne hki,← List.getD_eq_getElem?_getD]
    exact mj s gL k i
theorem Gt {α:Type} (d:α) {a b:List α} (hl:a.length=b.length) (h:∀ i,i<a.length→a.getD i d=b.getD i d):a=b:=by
 apply List.ext_getElem hl
 intro i h1 h2
 have:=h i h1
 rw [List.getD_eq_getElem?_getD,List.getD_eq_getElem?_getD,List.getElem?_eq_getElem h1,List.getElem?_eq_getElem h2] at this
 exact this
theorem mK {s:Dk.St} (h:s.cache=List.replicate s.last.length none) (i:Nat):Dk.bU s i=none:=by
 unfold Dk.bU
 rw [h,List.getD_eq_getElem?_getD,List.getElem?_replicate]
 split <;> rfl
theorem GO (cs:List Chg):∀ (C:List (Option (List UInt8))) (i:Nat) (p:List UInt8),(Mu C cs).getD i none=some p→C.getD i none=some p∨∃ c∈cs,c.no.toNat=i∧c.aK=p:=by
 induction cs with
 | nil=>intro C i p h;exact Or.inl h
 |
  cons c r ih=>
  intro C i p h
  rcases ih (C.set c.no.toNat (some c.aK)) i p h with e | ⟨x,hx,e⟩
  ·by_cases hci:c.no.toNat=i
   ·rw [List.getD_eq_getElem?_getD,List.getElem?_set,if_pos hci] at e
    by_cases hl:c.no.toNat<C.length
    ·rw [if_pos hl] at e
     exact Or.inr ⟨c,by simp,hci,by simpa using e⟩
    ·rw [if_neg hl] at e;cases e
   ·rw [List.getD_eq_getElem?_getD,List.getElem?_set_ne hci,← List.getD_eq_getElem?_getD] at e
    exact Or.inl e
  ·exact Or.inr ⟨x,by simp [hx],e⟩
structure Trn (L:List (List UInt8)) (cs:List Chg) (L':List (List UInt8)):Prop where
 len:L'.length=L.length
 dJ:∀ p∈L',p.length=64
 each:∀ i,L'.getD i []=L.getD i []∨∃ c∈cs,c.no.toNat=i∧∃ b,L'.getD i []=Dk.qY (L.getD i []) c.aK b
theorem Trn.other {L:List (List UInt8)} {cs:List Chg} {L':List (List UInt8)} (h:Trn L cs L') {i:Nat} (hi:∀ c∈cs,c.no.toNat≠i):L'.getD i []=L.getD i []:=by
 rcases h.each i with e | ⟨c,hc,e,_⟩
 ·exact e
 ·exact absurd e (hi c hc)
theorem Trn.one {L:List (List UInt8)} {x:Chg} {L':List (List UInt8)} (h:Trn L [x] L'):L'.getD x.no.toNat []=L.getD x.no.toNat []∨∃ b,L'.getD x.no.toNat []=Dk.qY (L.getD x.no.toNat []) x.aK b:=by
 rcases h.each x.no.toNat with e | ⟨c,hc,_,b,e⟩
 ·exact Or.inl e
 ·rw [List.mem_singleton] at hc
  subst hc
  exact Or.inr ⟨b,e⟩
theorem tl (ls:List (List Chg)):∀ (s:Dk.St),Cl s→(∀ l∈ls,Val s.last.length l) →
  ((runs s ls).2=0∧Cl (runs s ls).1∧(runs s ls).1.lim=s.lim∧(runs s ls).1.last=AS s.last ls) ∨
  ((runs s ls).2=5∧s.lim=true∧(runs s ls).1.Ok∧∃ j,j<ls.length∧∀ gL,Trn (AS s.last (ls.take j)) (ls.getD j []) (Dk.JV (runs s ls).1 gL).last):=by
 induction ls with
 | nil=>intro s h _;exact Or.inl ⟨rfl,h,rfl,rfl⟩
 |
  cons l r ih=>
  intro s h hv
  unfold runs
  rcases tt l s h.ok h.up (hv l (by simp)) with ⟨a1,a2,a3,a4⟩ | ⟨a1,a2,a3,a4,a5,k,a6⟩
  ·rw [if_pos a1]
   rw [qA h.clean] at a4
   have hlen:(cj s l).1.last.length=s.last.length:=by rw [a4,cw]
   rcases ih _ a2 (by rw [hlen];exact fun x hx=>hv x (by simp [hx])) with ⟨b1,b2,b3,b4⟩ | ⟨b1,b2,b3,j,hj,b4⟩
   ·left
    exact ⟨b1,b2,b3.trans a3,by rw [b4,a4];rfl⟩
   ·right
    refine ⟨b1,by rw [← a3];exact b2,b3,j+1,by simpa using hj,fun gL=>?_⟩
    have:=b4 gL
    rw [a4] at this
    exact this
  ·rw [if_neg (by omega)]
   right
   refine ⟨a1,a2,a3,0,by simp,fun gL=>⟨?_,Dk.iK a3 gL _ (Nat.le_refl _),fun i=>?_⟩⟩
   ·rw [Dk.DW,a5];rfl
   ·have e0:Dk.eG (cj s l).1 i=s.last.getD i []:=by unfold Dk.eG;rw [a5]
    show (Dk.eJ _ gL _).1.getD i []=s.last.getD i []∨∃ c∈l,_
    rcases mj (cj s l).1 gL (cj s l).1.last.length i with e | ⟨p,b,hp,e⟩
    ·left;rw [e,e0]
    ·right
     unfold Dk.bU at hp
     rw [a6] at hp
     rcases GO _ _ _ _ hp with q | ⟨c,hc,hci,hcp⟩
     ·have:=mK h.clean i
      unfold Dk.bU at this
      rw [this] at q;cases q
     ·refine ⟨c,List.mem_of_mem_take hc,hci,b,?_⟩
      exact e.trans (by rw [e0,hcp];rfl)
end Jn

namespace Jn
open Go.Proofs.YtagfoogfpabdfaaGreat.Pg (ba eV numOf aX)
open Go.Proofs.YtagfoogfpabdfaaGreat.Hd (Head aM cE fw aA dy)
theorem four (a:List UInt8) (h:a.length=4):∃ x0 x1 x2 x3,a=[x0,x1,x2,x3]:=by
 match a,h with
 | [x0,x1,x2,x3],_=>exact ⟨_,_,_,_,rfl⟩
theorem AH {x:UInt8} (h:x.toNat=0):x=0:=UInt8.toNat_inj.1 h
theorem lN (a:List UInt8) (hl:a.length=4) (h:numOf a<256):∃ x,a=[0,0,0,x]:=by
 obtain ⟨x0,x1,x2,x3,rfl⟩:=four a hl
 have e:numOf [x0,x1,x2,x3]=(((0*256+(x0.toNat:Int))*256+(x1.toNat:Int))*256+(x2.toNat:Int))*256+(x3.toNat:Int):=rfl
 rw [e] at h
 have e0:x0=0:=AH (by omega)
 have e1:x1=0:=AH (by omega)
 have e2:x2=0:=AH (by omega)
 exact ⟨x3,by rw [e0,e1,e2]⟩
theorem ph (p:List UInt8):ba p 0 4=numOf (p.take 4):=by
 unfold ba;rw [if_pos (by decide)];rfl
theorem nz (p:List UInt8) (hp:p.length=64):ba p 60 4=numOf (p.drop 60):=by
 unfold ba;rw [if_pos (by decide)]
 show numOf ((p.drop 60).take 4)=_
 rw [List.take_of_length_le (by simp;omega)]
theorem LV (x:Int) (h0:0≤x) (h1:x<4294967296):numOf (aX 4 x)=x:=by
 rw [Pg.cQ]
 have e:(256:Int) ^ 4=4294967296:=rfl
 rw [e];omega
theorem zE (h:Head) (h0:0≤h.seq) (h1:h.seq<4294967296):ba (aM h) 0 4=h.seq:=by
 rw [ph,Hd.gV.1,LV _ h0 h1]
theorem Cj (h:Head) (h0:0≤h.seq) (h1:h.seq<4294967296):ba (aM h) 60 4=h.seq:=by
 rw [nz _ (Hd.cP h),Hd.gV.2,LV _ h0 h1]
theorem sU (x y:UInt8) (k:Nat) (hk:k≤3):[0,0,0,x].take k=([0,0,0,y]:List UInt8).take k:=by
 have:k=0∨k=1∨k=2∨k=3:=by omega
 rcases this with rfl | rfl | rfl | rfl <;> rfl
theorem AW (P:List UInt8) (h:Head) (hP:P.length=64) (hf:ba P 0 4<256) (hb:ba P 60 4<256) (h0:0≤h.seq) (h1:h.seq<256) (c:UInt8):
  Dk.qY P (aM h) c=P∨Dk.qY P (aM h) c=aM h∨(ba (Dk.qY P (aM h) c) 0 4=h.seq∧ba (Dk.qY P (aM h) c) 60 4=ba P 60 4):=by
 have hN:=Hd.cP h
 have hT:=Dk.qX c hP hN
 obtain ⟨n1,n2⟩:=Hd.gV (h:=h)
 obtain ⟨x,hx⟩:=lN (aX 4 h.seq) (Pg.aT 4 _) (by rw [LV _ h0 (by omega)];exact h1)
 rw [ph] at hf
 rw [nz _ hP] at hb
 obtain ⟨y,hy⟩:=lN (P.take 4) (by simp;omega) hf
 obtain ⟨z,hz⟩:=lN (P.drop 60) (by simp;omega) hb
 have hk:c.toNat % 65<65:=Nat.mod_lt _ (by omega)
 rw [ph (Dk.qY P (aM h) c),nz _ hT,nz _ hP]
 unfold Dk.qY
 generalize hNN:aM h=N at *
 generalize c.toNat % 65=k at *
 by_cases k3:k≤3
 ·left
  have e:N.take k=P.take k:=by
   have e1:N.take k=(N.take 4).take k:=by rw [List.take_take];congr 1;omega
   have e2:P.take k=(P.take 4).take k:=by rw [List.take_take];congr 1;omega
   rw [e1,e2,n1,hx,hy];exact sU x y k k3
  rw [e,List.take_append_drop]
 ·by_cases k64:k=64
  ·right;left
   rw [k64,List.take_of_length_le (by omega),List.drop_of_length_le (by omega),List.append_nil]
  ·right;right
   constructor
   ·rw [List.take_append_of_le_length (by simp;omega),List.take_take,show min 4 k=4 by omega,n1,LV _ h0 (by omega)]
   ·congr 1
    rw [List.drop_append,List.drop_take,n2,hx]
    by_cases k60:k≤60
    ·rw [show k - 60=0 by omega,List.take_zero,List.nil_append,List.drop_drop]
     congr 1
     simp
     omega
    ·rw [List.drop_drop,show k+(60 - (N.take k).length)=60+(k - 60) by simp;omega,← List.drop_drop,hz,sU x z (k - 60) (by omega),List.take_append_drop]
def qU (p:List UInt8):Prop:=¬ (fw p=true∧(cE p).live=true)
structure Low (B:Int) (p:List UInt8):Prop where
 len:p.length=64
 f:ba p 0 4≤B
 b:ba p 60 4≤B
def bk (m:Int):Head:=⟨m,false,0,0⟩
theorem jk {m:Int} (h0:0≤m) (h1:m<4294967296):aA (bk m)=true:=decide_eq_true ⟨h0,h1,(fun h=>by cases h),(fun _=>⟨rfl,rfl⟩)⟩
theorem mD {m:Int} (h0:0≤m) (h1:m<4294967296):qU (aM (bk m)):=by
 rintro ⟨_,h⟩
 rw [Hd.BM _ (jk h0 h1) (Int.le_refl 0) (show (0:Int)<4294967296 by omega)] at h
 cases h
theorem vX {p:List UInt8} (hp:p.length=64) (h:ba p 0 4≠ba p 60 4):qU p:=by
 rintro ⟨hw,_⟩
 exact h ((Hd.AK p hp).1 hw).1
theorem xE {h:Head} {B:Int} (h0:0≤h.seq) (h1:h.seq<4294967296) (hB:h.seq≤B):Low B (aM h):=
 ⟨Hd.cP h,by rw [zE h h0 h1];exact hB,by rw [Cj h h0 h1];exact hB⟩
theorem Low.mono {B B':Int} {p:List UInt8} (h:Low B p) (hB:B≤B'):Low B' p:=⟨h.len,by have:=h.f;omega,by have:=h.b;omega⟩
theorem qb {B B':Int} {P:List UInt8} {h:Head} (hP:Low B P) (hB:B≤B') (hB':B'<256) (h0:0≤h.seq) (h1:h.seq≤B') (hlt:ba P 60 4<h.seq) (c:UInt8):
  Low B' (Dk.qY P (aM h) c)∧(Dk.qY P (aM h) c=P∨Dk.qY P (aM h) c=aM h∨qU (Dk.qY P (aM h) c)):=by
 have hT:=Dk.qX c hP.len (Hd.cP h)
 have hf:=hP.f
 have hb:=hP.b
 rcases AW P h hP.len (by omega) (by omega) h0 (by omega) c with e | e | ⟨e1,e2⟩
 ·exact ⟨by rw [e];exact hP.mono hB,Or.inl e⟩
 ·exact ⟨by rw [e];exact xE h0 (by omega) h1,Or.inr (Or.inl e)⟩
 ·exact ⟨⟨hT,by rw [e1];exact h1,by rw [e2];omega⟩,Or.inr (Or.inr (vX hT (by rw [e1,e2];omega)))⟩
def Lc:Chg:=⟨0,[]⟩
def nl (n:Nat):Nat:=(n+31) / 32
def lp (cs:List Chg) (j:Nat):Nat→List UInt8
 | 0=>Dk.av
 | k+1=>if k / 32=j then eV (lp cs j k) (((k % 32:Nat):Int)*2) 2 (cs.getD k Lc).no else lp cs j k
def iU (cs:List Chg):List (List UInt8):=((List.range (nl cs.length)).map fun j=>lp cs j cs.length)++cs.map (·.aK)
def Fe (ps:List (List UInt8)):Int:=Mt.wi (Mt.run (0,0) ps.flatten)
theorem ID (ps:List (List UInt8)):0≤Fe ps∧Fe ps<4294967296:=Mt.Js _ (Mt.wA _ _ Mt.yf)
theorem lk (cs:List Chg) (j:Nat):∀ k,(lp cs j k).length=64
 | 0=>Dk.aa
 |
  k+1=>by
  rw [lp]
  split
  ·exact Pg.aP _ _ _ _ (lk cs j k)
  ·exact lk cs j k
theorem get_at (p:List UInt8) (a:Nat) (ha:a+2≤64):ba p (a:Int) 2=numOf ((p.drop a).take 2):=by
 unfold ba;rw [if_pos (Pg.ke (by omega) (by omega) (by omega) (by omega)),Int.toNat_natCast];rfl
theorem fX (cs:List Chg):(iU cs).length=nl cs.length+cs.length:=by unfold iU;simp
theorem Ld {i n:Nat} (h:i<n):i / 32<nl n:=by unfold nl;omega
theorem qG {cs:List Chg} (h:∀ c∈cs,c.aK.length=64):∀ p∈iU cs,p.length=64:=by
 intro p hp
 unfold iU at hp
 rcases List.mem_append.1 hp with hp | hp
 ·obtain ⟨j,_,rfl⟩:=List.mem_map.1 hp
  exact lk _ _ _
 ·obtain ⟨c,hc,rfl⟩:=List.mem_map.1 hp
  exact h c hc
def dY:Nat→List (List UInt8)→List Chg
 | _,[]=>[]
 | a,p::r=>⟨(a:Int),p⟩::dY (a+1) r
theorem gY:∀ (ps:List (List UInt8)) (a:Nat) (c:Chg),c∈dY a ps→a≤c.no.toNat∧c.no.toNat<a+ps.length∧c.no=(c.no.toNat:Int)∧c.aK∈ps
 | [],_,c,h=>by cases h
 |
  p::r,a,c,h=>by
  rcases List.mem_cons.1 h with rfl | h
  ·simp
  ·obtain ⟨h1,h2,h3,h4⟩:=gY r (a+1) c h
   exact ⟨by omega,by simp only [List.length_cons];omega,h3,List.mem_cons_of_mem _ h4⟩
theorem De {n a:Nat} {ps:List (List UInt8)} (h:∀ p∈ps,p.length=64) (hn:a+ps.length≤n):Val n (dY a ps):=by
 intro c hc
 obtain ⟨h1,h2,h3,h4⟩:=gY _ _ _ hc
 exact ⟨by rw [h3];exact Dk.pa (by omega),h _ h4⟩
theorem db (cs:List Chg):∀ (L:List (List UInt8)) (i:Nat),(∀ c∈cs,c.no.toNat≠i)→(upd L cs).getD i []=L.getD i []:=by
 induction cs with
 | nil=>intro L i _;rfl
 |
  cons c r ih=>
  intro L i h
  show (upd (L.set _ _) r).getD i []=_
  rw [ih _ _ (fun x hx=>h x (by simp [hx])),List.getD_eq_getElem?_getD,List.getElem?_set_ne (h c (by simp)),← List.getD_eq_getElem?_getD]
theorem Kx (cs:List Chg):∀ (L M:List (List UInt8)) (i:Nat),L.length=M.length→(∃ c∈cs,c.no.toNat=i)→(upd L cs).getD i []=(upd M cs).getD i []:=by
 induction cs with
 | nil=>intro L M i _ h;obtain ⟨c,hc,_⟩:=h;cases hc
 |
  cons c r ih=>
  intro L M i hl h
  show (upd (L.set _ _) r).getD i []=(upd (M.set _ _) r).getD i []
  by_cases hr:∃ c∈r,c.no.toNat=i
  ·exact ih _ _ i (by simp [hl]) hr
  ·have hr':∀ c∈r,c.no.toNat≠i:=fun x hx e=>hr ⟨x,hx,e⟩
   obtain ⟨x,hx,hxi⟩:=h
   have:x=c:=by
    rcases List.mem_cons.1 hx with e | e
    ·exact e
    ·exact absurd hxi (hr' x e)
   subst this
   rw [db _ _ _ hr',db _ _ _ hr',List.getD_eq_getElem?_getD,List.getD_eq_getElem?_getD,List.getElem?_set,List.getElem?_set,if_pos hxi,if_pos hxi,hl]
theorem nK:∀ (ps:List (List UInt8)) (a:Nat) (L:List (List UInt8)) (i:Nat),i<ps.length→a+ps.length≤L.length→(upd L (dY a ps)).getD (a+i) []=ps.getD i []
 | [],_,_,i,h,_=>by simp at h
 |
  p::r,a,L,i,h,hl=>by
  show (upd (L.set ((a:Int)).toNat p) (dY (a+1) r)).getD (a+i) []=_
  rw [Int.toNat_natCast]
  simp only [List.length_cons] at h hl
  cases i with
  |
   zero=>
   rw [db _ _ _ (fun c hc=>by have:=gY _ _ _ hc;omega),Nat.add_zero,List.getD_eq_getElem?_getD,List.getElem?_set_self (by omega)];rfl
  |
   succ i=>
   have:=nK r (a+1) (L.set a p) i (by omega) (by simp;omega)
   rw [show a+1+i=a+(i+1) by omega] at this
   rw [this];rfl
def Same (a z:Nat) (L X:List (List UInt8)):Prop:=∀ i,(i<a∨a+z≤i)→L.getD i []=X.getD i []
def Out (a z:Nat) (cs:List Chg):Prop:=∀ c∈cs,c.no.toNat<a∨a+z≤c.no.toNat
structure Quiet (a z:Nat) (B:Int) (L X:List (List UInt8)):Prop where
 len:L.length=X.length
 low:Low B (L.getD a [])
 quiet:qU (L.getD a [])
 same:Same a z L X
structure uS (a z:Nat) (B:Int) (cs:List Chg) (L X:List (List UInt8)):Prop where
 len:L.length=X.length
 head:∃ q,0≤q∧q≤B∧L.getD a []=aM ⟨q,true,cs.length,Fe (iU cs)⟩
 laid:∀ i,i<nl cs.length+cs.length→L.getD (a+1+i) []=(iU cs).getD i []
 same:∀ i,(i<a∨a+z≤i)→(∀ c∈cs,c.no.toNat≠i)→L.getD i []=X.getD i []
structure May (a z n:Nat) (cs:List Chg):Prop where
 val:Val n cs
 out:Out a z cs
 pos:1≤cs.length
 few:cs.length≤512
 fit:1+nl cs.length+cs.length≤z
 reg:a+z≤n
 top:n≤512
theorem zW {q:Int} {k:Nat} {S:Int} (h0:0≤q) (h1:q<4294967296) (k1:1≤k) (k2:k≤512):aA ⟨q,true,(k:Int),S⟩=true:=
 decide_eq_true ⟨h0,h1,fun _=>⟨by show (1:Int)≤k;omega,by show (k:Int)≤512;omega⟩,fun h=>by cases h⟩
theorem zq {a z:Nat} {B B':Int} {L X L':List (List UInt8)} {m:Int} (h:Quiet a z B L X) (hz:0<z) (hB:B≤B') (hB':B'<256) (h0:0≤m) (h1:m≤B') (hlt:ba (L.getD a []) 60 4<m)
  (ht:Trn L [⟨(a:Int),aM (bk m)⟩] L'):Quiet a z B' L' X:=by
 have hoth:∀ i,i≠a→L'.getD i []=L.getD i []:=fun i hi=>ht.other (fun c hc=>by rw [List.mem_singleton] at hc;subst hc;show ((a:Int)).toNat≠i;omega)
 have h1':=ht.one
 have e0:(⟨(a:Int),aM (bk m)⟩:Chg).no.toNat=a:=Int.toNat_natCast a
 rw [e0] at h1'
 refine ⟨ht.len.trans h.len,?_,?_,fun i hi=>by rw [hoth i (by omega)];exact h.same i hi⟩
 ·rcases h1' with e | ⟨b,e⟩
  ·rw [e];exact h.low.mono hB
  ·rw [e];exact (qb (h:=bk m) h.low hB hB' h0 h1 hlt b).1
 ·rcases h1' with e | ⟨b,e⟩
  ·rw [e];exact h.quiet
  ·rw [e]
   rcases (qb (h:=bk m) h.low hB hB' h0 h1 hlt b).2 with q | q | q
   ·rw [q];exact h.quiet
   ·rw [q];exact mD h0 (by omega)
   ·exact q
theorem xL (p:List UInt8) (B:Int) (h:Low B p) (hB:0≤B):0≤dy [p]∧dy [p]≤B+1∧ba p 60 4<dy [p]:=by
 refine ⟨Hd.jq _,?_,?_⟩
 ·refine (Hd.nw _ _).2 ⟨by omega,fun x hx=>?_⟩
  rw [List.mem_singleton] at hx
  subst hx
  have:=h.f;have:=h.b
  omega
 ·exact (((Hd.nw [p] (dy [p])).1 (Int.le_refl _)).2 p (by simp)).2
theorem val_one {n a:Nat} (h:a<n) (g:Head):Val n [⟨(a:Int),aM g⟩]:=by
 intro c hc
 rw [List.mem_singleton] at hc
 subst hc
 exact ⟨Dk.pa h,Hd.cP g⟩
theorem jJ {L:List (List UInt8)} {a:Nat} (h:a<L.length) (p:List UInt8):(upd L [⟨(a:Int),p⟩]).getD a []=p:=by
 show (L.set ((a:Int)).toNat p).getD a []=p
 rw [Int.toNat_natCast,List.getD_eq_getElem?_getD,List.getElem?_set_self h];rfl
theorem eC {L:List (List UInt8)} {a i:Nat} (h:i≠a) (p:List UInt8):(upd L [⟨(a:Int),p⟩]).getD i []=L.getD i []:=
 db _ _ _ (fun c hc=>by rw [List.mem_singleton] at hc;subst hc;show ((a:Int)).toNat≠i;omega)
theorem Mj {a z:Nat} {B:Int} {s:Dk.St} {X:List (List UInt8)} (h:Cl s) (hq:Quiet a z B s.last X) (ha:a<s.last.length) (hz:0<z) (h0:0≤B) (hB:B<250):
  ((runs s [[⟨(a:Int),aM (bk (dy [s.last.getD a []]))⟩]]).2=0∧Cl (runs s [[⟨(a:Int),aM (bk (dy [s.last.getD a []]))⟩]]).1∧Same a z (runs s [[⟨(a:Int),aM (bk (dy [s.last.getD a []]))⟩]]).1.last X ∧
   (runs s [[⟨(a:Int),aM (bk (dy [s.last.getD a []]))⟩]]).1.last=s.last.set a (aM (bk (dy [s.last.getD a []])))  ∧ (runs s [[⟨(a:Int),aM (bk (dy [s.last.getD a []]))⟩]]).1.lim=s.lim) ∨
  ((runs s [[⟨(a:Int),aM (bk (dy [s.last.getD a []]))⟩]]).2=5∧s.lim=true∧(runs s [[⟨(a:Int),aM (bk (dy [s.last.getD a []]))⟩]]).1.Ok ∧
   ∀ gL,Quiet a z (B+1) (Dk.JV (runs s [[⟨(a:Int),aM (bk (dy [s.last.getD a []]))⟩]]).1 gL).last X):=by
 obtain ⟨n0,n1,n2⟩:=xL _ B hq.low h0
 rcases tl [[⟨(a:Int),aM (bk (dy [s.last.getD a []]))⟩]] s h (fun l hl=>by rw [List.mem_singleton] at hl;subst hl;exact val_one ha _) with ⟨a1,a2,a3,a4⟩ | ⟨a1,a2,a3,j,hj,a4⟩
 ·left
  refine ⟨a1,a2,?_,?_,a3⟩
  ·rw [a4]
   intro i hi
   show (upd s.last _).getD i []=_
   rw [eC (by omega)]
   exact hq.same i hi
  ·rw [a4]
   show s.last.set ((a:Int)).toNat _=_
   rw [Int.toNat_natCast]
 ·right
  refine ⟨a1,a2,a3,fun gL=>?_⟩
  have hj0:j=0:=by simpa using hj
  subst hj0
  exact zq hq hz (by omega) (by omega) n0 n1 n2 (a4 gL)
def fy (q:Int) (cs:List Chg):Head:=⟨q,true,cs.length,Fe (iU cs)⟩
def steps (a:Nat) (q:Int) (cs:List Chg):List (List Chg):=[dY (a+1) (iU cs),[⟨(a:Int),aM (fy (q+1) cs)⟩],cs,[⟨(a:Int),aM (bk (q+2))⟩]]
end Jn

section
open Go.RowKit
open Dk (av aa)
open Hd (Head aA aM)
open Jn (Chg)
def EA {α:Type} (w:World) (A:Option Addr) (L:List Nat) (k:Nat) (f:α→List Value) (xs:List α):Prop:=
 0<xs.length→∃ b off,A=some ⟨b,off,none⟩∧b<w.heap.size∧b∉L∧∀ i x,xs[i]?=some x→w.rangeAt b (off+i*k) (f x)
theorem EA.only {α:Type} {w w':World} {A:Option Addr} {L L':List Nat} {k:Nat} {f:α→List Value} {xs:List α} (h:EA w A L k f xs) (ho:aB L' w w') (hL:∀ x∈L',x∈L):EA w' A L k f xs:=fun h0=>by
 obtain ⟨b,off,e,h1,h2,h3⟩:=h h0
 exact ⟨b,off,e,Nat.lt_of_lt_of_le h1 ho.size,h2,fun i x hx j v hv=>(ho.cell (p:=⟨b,off+i*k+j,none⟩) h1 (fun q=>h2 (hL _ q))).trans (h3 i x hx j v hv)⟩
theorem EA.below {α:Type} {w w':World} {A:Option Addr} {L:List Nat} {k:Nat} {f:α→List Value} {xs:List α} (h:EA w A L k f xs) (hb:Below w.heap.size w w'):EA w' A L k f xs:=h.only (L':=[]) (aB.below hb) (by simp)
theorem EA.mono {α:Type} {w:World} {A:Option Addr} {L L':List Nat} {k:Nat} {f:α→List Value} {xs:List α} (h:EA w A L k f xs) (hL:∀ x∈L',x∈L):EA w A L' k f xs:=fun h0=>by
 obtain ⟨b,off,e,h1,h2,h3⟩:=h h0
 exact ⟨b,off,e,h1,fun q=>h2 (hL _ q),h3⟩
abbrev Ko (w:World) (A:Option Addr) (L:List Nat) (ps:List (List UInt8)):Prop:=EA w A L 64 ab ps
theorem Ko.row {w:World} {A:Option Addr} {L:List Nat} {ps:List (List UInt8)} (h:Ko w A L ps) (hl:ps.length≤1000) (hp:∀ p∈ps,p.length=64):gj w A ps.length ps where
 len:=rfl
 small:=by unfold maxLen;omega
 size:=hp
 cells:=fun h0=>by
  obtain ⟨b,off,e,h1,_,h3⟩:=h h0
  exact ⟨b,off,e,h1,h3⟩
theorem bG.slice {w:World} {b:Nat} {ps:List (List UInt8)} (h:bG w b ps) {L:List Nat} (hb:b∉L):Ko w (some ⟨b,0,none⟩) L ps:=fun h0=>
 ⟨b,0,rfl,h.lt h0,hb,fun i p hp=>by rw [Nat.zero_add];exact h.range i p hp⟩
theorem bG.below {w w':World} {b:Nat} {ps:List (List UInt8)} (h:bG w b ps) (hb:Below w.heap.size w w') (hl:b<w.heap.size):bG w' b ps:=h.block (hb.block b hl)
theorem au.block {w w':World} {b:Nat} {vs:List Value} (h:au w b vs) (hb:w'.heap[b]?=w.heap[b]?):au w' b vs:=⟨cu h.range hb,ki h.free hb⟩
theorem au.only {w w':World} {b:Nat} {v:Value} {vs:List Value} {L:List Nat} (h:au w b (v::vs)) (ho:aB L w w') (hL:b∉L):au w' b (v::vs):=h.block (ho.block b h.lt hL)
def bO (c:Chg):List Value:=.int .i64 c.no::ab c.aK
def Iq (c:Chg):Value:=.agg (bO c).toArray
theorem pz (c:Chg):∀ v∈bO c,v.oneCell'=true:=by
 intro v hv
 rcases List.mem_cons.1 hv with rfl | hv
 ·rfl
 ·exact bV _ v hv
theorem cv {c:Chg} (h:c.aK.length=64):(bO c).length=65:=by unfold bO;rw [List.length_cons,aj,h]
theorem yk:(Tryz.prog.info? 256).map (·.size)=some 65:=by kernel_rfl
abbrev va (w:World) (A:Option Addr) (L:List Nat) (cs:List Chg):Prop:=EA w A L 65 bO cs
abbrev ni (w:World) (b:Nat) (c:Chg):Prop:=au w b (bO c)
theorem ni.no {w:World} {b:Nat} {c:Chg} (h:ni w b c):w.cell? ⟨b,0,none⟩=some (.int .i64 c.no):=au.cell h 0 _ rfl
theorem ni.aK {w:World} {b:Nat} {c:Chg} (h:ni w b c):w.rangeAt b 1 (ab c.aK):=fun j v hv=>by
 have:=h.range (j+1) v (by unfold bO;exact hv)
 rwa [show 0+(j+1)=1+j by omega] at this
theorem fP {ops:Array Oper} {rest:List Oper} {op:Oper} {a:Act} {Q:Exit→Act→World→Prop} {w:World} {b o:Nat} {c:Chg} (hr:w.rangeAt b o (bO c)) (hp:c.aK.length=64) (hgd:op.guard=none) (x:Operand) (ho:op.op=.load 256 x)
  (hx:a.eval x=.pointer (some ⟨b,o,none⟩)) (h:wpList Tryz.prog ops Q rest (a.put op.dst (Iq c)) w):wpList Tryz.prog ops Q (op::rest) a w:=
 wpList_load_mid hgd 256 x ho b o hx (bO c) _ hr Tryz.underlying256 rfl (by rw [yk,cv hp]) h
theorem ej {ops:Array Oper} {rest:List Oper} {op:Oper} {a:Act} {Q:Exit→Act→World→Prop} {w:World} {Z:Array Value} {t:TypeId} {c:Chg} (hp:c.aK.length=64) (hgd:op.guard=none) (x y:Operand) (ho:op.op=.store 256 x y)
  (hx:a.eval x=.pointer (some ⟨w.heap.size,0,none⟩)) (hy:a.eval y=Iq c) (hZ:Z.size=65)
  (h:∀ W2,ni W2 w.heap.size c→Below w.heap.size w W2→W2.heap.size=w.heap.size+1→wpList Tryz.prog ops Q rest (a.put op.dst undef) W2):
  wpList Tryz.prog ops Q (op::rest) a (w.alloc (.cells Z t)):=by
 have hlen:(bO c).toArray.size=65:=by rw [List.size_toArray,cv hp]
 have ht:(w.alloc (.cells Z t)).there w.heap.size 0 65:=eY w Z t _ (by omega)
 refine wpList_store_mid hgd 256 x y ho w.heap.size 0 (bO c).toArray hx hy (by rw [hlen];exact ht) (by rw [yk,hlen]) (all_oneCell_toArray (pz c)) (h _ ?_ ?_ ?_)
 ·exact ⟨World.rangeAt_setCells_same _ _ _ _ (by rw [List.toList_toArray,cv hp];exact ht),World.there_setCells (by rw [cv hp];exact ht) _ _ _⟩
 ·exact below_setCells _ (Nat.le_refl _) _ _ _ ((Below.refl _ _).alloc (Nat.le_refl _) _)
 ·rw [bC];simp
def jG:Array Value:=(bO ⟨0,av⟩).toArray
theorem fi:jG.size=65:=by unfold jG;rw [List.size_toArray,cv aa]
theorem vd (w:World):(zeroValue 256).run Tryz.prog w=.ok (.agg jG) w:=by kernel_rfl
def vB (d a z:Nat):Value:=.agg #[.pointer (some ⟨d,0,none⟩),.int .i64 (a:Int),.int .i64 (z:Int)]
def eD (d a z:Nat):List Value:=[.pointer (some ⟨d,0,none⟩),.int .i64 (a:Int),.int .i64 (z:Int)]
theorem xw:(Tryz.prog.info? 227).map (·.size)=some 3:=by kernel_rfl
def oX (d a z:Nat) (q:Int) (o:Bool):List Value:=[.pointer (some ⟨d,0,none⟩),.int .i64 (a:Int),.int .i64 (z:Int),.int .i64 q,.bool o]
structure JAt (w:World) (j d a z:Nat) (q:Int) (o:Bool):Prop where
 row:au w j (oX d a z q o)
theorem JAt.c0 {w:World} {j d a z:Nat} {q:Int} {o:Bool} (h:JAt w j d a z q o):w.cell? ⟨j,0,none⟩=some (.pointer (some ⟨d,0,none⟩)):=h.row.cell 0 _ rfl
theorem JAt.c1 {w:World} {j d a z:Nat} {q:Int} {o:Bool} (h:JAt w j d a z q o):w.cell? ⟨j,1,none⟩=some (.int .i64 (a:Int)):=h.row.cell 1 _ rfl
theorem JAt.c2 {w:World} {j d a z:Nat} {q:Int} {o:Bool} (h:JAt w j d a z q o):w.cell? ⟨j,2,none⟩=some (.int .i64 (z:Int)):=h.row.cell 2 _ rfl
theorem JAt.c3 {w:World} {j d a z:Nat} {q:Int} {o:Bool} (h:JAt w j d a z q o):w.cell? ⟨j,3,none⟩=some (.int .i64 q):=h.row.cell 3 _ rfl
theorem JAt.c4 {w:World} {j d a z:Nat} {q:Int} {o:Bool} (h:JAt w j d a z q o):w.cell? ⟨j,4,none⟩=some (.bool o):=h.row.cell 4 _ rfl
theorem JAt.f {w:World} {j d a z:Nat} {q:Int} {o:Bool} (h:JAt w j d a z q o) (i:Nat) (hi:i<5):w.frozen? ⟨j,i,none⟩=false:=by
 have:=(h.row.free i hi).2
 rwa [Nat.zero_add] at this
theorem JAt.lt {w:World} {j d a z:Nat} {q:Int} {o:Bool} (h:JAt w j d a z q o):j<w.heap.size:=h.row.lt
theorem JAt.block {w w':World} {j d a z:Nat} {q:Int} {o:Bool} (h:JAt w j d a z q o) (hb:w'.heap[j]?=w.heap[j]?):JAt w' j d a z q o:=⟨h.row.block hb⟩
theorem JAt.only {w w':World} {j d a z:Nat} {q:Int} {o:Bool} {L:List Nat} (h:JAt w j d a z q o) (ho:aB L w w') (hL:j∉L):JAt w' j d a z q o:=h.block (ho.block j h.lt hL)
theorem JAt.below {w w':World} {j d a z:Nat} {q:Int} {o:Bool} (h:JAt w j d a z q o) (hb:Below w.heap.size w w'):JAt w' j d a z q o:=h.block (hb.block j h.lt)
theorem JAt.reg {w:World} {j d a z:Nat} {q:Int} {o:Bool} (h:JAt w j d a z q o):w.rangeAt j 0 (eD d a z):=fun i v hv=>h.row.range i v (by
 unfold eD at hv
 unfold oX
 match i,hv with
 | 0,hv=>exact hv
 | 1,hv=>exact hv
 | 2,hv=>exact hv)
theorem JAt.KG {w:World} {j d a z:Nat} {q:Int} {o:Bool} (h:JAt w j d a z q o) (x:Int):JAt (w.setCell ⟨j,3,none⟩ (.int .i64 x)) j d a z x o where
 row
   := ⟨fun i v hv=>by
   rw [Nat.zero_add]
   by_cases e:3=i
   ·subst e
    have hv':v=.int .i64 x:=by unfold oX at hv;simpa using hv.symm
    rw [hv']
    exact World.cell?_setCell_same' _ _ _ (by rw [h.c3];rfl)
   ·rw [World.cell?_setCell_other _ _ _ _ (fun q=>e (by injection q))]
    have:(oX d a z q o)[i]?=some v:=by
     rw [← hv]
     unfold oX
     match i,e with
     | 0,_=>rfl
     | 1,_=>rfl
     | 2,_=>rfl
     | 4,_=>rfl
     | _+5,_=>rfl
    have:=h.row.range i v this
    rwa [Nat.zero_add] at this,
  fun i hi=>by
   have hf:=h.row.free i hi
   rw [World.frozen?_setCell]
   refine ⟨?_,hf.2⟩
   by_cases e:3=i
   ·subst e
    rw [Nat.zero_add,World.cell?_setCell_same' _ _ _ (by rw [h.c3];rfl)];rfl
   ·rw [World.cell?_setCell_other _ _ _ _ (fun q=>e (by injection q with _ q;omega))];exact hf.1⟩
theorem JAt.IJ {w:World} {j d a z:Nat} {q:Int} {o:Bool} (h:JAt w j d a z q o) (x:Bool):JAt (w.setCell ⟨j,4,none⟩ (.bool x)) j d a z q x where
 row
   := ⟨fun i v hv=>by
   rw [Nat.zero_add]
   by_cases e:4=i
   ·subst e
    have hv':v=.bool x:=by unfold oX at hv;simpa using hv.symm
    rw [hv']
    exact World.cell?_setCell_same' _ _ _ (by rw [h.c4];rfl)
   ·rw [World.cell?_setCell_other _ _ _ _ (fun q=>e (by injection q))]
    have:(oX d a z q o)[i]?=some v:=by
     rw [← hv]
     unfold oX
     match i,e with
     | 0,_=>rfl
     | 1,_=>rfl
     | 2,_=>rfl
     | 3,_=>rfl
     | _+5,_=>rfl
    have:=h.row.range i v this
    rwa [Nat.zero_add] at this,
  fun i hi=>by
   have hf:=h.row.free i hi
   rw [World.frozen?_setCell]
   refine ⟨?_,hf.2⟩
   by_cases e:4=i
   ·subst e
    rw [Nat.zero_add,World.cell?_setCell_same' _ _ _ (by rw [h.c4];rfl)];rfl
   ·rw [World.cell?_setCell_other _ _ _ _ (fun q=>e (by injection q with _ q;omega))];exact hf.1⟩
theorem fO {ops:Array Oper} {rest:List Oper} {op:Oper} {a:Act} {Q:Exit→Act→World→Prop} {w:World} {b d x0 z:Nat} (hr:w.rangeAt b 0 (eD d x0 z)) (hgd:op.guard=none) (x:Operand) (ho:op.op=.load 227 x)
  (hx:a.eval x=.pointer (some ⟨b,0,none⟩)) (h:wpList Tryz.prog ops Q rest (a.put op.dst (vB d x0 z)) w):wpList Tryz.prog ops Q (op::rest) a w:=
 wpList_load_mid hgd 227 x ho b 0 hx (eD d x0 z) _ hr Tryz.underlying227 rfl xw h
end
end Go.Proofs.YtagfoogfpabdfaaGreat
