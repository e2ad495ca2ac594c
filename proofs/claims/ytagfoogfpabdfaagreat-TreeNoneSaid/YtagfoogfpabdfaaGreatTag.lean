/- Texts of the proof. -/
import Derived.Test.YtagfoogfpabdfaaGreatTaf
import Derived.Test.YtagfoogfpabdfaaGreatTac
import Derived.Test.YtagfoogfpabdfaaGreatTae
set_option maxRecDepth 100000
set_option maxHeartbeats 16000000
namespace Go.Proofs.YtagfoogfpabdfaaGreat
section
open Go.RowKit Go.Maps
open Dk (av aa)
open Jn (Chg)
def pO (g t:Pgs) (left:Nat→Bool):Pgs:=(List.range g.length).map fun i=>if left i then g.getD i none else (t.getD i none).or (g.getD i none)
theorem cU (g t:Pgs) (left:Nat→Bool):(pO g t left).length=g.length:=by unfold pO;simp
theorem rU (g t:Pgs) (left:Nat→Bool) (i:Nat) (hi:i<g.length):(pO g t left).getD i none=if left i then g.getD i none else (t.getD i none).or (g.getD i none):=by
 unfold pO
 rw [List.getD_eq_getElem?_getD,List.getElem?_map,List.getElem?_range hi];rfl
theorem zN (g t:Pgs) (left:Nat→Bool) (h:∀ i,i<g.length→left i=false→t.getD i none=none):pO g t left=g:=by
 refine vK (cU _ _ _) (fun i hi=>?_)
 rw [cU] at hi
 rw [rU _ _ _ _ hi]
 cases e:left i with
 | true=>rfl
 | false=>rw [h i hi e];rfl
theorem xN (g t:Pgs) (left:Nat→Bool) (h:∀ i,left i=false):pO g t left=jw g t:=by
 unfold pO jw
 apply List.map_congr_left
 intro i _
 rw [h i];rfl
theorem CJ (g t:Pgs) (left left':Nat→Bool) (i:Nat) (p:List UInt8) (hi:i<g.length) (hp:t.getD i none=some p) (h1:left' i=false) (h2:∀ j,j≠i→left' j=left j):(pO g t left).set i (some p)=pO g t left':=by
 refine vK (by rw [List.length_set,cU,cU]) (fun j hj=>?_)
 rw [List.length_set,cU] at hj
 rw [jQ _ _ _ _ (by rw [cU];exact hi),rU _ _ left' _ hj]
 by_cases e:i=j
 ·subst e
  rw [if_pos rfl,h1,hp];rfl
 ·rw [if_neg e,rU _ _ left _ hj,h2 j (fun q=>e q.symm)]
theorem LL {c:Pgs} {D:DataW (List UInt8)} (hD:wV D c) {x:Int} {p:List UInt8} {kl:Lit} {y:DataW (List UInt8) × List MemPlace} (hkey:keyOf Tryz.prog 3 (.int .i64 x)=some kl) (hl:Maps.has D kl=true) (hv:eE (an p)=some y) (hat:∀ zd,D.atKey kl zd=y.1):
  ∃ i:Nat,x=(i:Int)∧kl=.int .i64 (i:Int)∧i<c.length∧c.getD i none=some p∧p.length=64:=by
 obtain ⟨x',ex,rfl,_⟩:=Maps.keyOf_int_inv Tryz.underlying3 hkey
 injection ex with _ ex
 subst ex
 rw [hD.has] at hl
 have h0:0≤x∧(c.getD x.toNat none).isSome=true:=by simpa using hl
 obtain ⟨i,rfl⟩:=Int.eq_ofNat_of_zero_le h0.1
 rw [Int.toNat_natCast] at h0
 obtain ⟨q,hq⟩:=Option.isSome_iff_exists.1 h0.2
 obtain ⟨q',hq',e1,e2⟩:=ld hv
 have hcq:=oD e1
 have:=hD.held i q hq .nil
 rw [hat,e2] at this
 injection this with this
 exact ⟨i,rfl,rfl,xB hq,by rw [hq,hcq,this],by rw [hcq];exact hq'⟩
theorem qe {g t:Pgs} {D:DataW (List UInt8)} (hD:wV D t):pO g t (fun i=>Maps.has D (.int .i64 (i:Int)))=g:=zN _ _ _ (fun i _ e=>by
 rw [hD.has,Int.toNat_natCast] at e
 cases hc:t.getD i none with
 | none=>rfl
 | some p=>rw [hc] at e;simp at e)
theorem ta {g t:Pgs} {left:Lit→Bool} {i:Nat} {p:List UInt8} (hi:i<g.length) (hp:t.getD i none=some p):(pO g t (fun i=>left (.int .i64 (i:Int)))).set i (some p)=pO g t (fun j=>left (.int .i64 (j:Int)) && !(Lit.int .i64 (j:Int)).sameKey (.int .i64 (i:Int))):=
 CJ _ _ _ _ i p hi hp (by simp [Lit.sameKey]) (fun j hj=>by
  have hne:(j:Int)≠(i:Int):=by omega
  simp [Lit.sameKey,hne])
structure uU (w0:World) (g t r:Nat) (cg ct:Pgs) (D:DataW (List UInt8)) (left:Lit→Bool) (cnt:Nat) (w:World):Prop where
 rg:w.ranges Tryz.prog 3 eE t r (Maps.size D) D left cnt
 map:dw w g (pO cg ct (fun i=>left (.int .i64 (i:Int))))
 only:aB [g] w0 w
 sub:∀ kl,left kl=true→Maps.has D kl=true
theorem uU.next {w0 w w1 w2:World} {g t r:Nat} {cg ct:Pgs} {D:DataW (List UInt8)} {left left':Lit→Bool} {cnt cnt':Nat} (h:uU w0 g t r cg ct D left cnt w) (hr:w0.heap.size≤r) (hg:g<w0.heap.size)
  (hrg:w1.ranges Tryz.prog 3 eE t r (Maps.size D) D left' cnt') (hgr:w.grownBy w1 (some r)) (hb:Below w1.heap.size w1 w2):
  w2.ranges Tryz.prog 3 eE t r (Maps.size D) D left' cnt'∧dw w2 g (pO cg ct (fun i=>left (.int .i64 (i:Int))))∧aB [g] w0 w2:=by
 refine ⟨hrg.kept (row:=none) ⟨hb.os,hb.tape,hb.output,hb.size,fun k hk _=>hb.block k hk⟩ (by simp) (by simp),?_,(h.only.Lh (aB.grown hgr (by simp)) hr).trans (aB.below hb)⟩
 have hlt:g<w.heap.size:=Nat.lt_of_lt_of_le hg h.only.size
 exact (h.map.block (hgr.block g hlt (fun e=>by injection e with e;omega))).block (hb.block g (Nat.lt_of_lt_of_le hlt hgr.size))
theorem DX {w0 w2 w3:World} {g t r:Nat} {cg ct:Pgs} {D:DataW (List UInt8)} {left:Lit→Bool} {cnt' i:Nat} {p:List UInt8} (hgt:g≠t) (hr:w0.heap.size≤r) (hg:g<w0.heap.size) (hsub:∀ kl,left kl=true→Maps.has D kl=true)
  (hrg:w2.ranges Tryz.prog 3 eE t r (Maps.size D) D (fun z=>left z && !z.sameKey (.int .i64 (i:Int))) cnt') (ho:aB [g] w0 w2) (hi:i<cg.length) (hp:ct.getD i none=some p)
  (hm:dw w3 g ((pO cg ct (fun i=>left (.int .i64 (i:Int)))).set i (some p))) (ht:w2.mapTurned w3 g):uU w0 g t r cg ct D (fun z=>left z && !z.sameKey (.int .i64 (i:Int))) cnt' w3 where
 rg:=hrg.kept (row:=some g) ht.grown (fun e=>by injection e with e;exact hgt e.symm) (fun e=>by injection e with e;omega)
 map:=by rw [← ta hi hp];exact hm
 only:=ho.trans (aB.grown ht.grown (by simp))
 sub:=fun kl e=>hsub kl (by simp at e;exact e.1)
theorem GP {w:World} {g t:Nat} {cg ct:Pgs} (hg:dw w g cg) (ht:dw w t ct) (hgt:g≠t) (hl:ct.length=cg.length) (hl2:cg.length≤1000):
  Calls Tryz.prog 254 #[.map (some g),.map (some t)] w fun e w'=>e=.returned (.tuple #[])∧dw w' g (jw cg ct)∧aB [g] w w':=by
 obtain ⟨D,hown,hD⟩:=ht
 have HD:=Lib.hid hD
 have HG:=Lib.hid hg
 have HGL:=Lib.hid hg.lt
 have HGT:=Lib.hid hgt
 have HL:=Lib.hid hl
 have HL2:=Lib.hid hl2
 clear hD hg hgt hl hl2
 go_enter Tryz.func254,Tryz.ntmps254
 go_wp2_with (at_range;refine wpList_range_own _ rfl _ 82 rfl 3 87 ju Tryz.underlying82 eE t (Maps.size D) D rfl hown ?_;intro w0 hrg0 hg0 hs0)
 go_frame
 have HST:Hid (uU w g t w.heap.size cg ct D (Maps.has D) (Maps.size D) w0):=Lib.hid ⟨hrg0,by rw [qe HD.out];exact HG.out.block (hg0.block g HGL.out (by simp)),aB.pe hg0,fun _ h=>h⟩
 clear hrg0 hg0 hs0 hown
 go_loopw [8] (fun _ wr=>∃ (left:Lit→Bool) (cnt:Nat),uU w g t w.heap.size cg ct D left cnt wr) (fun _ wr=>wr.rangeLeft t w.heap.size)
 case atStart=>exact ⟨_,_,HST.out⟩
 case round=>
  obtain ⟨left,cnt,hfl⟩:=hrel
  have HFL:=Lib.hid hfl
  have hrg:=hfl.rg
  clear hfl HST
  go_wp2_with (at_next;refine wpList_next_ranges _ rfl _ rfl 3 ju eE (Value.int .i64) an Mq Mp t w.heap.size (Maps.size D) D left cnt rfl hrg ?_ ?_)
  ·intro _ hl0
   have HL0:=Lib.hid hl0
   clear hl0
   go_wp2
   go_end0
   refine ⟨rfl,?_,HFL.out.only⟩
   rw [← xN cg ct (fun i=>left (.int .i64 (i:Int))) (fun i=>HL0.out _)]
   exact HFL.out.map
  ·intro x c kl y1 y2 w2 cnt2 hkey hlx hv hat hrg2 hlt hg2 hs2 hen
   obtain ⟨i,rfl,rfl,hi,hci,hcl⟩:=LL (y:=(y1,y2)) HD.out hkey (HFL.out.sub _ hlx) hv hat
   have HI:Hid (i<cg.length):=Lib.hid (by rw [← HL.out];exact hi)
   have HCI:=Lib.hid hci
   have HCL:=Lib.hid hcl
   have HNX:=Lib.hid (fun (W:World) (hb:Below w2.heap.size w2 W)=>HFL.out.next (Nat.le_refl _) HGL.out hrg2 hg2 hb)
   have HLT:=Lib.hid hlt
   clear hkey hlx hv hat hci hcl hi hs2 hlt hg2
   go_wp2_with (first
    | ((with_reducible refine aq rfl (.tmp 5) (.tmp 12) rfl rfl ?_ ?_ HCL.out ?_);(exact rfl);(exact rfl);intro W2 hP hB2 hz2;have HQ:=Lib.hid (HNX.out W2 hB2);clear hen hB2 hz2)
    | (with_reducible refine ah hP rfl (.tmp 5) rfl rfl ?_)
    | (at_mapUpdate;go_must (refine ef HQ.out.2.1 i (by rw [cU];exact HI.out) (by rw [cU];exact HL2.out) HCL.out rfl (.tmp 13) (.tmp 14) (.tmp 15) rfl rfl rfl rfl ?_);intro W3 hm3 ht3;have HC3:=Lib.hid (DX HGT.out (Nat.le_refl _) HGL.out HFL.out.sub HQ.out.1 HQ.out.2.2 HI.out HCI.out hm3 ht3);clear hm3 ht3))
   go_frame
   go_wp2
   go_roundw
   case rel=>exact ⟨_,_,HC3.out⟩
   case measure=>rw [HC3.out.rg.left_eq,hrg.left_eq];exact HLT.out
structure Ex (w0:World) (t r:Nat) (D:DataW (List UInt8)) (left:Lit→Bool) (cnt:Nat) (w:World):Prop where
 rg:w.ranges Tryz.prog 3 eE t r (Maps.size D) D left cnt
 bel:Below w0.heap.size w0 w
 sub:∀ kl,left kl=true→Maps.has D kl=true
theorem Ex.next {w0 w w1 w2:World} {t r:Nat} {D:DataW (List UInt8)} {left:Lit→Bool} {cnt cnt' i:Nat} (h:Ex w0 t r D left cnt w) (hr:w0.heap.size≤r)
  (hrg:w1.ranges Tryz.prog 3 eE t r (Maps.size D) D (fun z=>left z && !z.sameKey (.int .i64 (i:Int))) cnt') (hgr:w.grownBy w1 (some r)) (hb:Below w1.heap.size w1 w2):Ex w0 t r D (fun z=>left z && !z.sameKey (.int .i64 (i:Int))) cnt' w2 where
 rg:=hrg.kept (row:=none) ⟨hb.os,hb.tape,hb.output,hb.size,fun k hk _=>hb.block k hk⟩ (by simp) (by simp)
 bel:=(h.bel.trans ((aB.grown (l:=[r]) hgr (by simp)).toBelow h.bel.size (fun k hk=>by rw [List.mem_singleton] at hk;omega))).trans (hb.mono (Nat.le_trans h.bel.size hgr.size))
 sub:=fun kl e=>h.sub kl (by simp at e;exact e.1)
theorem JX {g t:Pgs} {left:Lit→Bool} {i:Nat} {p:List UInt8} (hi:i<g.length) (hp:t.getD i none=some p) (hl:left (.int .i64 (i:Int))=true):
  ey (pO g t (fun j=>left (.int .i64 (j:Int)) && !(Lit.int .i64 (j:Int)).sameKey (.int .i64 (i:Int))))=if (g.getD i none).isSome then ey (pO g t (fun i=>left (.int .i64 (i:Int)))) else ey (pO g t (fun i=>left (.int .i64 (i:Int))))+1:=by
 rw [← ta hi hp,sm _ _ _ (by rw [cU];exact hi),rU _ _ _ _ hi,hl];rfl
theorem wL (c:Pgs):ey c≤c.length:=List.countP_le_length
theorem Fh {w:World} {b:Blk} {s:Sto} (h:ay w b s):Calls Tryz.prog 253 #[.pointer (some ⟨b.s,0,none⟩)] w fun e w'=>e=.returned (.int .i64 (nR s:Int))∧Below w.heap.size w w':=by
 have HS:=Lib.hid h
 have c4:=h.c4
 have c5:=h.c5
 have hlen:=h.group.len
 obtain ⟨D,hown,hD⟩:=h.step
 have HD:=Lib.hid hD
 have HL:Hid (s.step.length=s.group.length):=Lib.hid (by rw [h.ok.AD,h.ok.uY])
 have HN:Hid (s.group.length≤1000):=Lib.hid (by rw [h.ok.uY];have:=h.ew.ok.small;omega)
 have HST0:Hid (ey (pO s.group s.step (fun i=>Maps.has D (.int .i64 (i:Int))))=List.countP (fun x=>x.isSome) s.group):=Lib.hid (by rw [qe HD.out];rfl)
 clear h hD
 generalize List.countP (fun x=>x.isSome) s.group=n0 at hlen HST0
 go_enter Tryz.func253,Tryz.ntmps253
 go_wp2_with (at_range;refine wpList_range_own _ rfl _ 82 rfl 3 87 ju Tryz.underlying82 eE b.t (Maps.size D) D rfl hown ?_;intro w0 hrg0 hg0 hs0)
 go_frame
 have HST:Hid (Ex w b.t w.heap.size D (Maps.has D) (Maps.size D) w0):=Lib.hid ⟨hrg0,(aB.pe (l:=[]) hg0).toBelow (Nat.le_refl _) (by simp),fun _ h=>h⟩
 clear hrg0 hg0 hs0 hown hlen c4 c5
 go_loopw [3] (fun i wr=>∃ (left:Lit→Bool) (cnt:Nat),i=.int .i64 (ey (pO s.group s.step (fun i=>left (.int .i64 (i:Int)))):Int)∧Ex w b.t w.heap.size D left cnt wr) (fun _ wr=>wr.rangeLeft b.t w.heap.size)
 case atStart=>exact ⟨_,_,by rw [HST0.out],HST.out⟩
 case round=>
  obtain ⟨left,cnt,rfl,hfl⟩:=hrel
  have HFL:=Lib.hid hfl
  have hrg:=hfl.rg
  have HW:=Lib.hid (HS.out.below hfl.bel)
  clear hfl HST
  obtain ⟨N,hNN⟩:∃ N,ey (pO s.group s.step (fun i=>left (.int .i64 (i:Int))))=N:=⟨_,rfl⟩
  have HNN:=Lib.hid hNN
  have hN:N≤1000:=by rw [← hNN];exact Nat.le_trans (wL _) (by rw [cU];exact HN.out)
  rw [hNN]
  clear hNN
  go_wp2_with (at_next;refine wpList_next_ranges _ rfl _ rfl 3 ju eE (Value.int .i64) an Mq Mp b.t w.heap.size (Maps.size D) D left cnt rfl hrg ?_ ?_)
  ·intro _ hl0
   have HL0:=Lib.hid hl0
   clear hl0
   go_wp2
   go_ret
   refine ⟨?_,HFL.out.bel⟩
   unfold nR
   rw [← xN s.group s.step (fun i=>left (.int .i64 (i:Int))) (fun i=>HL0.out _),HNN.out]
   rfl
  ·intro x c kl y1 y2 w2 cnt2 hkey hlx hv hat hrg2 hlt hg2 hs2 hen
   obtain ⟨i,rfl,rfl,hi,hci,hcl⟩:=LL (y:=(y1,y2)) HD.out hkey (HFL.out.sub _ hlx) hv hat
   have HI:Hid (i<s.group.length):=Lib.hid (by rw [← HL.out];exact hi)
   have hi2:i≤1000:=by have:=HI.out;have:=HN.out;omega
   have HCM:=Lib.hid (JX HI.out hci hlx)
   rw [HNN.out] at HCM
   have HNX:=Lib.hid (fun (W:World) (hb:Below w2.heap.size w2 W)=>HFL.out.next (Nat.le_refl _) hrg2 hg2 hb)
   have HLT:=Lib.hid hlt
   have HW2:=Lib.hid (HS.out.below (HFL.out.next (Nat.le_refl _) hrg2 hg2 (Below.refl _ _)).bel)
   have c5:=HW2.out.c5
   have hlook:=HW2.out.group.look i hi2
   have HGP:=Lib.hid (fun p (e:s.group.getD i none=some p)=>(HS.out.ok.gpg i p e).1)
   clear hkey hlx hv hat hci hcl hi hs2 hlt hg2
   cases hgi:s.group.getD i none with
   |
    some q=>
    rw [hgi] at hlook HCM HGP
    simp only [Option.getD_some,Option.isSome_some] at hlook HCM
    have HQ:=Lib.hid (HGP.out q rfl)
    go_wp2_with (first
     | ((with_reducible refine aq rfl (.tmp 5) (.tmp 28) rfl rfl ?_ ?_ HQ.out ?_);(exact rfl);(exact rfl);intro W2 hP hB2 hz2;have HT:=Lib.hid (HNX.out W2 hB2);clear hen hB2 hz2 hlook c5))
    go_roundw
    case rel=>exact ⟨_,_,by rw [HCM.out];rfl,HT.out⟩
    case measure=>rw [HT.out.rg.left_eq,hrg.left_eq];exact HLT.out
   |
    none=>
    rw [hgi] at hlook HCM
    simp only [Option.getD_none,Option.isSome_none] at hlook HCM
    go_wp2_with (first
     | ((with_reducible refine aq rfl (.tmp 5) (.tmp 28) rfl rfl ?_ ?_ aa ?_);(exact rfl);(exact rfl);intro W2 hP hB2 hz2;have HT:=Lib.hid (HNX.out W2 hB2);clear hen hB2 hz2 hlook c5))
    go_roundw
    case rel=>exact ⟨_,_,by rw [HCM.out];go_num,HT.out⟩
    case measure=>rw [HT.out.rg.left_eq,hrg.left_eq];exact HLT.out
end

section
open Go.RowKit Go.Maps Go.Sort Go.Shelf
open Jn (Chg)
theorem KD (m:Nat):AnyZI.SortsIn Tryz.prog nZ Fence.wide m:=
  ⟨fun blk off cap ss W hH hblk hsz=>callsIn_wide.2 (AnyM.slices_Sort_int KE blk off cap ss W hH hblk hsz),
   fun p cap W=>callsIn_wide.2 (AnyM.slices_Sort_int_none KE p cap W)⟩
theorem Lq (mb:Option Nat) (W:World):Calls Tryz.prog 242 #[.map mb] W fun e w'=>e=.returned (.func (.func 265) #[] #[.pointer (some ⟨W.heap.size,0,none⟩)])∧w'=W.alloc (.cells #[.map mb] 82):=
 (callsIn_wide (n:=5)).1 (AnyZI.keys_in Lr Fence.wide 5 trivial rfl mb W)
theorem Fj {H:Type} (b nn:Nat) (D0:DataW H) (R:Value→Option (DataW H × List MemPlace)) (w:World) (hown:w.ownsMap Tryz.prog 3 R b nn D0) (hmax:Maps.size D0≤maxLen) (hbytes:Maps.size D0*8≤140737488355328):
  Calls Tryz.prog 241 #[.func (.func 265) #[] #[.pointer (some ⟨w.heap.size,0,none⟩)]] (w.alloc (.cells #[.map (some b)] 82)) fun e w'=>∃ (v:Value) (ss:List Int),e=.returned v∧ss.Perm (intKeys D0) ∧
   w'.ownsRow w.heap.size 3 1 v ss.length ((ss.mergeSort (fun x y=>decide (x≤y))).map encZ)∧Below w.heap.size w w':=by
 refine (callsIn_wide (n:=5)).1 ?_
 have hbl:=hown.lt
 have hseq:SeqGives Fence.wide 2 Tryz.prog 265 #[.pointer (some ⟨w.heap.size,0,none⟩)] encZ (fun ss=>ss.Perm (intKeys D0)) (Maps.size D0) (w.alloc (.cells #[.map (some b)] 82)):=
  AnyZI.keys_gives (ρ:=ua) { Lr with } Fence.wide _ trivial rfl (by omega) w.heap.size b nn D0 _ (by simp) (by simp) (by
   obtain ⟨es,clock,hb,Ft,hs,hD⟩:=hown
   exact ⟨es,clock,(Below.heap_alloc _ _ b hbl).trans hb,Ft,hs,hD⟩)
 have cS:=AnyZI.sorted_in IF Fence.wide 5 trivial trivial trivial trivial rfl (by omega) (KD _) (enters_of Tryz.func264 (by kernel_rfl) rfl) 265 #[.pointer (some ⟨w.heap.size,0,none⟩)] trivial (enters_of Tryz.func265 (by kernel_rfl) rfl) _ _ hmax hbytes _ hseq
 refine cS.mono ?_
 rintro e w' ⟨v,ss,rfl,hS,hrow,hnil,hb⟩
 exact ⟨v,ss,rfl,hS,ownsRow_base_a hrow (by simp),((Below.refl _ w).alloc (Nat.le_refl _) _).trans (hb.mono (by simp))⟩
theorem Dg {w:World} {b n:Nat} {D:DataW (List UInt8)} {c:Pgs} (hown:w.ownsMap Tryz.prog 3 eE b n D) (hD:wV D c) {ss:List Int} (hs:ss.Perm (intKeys D)):ss.mergeSort (fun x y=>decide (x≤y))=(lF c).map (·.no):=by
 obtain ⟨es,hE,hpw,_⟩:=hown.entries ju
 obtain ⟨es',hE',hko⟩:=hown.keysOf
 obtain rfl:es=es':=by rw [hE] at hE';simpa using hE'
 subst hE
 have hp:=wN c
 have hpw':((lF c).map (·.no)).Pairwise (fun x y=>x<y):=List.pairwise_map.2 hp
 have hk:((lF c).map (·.no)).Perm (intKeys (.map es)):=perm_intKeys hpw (fun p hp=>by obtain ⟨v,hv⟩:=hko p hp;obtain ⟨x,_,hx,_⟩:=Maps.keyOf_i64 Tryz.underlying3 hv;exact ⟨x,hx⟩) (hpw'.imp fun h=>Int.ne_of_lt h) (fun x=>by
  rw [hD.has,List.mem_map]
  constructor
  ·rintro ⟨y,hy,rfl⟩
   obtain ⟨k,h1,h2⟩:=gD.1 hy
   rw [h1,Int.toNat_natCast,h2];simp
  ·intro h
   have h0:0≤x∧(c.getD x.toNat none).isSome=true:=by simpa using h
   obtain ⟨k,rfl⟩:=Int.eq_ofNat_of_zero_le h0.1
   rw [Int.toNat_natCast] at h0
   obtain ⟨q,hq⟩:=Option.isSome_iff_exists.1 h0.2
   exact ⟨⟨(k:Int),q⟩,gD.2 ⟨k,rfl,hq⟩,rfl⟩)
 rw [show (fun x y:Int=>decide (x≤y))=leI from rfl,mergeSort_of_perm_i (hs.trans hk.symm)]
 exact List.mergeSort_of_pairwise (hpw'.imp fun h=>by simp only [leI,decide_eq_true_eq];omega)
theorem vu {w:World} {b:Nat} {c:Pgs} (h:dw w b c) (hc:c.length≤1000):
  Calls Tryz.prog 241 #[.func (.func 265) #[] #[.pointer (some ⟨w.heap.size,0,none⟩)]] (w.alloc (.cells #[.map (some b)] 82)) fun e w'=>∃ v:Value,e=.returned v ∧
   w'.ownsRow w.heap.size 3 1 v (ey c) ((lF c).map fun x=>Value.int .i64 x.no)∧Below w.heap.size w w':=by
 obtain ⟨D,hown,hD⟩:=h
 have hsz:Maps.size D≤1000:=by rw [hD.size];exact Nat.le_trans List.countP_le_length hc
 refine (Fj b _ D eE w hown (by unfold maxLen;omega) (by omega)).mono ?_
 rintro e w' ⟨v,ss,rfl,hS,hrow,hb⟩
 have hk:=Dg hown hD hS
 have hl:ss.length=ey c:=by
  have:=congrArg List.length hk
  rw [List.length_mergeSort,List.length_map,dt] at this
  exact this
 rw [hk,hl,List.map_map] at hrow
 exact ⟨v,rfl,hrow,hb⟩
end

section
open Go.RowKit Go.Maps
open Dk (av aa)
open Jn (Chg)
theorem GV:∃ i z,Tryz.prog.info? 256=some i∧i.zero=some z∧i.size=65:=by
 obtain ⟨i,hi,hz,hs,_⟩:=info_parts sf
 exact ⟨i,_,hi,hz,hs⟩
theorem rA (w:World) (c:Chg) (hp:c.aK.length=64):(Instr.buildSlice 224 1 #[(0,Iq c)]).run Tryz.prog w=.ok (.slice (some ⟨w.heap.size,0,none⟩) 1 1) (w.alloc (.cells (bO c).toArray 256)):=by
 obtain ⟨i,z,hi,hz,hs⟩:=GV
 refine run_buildSlice w 224 256 1 #[(0,Iq c)] _ i z Tryz.underlying224 hi hz (by rw [hs];omega) (by rw [hs];omega) ?_
 rw [hs]
 have h:=Great.fill_whole (s:=65) (by omega) [Iq c] ((Array.range (1*65)).map (z.cells[· % z.cells.size]!)) (fun v hv=>by
  rw [List.mem_singleton] at hv
  rw [hv]
  show (bO c).toArray.size=65
  rw [List.size_toArray,cv hp]) (by simp)
 refine h.trans ?_
 simp [Iq,Value.cells]
theorem mR {ops:Array Oper} {rest:List Oper} {o:Oper} {a:Act} {w:World} {Q:Exit→Act→World→Prop} (c:Chg) (hp:c.aK.length=64) (x:Operand) (ho:o.op=.buildSlice 224 1 #[(0,x)]) (hw:Region.wanted o (yielded ops a.tmps)=true) (hx:a.eval x=Iq c)
  (h:wpList Tryz.prog ops Q rest (a.put o.dst (.slice (some ⟨w.heap.size,0,none⟩) 1 1)) (w.alloc (.cells (bO c).toArray 256))):wpList Tryz.prog ops Q (o::rest) a w:=
 BigFrame.wpList_want hw fun _ hK=>by
  have hr:=rA w c hp
  unfold Oper.wp execOp
  simp only [ho,List.map_toArray,List.map_cons,List.map_nil,hx,Sem.run_bind,hr,Result.andThen_ok]
  exact hK _ _ h
theorem tr (w:World) (n:Nat) (hn:n≤1000):(Instr.makeSlice 224 (.int .i64 0) (.int .i64 (n:Int))).run Tryz.prog w=.ok (.slice (some ⟨w.heap.size,0,none⟩) 0 n) (w.alloc (.cells (je n) 256)):=by
 obtain ⟨i,hi,hz,hs,hb⟩:=info_parts sf
 have:=run_make (P:=Tryz.prog) w 224 256 i (.agg jG) Tryz.underlying224 hi hz .i64 .i64 0 (n:Int) (by omega) (by omega) (by rw [hb];omega) (by omega)
 rw [hs,Int.toNat_natCast] at this
 exact this
theorem Co (w:World) (n:Nat) (hn:n≤1000):(w.alloc (.cells (je n) 256)).ownsRow w.heap.size 256 65 (.slice (some ⟨w.heap.size,0,none⟩) 0 n) 0 []:=
 World.ownsRow_made w _ n (Nat.le_refl _) (by unfold maxLen;omega) (sC n)
theorem JI (xs:List Chg) (h:∀ x∈xs,x.aK.length=64):∀ (i:Nat) (x:Chg) (j:Nat) (v:Value),xs[i]?=some x→(bO x)[j]?=some v→(xs.flatMap bO)[i*65+j]?=some v:=by
 induction xs with
 | nil=>intro i x j v hx;simp at hx
 |
  cons y r ih=>
  intro i x j v hx hv
  have hy:=cv (h y (by simp))
  rw [List.flatMap_cons]
  cases i with
  |
   zero=>
   simp at hx
   subst hx
   have hj:j<65:=by rw [← hy];exact (List.getElem?_eq_some_iff.1 hv).1
   rw [Nat.zero_mul,Nat.zero_add,List.getElem?_append_left (by rw [hy];exact hj)]
   exact hv
  |
   succ i=>
   rw [List.getElem?_append_right (by rw [hy];omega),hy,show (i+1)*65+j - 65=i*65+j by omega]
   exact ih (fun z hz=>h z (by simp [hz])) i x j v (by simpa using hx) hv
theorem Cp {w:World} {base:Nat} {A:Option Addr} {n c:Nat} {xs:List Chg} (h:w.ownsRow base 256 65 (.slice A n c) n (xs.flatMap bO)) (hx:∀ x∈xs,x.aK.length=64) (hn:n=xs.length) {L:List Nat} (hL:∀ k∈L,k<base):va w A L xs:=fun h0=>by
 obtain ⟨h1,h2⟩:=h
 rcases h2 with ⟨e,e2⟩ | ⟨g,cap,cur,e,hb,hg,_,_,hsz,htk⟩
 ·exfalso;omega
 ·injection e with e _ _
  refine ⟨g,0,e,(Array.getElem?_eq_some_iff.1 hg).1,fun q=>by have:=hL g q;omega,fun i x hxi j v hv=>?_⟩
  have hf:=JI xs hx i x j v hxi hv
  rw [← htk] at hf
  have hlt:i*65+j<n*65:=by
   have:=(List.getElem?_eq_some_iff.1 hf).1
   rw [List.length_take] at this;omega
  rw [List.getElem?_take_of_lt hlt] at hf
  simp only [World.cell?,hg,Nat.zero_add]
  simp only [Option.isSome_none,Bool.false_eq_true,if_false]
  rw [← Array.getElem?_toList]
  exact hf
structure ChI (w:World) (cs:List Chg) (g:Nat) (l:Value) (k:Nat) (W:World):Prop where
 row:W.ownsRow w.heap.size 256 65 l k ((cs.take k).flatMap bO)
 keys:∀ i x,cs[i]?=some x→W.cell? ⟨g,i,none⟩=some (.int .i64 x.no)
 bel:Below w.heap.size w W
 ne:l.ownBlock≠some g
 glt:g<W.heap.size
theorem ChI.next {w:World} {cs:List Chg} {g:Nat} {l l':Value} {k:Nat} {W W':World} {x:Chg} (h:ChI w cs g l k W) (hx:cs[k]?=some x) (hrow:W'.ownsRow w.heap.size 256 65 l' (k+1) ((cs.take k).flatMap bO++bO x))
  (hg:(W.alloc (.cells (bO x).toArray 256)).grownBy W' l.ownBlock) (hloc:l'.ownBlock=l.ownBlock∨l'.ownBlock=some (W.alloc (.cells (bO x).toArray 256)).heap.size):ChI w cs g l' (k+1) W' where
 row:=by
  obtain ⟨h1,h2⟩:=List.getElem?_eq_some_iff.1 hx
  rw [List.take_succ_eq_append_getElem h1,List.flatMap_append,h2]
  simpa using hrow
 keys:=fun i y hy=>by
  have e1:W'.cell? ⟨g,i,none⟩=(W.alloc (.cells (bO x).toArray 256)).cell? ⟨g,i,none⟩:=World.cell?_of_block (a:=⟨g,i,none⟩) (hg.block g (by have:=h.glt;simp;omega) (fun e=>h.ne e.symm))
  rw [e1]
  exact (((Below.refl W.heap.size W).alloc (Nat.le_refl _) (.cells (bO x).toArray 256)).cell (p:=⟨g,i,none⟩) h.glt).trans (h.keys i y hy)
 bel:=(h.bel.alloc h.bel.size _).grown hg (by have:=h.bel.size;simp;omega) (fun j hj=>(h.row.lt j hj).1)
 ne:=by
  rcases hloc with e | e
  ·rw [e];exact h.ne
  ·rw [e]
   have:=h.glt
   intro q
   injection q with q
   simp at q
   omega
 glt:=Nat.lt_of_lt_of_le h.glt (Nat.le_trans (by simp) hg.size)
theorem ym (w:World) (vs:List Value) (t:TypeId):∀ j u,vs[j]?=some u→(w.alloc (.cells vs.toArray t)).cell? ((⟨w.heap.size,0,none⟩:Addr).add j)=some u:=fun j u hj=>by
 have:=(bh w vs t).range j u hj
 rw [Nat.zero_add] at this
 unfold Addr.add
 by_cases e:j=0
 ·subst e;rw [if_pos rfl];exact this
 ·rw [if_neg e,Nat.zero_add];exact this
theorem qw {w:World} {base:Nat} {e:TypeId} {size:Nat} {v:Value} {k:Nat} {xs:List Value} (h:w.ownsRow base e size v k xs):∃ A c,v=.slice A k c:=by
 rcases h.2 with ⟨e1,e2⟩ | ⟨g,cap,cur,e1,_⟩
 ·exact ⟨none,0,by rw [e1,e2]⟩
 ·exact ⟨_,_,e1⟩
theorem BD {w:World} {b:Blk} {s:Sto} (h:ay w b s):Calls Tryz.prog 203 #[.pointer (some ⟨b.s,0,none⟩)] w fun e w'=>
  ∃ (A:Option Addr) (c:Nat),e=.returned (.slice A (lF s.group).length c)∧va w' A b.all (lF s.group)∧Below w.heap.size w w':=by
 have HS:=Lib.hid h
 have c5:=h.c5
 have hlen:=h.group.len
 have HGL:Hid (s.group.length≤1000):=Lib.hid (by rw [h.ok.uY];have:=h.ew.ok.small;omega)
 have HPG:=Lib.hid (ml h.ok.gpg)
 have HN:Hid (ey s.group=(lF s.group).length):=Lib.hid (dt _).symm
 have hn:ey s.group≤1000:=Nat.le_trans (wL _) HGL.out
 have HLT:=Lib.hid h.lt
 have HLK:=Lib.hid (fun (W:World) (hW:Below w.heap.size w W) (i:Nat) (hi:i≤1000)=>(h.below hW).group.Mm i hi)
 have HC5:=Lib.hid (fun (W:World) (hW:Below w.heap.size w W)=>(h.below hW).c5)
 have HMM:=Lib.hid (fun x (hx:x∈lF s.group)=>gD.1 hx)
 clear h
 have hlen':∀ ty,(Builtin.len_ #[82] ty #[.map (some b.g)]).run Tryz.prog w=.ok (.int .i64 ((lF s.group).length:Nat)) w:=fun ty=>by
  rw [← HN.out];exact hlen ty
 rw [HN.out] at hn
 clear hlen
 have HSR:=Lib.hid (fun (W:World) (hW:Below w.heap.size w W)=>vu (HS.out.below hW).group HGL.out)
 rw [HN.out] at HSR
 generalize lF s.group=cs at *
 obtain ⟨n,hcn⟩:∃ n,cs.length=n:=⟨_,rfl⟩
 have HCN:=Lib.hid hcn
 rw [hcn] at hlen' hn HSR HN ⊢
 clear hcn
 have hmk:=tr w n hn
 have HOW:=Lib.hid (Co w n hn)
 have HW1:Hid (Below w.heap.size w (w.alloc (.cells (je n) 256))):=Lib.hid ((Below.refl _ _).alloc (Nat.le_refl _) _)
 have HSZ:Hid (w.heap.size<(w.alloc (.cells (je n) 256)).heap.size):=Lib.hid (by simp)
 have c5a:(w.alloc (.cells (je n) 256)).cell? ⟨b.s,5,none⟩=some (.map (some b.g)):=HC5.out _ HW1.out
 go_enter Tryz.func203,Tryz.ntmps203
 go_wp2_with fail
 clear hmk hlen' c5
 generalize w.alloc (.cells (je n) 256)=w1 at HOW HW1 HSZ c5a ⊢
 refine (Lq _ _).mono ?_
 rintro e w2 ⟨rfl,rfl⟩
 go_wp2_with fail
 refine (HSR.out w1 HW1.out).mono ?_
 rintro e w3 ⟨v,rfl,hrow,hB3⟩
 have HB3:Hid (Below w.heap.size w w3):=Lib.hid (HW1.out.trans (hB3.mono HW1.out.size))
 have HO3:Hid (w3.ownsRow w.heap.size 256 65 (.slice (some ⟨w.heap.size,0,none⟩) 0 n) 0 []):=Lib.hid (HOW.out.kept (row:=none) ⟨hB3.os,hB3.tape,hB3.output,hB3.size,fun k hk _=>hB3.block k hk⟩ (Or.inr (by simp [Value.ownBlock])))
 obtain ⟨hl,hh⟩:=hrow
 rcases hh with ⟨rfl,hn0⟩ | ⟨g,cap,cur,rfl,hg1,hg2,hg3,hg4,hg5,hg6⟩
 ·have HNIL:Hid (cs=[]):=Lib.hid (List.eq_nil_of_length_eq_zero (by rw [HCN.out];exact hn0))
  subst hn0
  clear hl HSR HOW HW1 HSZ c5a hB3
  go_wp2_with fail
  go_loopw [3,19] (fun l i wr=>l=.slice (some ⟨w.heap.size,0,none⟩) 0 0∧i=.int .i64 0∧wr=w3) (fun _ _ _=>0)
  case atStart=>exact ⟨rfl,rfl,rfl⟩
  case round=>
   obtain ⟨rfl,rfl,rfl⟩:=hrel
   go_wp2_with fail
   go_ret
   refine ⟨_,_,rfl,?_,HB3.out⟩
   rw [HNIL.out]
   intro h0
   simp at h0
 ·have HK:Hid (∀ i x,cs[i]?=some x→w3.cell? ⟨g,i,none⟩=some (.int .i64 x.no)):=Lib.hid (fun i x hx=>by
   have h1:(cs.map fun x=>Value.int .i64 x.no)[i]?=some (.int .i64 x.no):=by rw [List.getElem?_map,hx];rfl
   rw [← hg6] at h1
   have hlt:i<n*1:=by
    have:=(List.getElem?_eq_some_iff.1 h1).1
    rw [List.length_take] at this;omega
   rw [List.getElem?_take_of_lt hlt] at h1
   simp only [World.cell?,hg2]
   simp only [Option.isSome_none,Bool.false_eq_true,if_false]
   rw [← Array.getElem?_toList]
   exact h1)
  have HGG:Hid (g<w3.heap.size):=Lib.hid (Array.getElem?_eq_some_iff.1 hg2).1
  have HST:Hid (ChI w cs g (.slice (some ⟨w.heap.size,0,none⟩) 0 n) 0 w3):=Lib.hid ⟨HO3.out,HK.out,HB3.out,(by have:=HSZ.out;simp [Value.ownBlock];omega),HGG.out⟩
  have HCAP:Hid (cap≤maxLen):=Lib.hid hg4
  unfold maxLen at hg4
  clear hl hg1 hg2 hg5 hg6 HK HGG HB3 HO3 HSR HOW HW1 HSZ c5a hB3
  go_wp2_with fail
  go_loopw [3,19] (fun l i wr=>∃ (A:Option Addr) (c k:Nat),k≤n∧l=.slice A k c∧i=.int .i64 k∧ChI w cs g l k wr) (fun _ i _=>n - (intOf i).toNat)
  case atStart=>exact ⟨_,_,0,Nat.zero_le _,rfl,rfl,HST.out⟩
  case round=>
   obtain ⟨A,c,k,hk,rfl,rfl,hci⟩:=hrel
   have HCI:=Lib.hid hci
   clear hci HST
   by_cases hlt:k<n
   ·obtain ⟨x,hx⟩:∃ x,cs[k]?=some x:=⟨_,List.getElem?_eq_getElem (by rw [HCN.out];exact hlt)⟩
    have HX:=Lib.hid hx
    have hcell:=HCI.out.keys k x hx
    obtain ⟨i,hi1,hi2⟩:=HMM.out x (List.mem_of_getElem? hx)
    have HXP:=Lib.hid (HPG.out x (List.mem_of_getElem? hx))
    have hi3:i≤1000:=by have:=xB hi2;have:=HGL.out;omega
    have hlook:=HLK.out wr HCI.out.bel i hi3
    rw [hi2] at hlook
    simp only [Option.getD_some] at hlook
    rw [hi1] at hcell
    have HXE:Hid (x=⟨(i:Int),x.aK⟩):=Lib.hid (by cases x;simp at hi1 ⊢;exact hi1)
    have c5:=HC5.out wr HCI.out.bel
    obtain ⟨i0,hi0,hz0,hs0,hb0⟩:=info_parts sf
    have HI0:=Lib.hid hi0
    have HZ0:=Lib.hid hz0
    have HS0:=Lib.hid hs0
    have HB0:=Lib.hid hb0
    clear hx hi1 hi2 hi3 hi0 hz0 hs0 hb0
    have hlt':(k:Int)<(n:Int):=by omega
    go_wp2_with (first
     | (with_reducible refine nH (i:Int) x.aK HXP.out rfl (.tmp 24) (.tmp 30) rfl (some 31) rfl rfl rfl ?_)
     | (with_reducible refine mR ⟨(i:Int),x.aK⟩ HXP.out (.tmp 31) rfl rfl rfl ?_)
     | (at_builtin;go_must (refine wpList_append_own_at _ rfl (.tmp 23) (.tmp 32) 224 rfl w.heap.size 256 i0 _ 65 72 Tryz.underlying224 HI0.out HZ0.out HS0.out HB0.out fi (by omega) _ k _ rfl (HCI.out.row.alloc _) ⟨wr.heap.size,0,none⟩ 1 1 (bO ⟨(i:Int),x.aK⟩) rfl (cv HXP.out) (ym _ _ _) (pz _) (by unfold maxLen;omega) (by omega) (by have:=HCI.out.bel.size;simp;omega) ?_);intro v' w5 hown' hgrow hnil hloc;obtain ⟨A',c',rfl⟩:=qw hown';have HNX:=Lib.hid (HCI.out.next HX.out (by rw [HXE.out];exact hown') (by rw [HXE.out];exact hgrow) (by rw [HXE.out];exact hloc));clear hown' hgrow hnil hloc))
    go_roundw
    case rel=>exact ⟨_,_,k+1,by omega,rfl,by go_num,HNX.out⟩
    case measure=>simp [intOf];omega
   ·obtain rfl:k=n:=by omega
    have HCH:Hid (va wr A b.all cs):=Lib.hid (by
     have hr:=HCI.out.row
     rw [List.take_of_length_le (by rw [HCN.out];exact Nat.le_refl _)] at hr
     exact Cp hr HPG.out HCN.out.symm HLT.out)
    have HBE:=Lib.hid HCI.out.bel
    go_wp2_with fail
    go_ret
    exact ⟨_,_,rfl,HCH.out,HBE.out⟩
end

section
open Go.RowKit Go.Maps
open Dk (av aa)
open Jn (Chg)
def Hz (s:Sto):Sto:=if ey s.group=0 then s else iu s
def It (b:Blk) (s:Sto) (w:World) (e:Ending) (w':World):Prop:=∃ E,e=.returned (.int .i64 E)∧E=bY s∧ay w' b (Hz s)∧aB [b.j,b.d,b.l,b.m] w w'
theorem tj {w:World} {b:Blk} {s:Sto} (h:ay w b s) (ho:s.over=false) (hq0:0≤s.q) (hq1:s.q<4294967290) (A:Option Addr) (c:Nat) (hc:va w A b.all (lF s.group)):
  Calls Tryz.prog 202 #[.pointer (some ⟨b.j,0,none⟩),.slice A (lF s.group).length c] w (It b s w):=by
 obtain ⟨q,hj,hq⟩:=h.ja
 have hqq:=hq ho
 subst hqq
 rw [ho] at hj
 have ne:=Blk.ne h.nd
 have hjd:b.j∉[b.d,b.l,b.m]:=by simp;omega
 have hnn:¬ s.over=true:=by rw [ho];simp
 have m1:b.s∈b.all∧b.t∈b.all∧b.g∈b.all:=by simp [Blk.all]
 have m2:b.s∉[b.d,b.l,b.m,b.j]∧b.t∉[b.d,b.l,b.m,b.j]∧b.g∉[b.d,b.l,b.m,b.j]:=by simp;omega
 have hO:=Ct hj h.ew hjd h.ok.a9 h.ok.z9 h.ok.room h.ok.r32 h.ok.rz h.ok.reg A c (hc.mono (by simp [Blk.all])) (ml h.ok.gpg) (by rw [dt];have:=h.ok.Kt;have:=h.ok.r32;omega) hq0 hq1
 unfold Comm at hO
 rw [show Jn.runs s.dk (Jn.steps s.a s.q (lF s.group))=sx s from rfl] at hO
 have hcok:=jM h.ok
 have hse:¬ ey s.group=0→bY s=(sx s).2:=fun hz=>by unfold bY;rw [if_neg hnn,if_neg hz]
 have hsm:Hz s=if ey s.group=0 then s else { s with dk:=(sx s).1,over:=(sx s).2 != 0,q:=s.q+2 }:=rfl
 unfold iu at hcok
 unfold It
 rw [hsm]
 generalize sx s=R at *
 refine hO.mono ?_
 rintro e w' (⟨h1,_⟩ | ⟨h1,_⟩ | ⟨h1,rfl,h3⟩ | ⟨hm,rfl,hd,⟨q',hj',hq'⟩,ho'⟩)
 ·rw [qS h.ok.gpg] at h1;cases h1
 ·rw [dt] at h1
  have:=h.ok.Kt
  omega
 ·have hz:ey s.group=0:=by rw [← dt,h1];rfl
  refine ⟨0,rfl,?_,?_,aB.below h3⟩
  ·unfold bY;rw [if_neg hnn,if_pos hz]
  ·rw [if_pos hz];exact h.below h3
 ·have hz:¬ ey s.group=0:=by rw [← dt];have:=hm.pos;omega
  refine ⟨_,rfl,(hse hz).symm,?_,ho'.mono (by simp)⟩
  rw [if_neg hz]
  have e1:∀ k,k∈b.all→k∉[b.d,b.l,b.m,b.j]→w'.heap[k]?=w.heap[k]?:=fun k hk hn=>ho'.block k (h.lt k hk) hn
  have f1:=h.row.block (e1 b.s m1.1 m2.1)
  have f2:=h.step.block (e1 b.t m1.2.1 m2.2.1)
  have f3:=h.group.block (e1 b.g m1.2.2 m2.2.2)
  have f4:(R.2 != 0)=false→q'=s.q+2:=fun hh=>hq' (by simpa using hh)
  clear hO hse hsm ho' e1 hc hq
  exact ⟨f1,⟨q',hj',f4⟩,hd,f2,f3,h.nd,hcok⟩
theorem Bq {s:Sto} (ho:s.over=false) (he:¬ bY s=0):cN s=Hz s:=by
 have hnn:¬ s.over=true:=by rw [ho];simp
 unfold bY at he
 rw [if_neg hnn] at he
 unfold cN Hz
 rw [if_neg hnn]
 by_cases hz:ey s.group=0
 ·rw [if_pos hz] at he;exact absurd rfl he
 ·rw [if_neg hz] at he
  rw [if_neg hz,if_neg hz,if_neg he]
theorem yU {s:Sto} (h:s.Ok) (ho:s.over=false) (he:bY s=0):cN s={ Hz s with group:=en (Hz s).dk.last.length }:=by
 have hnn:¬ s.over=true:=by rw [ho];simp
 unfold bY at he
 rw [if_neg hnn] at he
 unfold cN Hz
 rw [if_neg hnn]
 by_cases hz:ey s.group=0
 ·rw [if_pos hz,if_pos hz]
  have:=px hz
  rw [h.uY] at this
  rw [← this]
 ·rw [if_neg hz] at he
  rw [if_neg hz,if_neg hz,if_pos he]
  have:(iu s).dk.last.length=s.dk.last.length:=gw s
  rw [this]
theorem tb {w:World} {b:Blk} {s:Sto} (h:ay w b s) (hq0:0≤s.q) (hq1:s.q<4294967290):Calls Tryz.prog 153 #[.pointer (some ⟨b.s,0,none⟩)] w fun e w'=>
  e=.returned (.int .i64 (bY s))∧ay w' b (cN s)∧aB [b.j,b.d,b.l,b.m,b.g] w w':=by
 have HS:=Lib.hid h
 have HV:=Lib.hid (kO h)
 cases ho:s.over with
 |
  true=>
  have HE:Hid (bY s=5):=Lib.hid (by unfold bY;rw [if_pos ho])
  have HF:Hid (cN s=s):=Lib.hid (by unfold cN;rw [if_pos ho])
  rw [HE.out,HF.out]
  rw [ho] at HV
  clear h ho HE HF
  go_enter Tryz.func153,Tryz.ntmps153
  go_wp2_with (go_at_call 95;refine HV.out.mono ?_;rintro e w' ⟨rfl,rfl⟩)
  go_ret
  exact ⟨rfl,HS.out,aB.refl _ _⟩
 |
  false=>
  rw [ho] at HV
  have HCM:=Lib.hid (fun (W:World) (A:Option Addr) (c:Nat) (hW:ay W b s) (hc:va W A b.all (lF s.group))=>tj hW ho hq0 hq1 A c hc)
  have HBAD:=Lib.hid (fun (he:¬ bY s=0)=>Bq ho he)
  have HGOOD:=Lib.hid (fun (he:bY s=0)=>yU h.ok ho he)
  clear h ho hq0 hq1
  go_enter Tryz.func153,Tryz.ntmps153
  go_wp2_with (go_at_call 95;refine HV.out.mono ?_;rintro e w' ⟨rfl,rfl⟩)
  refine wp_region_noPanic ?_
  refine wp_region_held_drew (S:=fun W=>W.cell? ⟨b.s,0,none⟩=some (.pointer (some ⟨b.j,0,none⟩))) (by kernel_rfl) (HS.out.drew.c0) (fun hHeld=>?_)
  have HB1:Hid (Below w.heap.size w w.drew):=Lib.hid (Below.refl _ _).drew
  have HS1:=Lib.hid HS.out.drew
  generalize w.drew=w1 at HB1 HS1 hHeld ⊢
  refine aF (i:=0) (d:=some 6) (v:=.pointer (some ⟨b.s,0,none⟩)) rfl rfl (by kernel_rfl) (by kernel_rfl) (by kernel_rfl) (fun _ _ _ h=>h) (Or.inl ⟨by kernel_rfl,?_⟩) hHeld ?_
  ·intro w hSw;have c0:w.cell? ⟨b.s,0,none⟩=some (.pointer (some ⟨b.j,0,none⟩)):=hSw;go_simp
  (try simp only [Act.put,puA,puB,puC])
  refine aF (i:=1) (d:=some 7) (v:=.pointer (some ⟨b.s,0,none⟩)) rfl rfl (by kernel_rfl) (by kernel_rfl) (by kernel_rfl) (fun _ _ _ h=>h) (Or.inl ⟨by kernel_rfl,?_⟩) hHeld ?_
  ·intro w hSw;have c0:w.cell? ⟨b.s,0,none⟩=some (.pointer (some ⟨b.j,0,none⟩)):=hSw;go_simp
  (try simp only [Act.put,puA,puB,puC])
  refine aF (i:=2) (d:=some 8) (v:=.pointer (some ⟨b.s,0,none⟩)) rfl rfl (by kernel_rfl) (by kernel_rfl) (by kernel_rfl) (fun _ _ _ h=>h) (Or.inl ⟨by kernel_rfl,?_⟩) hHeld ?_
  ·intro w hSw;have c0:w.cell? ⟨b.s,0,none⟩=some (.pointer (some ⟨b.j,0,none⟩)):=hSw;go_simp
  (try simp only [Act.put,puA,puB,puC])
  refine aF (i:=3) (d:=some 9) (v:=.pointer (some ⟨b.j,0,none⟩)) rfl rfl (by kernel_rfl) (by kernel_rfl) (by kernel_rfl) (fun _ _ _ h=>h) (Or.inl ⟨by kernel_rfl,?_⟩) hHeld ?_
  ·intro w hSw;have c0:w.cell? ⟨b.s,0,none⟩=some (.pointer (some ⟨b.j,0,none⟩)):=hSw;go_simp
  (try simp only [Act.put,puA,puB,puC])
  refine aF (i:=4) (d:=some 10) (v:=.pointer (some ⟨b.s,0,none⟩)) rfl rfl (by kernel_rfl) (by kernel_rfl) (by kernel_rfl) (fun _ _ _ h=>h) (Or.inl ⟨by kernel_rfl,?_⟩) hHeld ?_
  ·intro w hSw;have c0:w.cell? ⟨b.s,0,none⟩=some (.pointer (some ⟨b.j,0,none⟩)):=hSw;go_simp
  (try simp only [Act.put,puA,puB,puC])
  refine wpAnyH_ready (rs:=[5]) (by kernel_rfl) (by simp) ?_
  refine AllReadyH.cons rfl (fun K hK=>?_) AllReadyH.nil
  go_simp
  (go_at_call 203;refine (BD HS1.out).mono ?_;rintro e w2 ⟨A,c,rfl,hC2,hB2⟩;have HS2:=Lib.hid (HS1.out.below hB2);have HC2:=Lib.hid hC2;have HB2:=Lib.hid hB2;clear hC2 hB2)
  (try go_wp2_with fail)
  refine hK.out _ _ HS2.out.c0 (fun hHeld=>?_)
  clear hK K
  (try simp only [Act.put,puA,puB,puC])
  refine wpAnyH_ready (rs:=[6]) (by kernel_rfl) (by simp) ?_
  refine AllReadyH.cons rfl (fun K hK=>?_) AllReadyH.nil
  go_simp
  (go_at_call 202;refine (HCM.out w2 A c HS2.out HC2.out).mono ?_;rintro e w3 ⟨E,rfl,hE,hS3,hO3⟩;have HS3:=Lib.hid hS3;have HO3:=Lib.hid hO3;have HE:=Lib.hid hE;clear hS3 hO3 hE)
  (try go_wp2_with fail)
  refine hK.out _ _ HS3.out.c0 (fun hHeld=>?_)
  clear hK K
  (try simp only [Act.put,puA,puB,puC])
  refine aF (i:=7) (d:=some 3) (v:=.int .i64 E) rfl rfl (by kernel_rfl) (by kernel_rfl) (by kernel_rfl) (fun _ _ _ h=>h) (Or.inl ⟨by kernel_rfl,?_⟩) hHeld ?_
  ·intro w hSw;have c0:w.cell? ⟨b.s,0,none⟩=some (.pointer (some ⟨b.j,0,none⟩)):=hSw;go_simp
  (try simp only [Act.put,puA,puB,puC])
  refine wpAnyH_done (by kernel_rfl) ?_ _
  refine NoPanic.normal ?_
  have HOO:Hid (aB [b.j,b.d,b.l,b.m,b.g] w w3):=Lib.hid ((aB.below (HB1.out.trans (HB2.out.mono HB1.out.size))).trans (HO3.out.mono (by simp)))
  clear HS HV HCM HB1 HS1 HB2 HS2 HC2 HO3
  by_cases hE0:E=0
  ·subst hE0
   have HG:=Lib.hid (HGOOD.out HE.out.symm)
   have c5:=HS3.out.c5
   obtain ⟨w4,hcl0,hmp,htn⟩:=HS3.out.group.clear (Hz s).dk.last.length 0
   have hcl:∀ ty,(Builtin.clear_ #[82] ty #[.map (some b.g)]).run Tryz.prog w3=.ok (.tuple #[]) w4:=fun ty=>hcl0
   have HM:=Lib.hid hmp
   have HT:=Lib.hid htn
   clear hcl0 hmp htn HBAD HGOOD
   go_wp2_with fail
   go_ret
   have ho:aB [b.g] w3 w4:=aB.grown HT.out.grown (by simp)
   refine ⟨by rw [← HE.out];rfl,?_,HOO.out.trans (ho.mono (by simp))⟩
   rw [HG.out]
   exact HS3.out.xo ho HM.out (od HS3.out.ok rfl)
  ·have HG:=Lib.hid (HBAD.out (by rw [← HE.out];exact hE0))
   have hne2:(E == 0)=false:=by simpa using hE0
   have hne3:(E != 0)=true:=by simpa using hE0
   clear hE0 HBAD HGOOD
   go_wp2_with fail
   go_ret
   exact ⟨by rw [← HE.out];rfl,by rw [HG.out];exact HS3.out,HOO.out⟩
end

section
open Go.RowKit Go.Maps
open Dk (av aa)
open Jn (Chg)
theorem IG {s:Sto} (h:s.Ok) (hc:nR s≤s.r):Sto.Ok { s with group:=jw s.group s.step }:=
 ⟨h.AD,by show (jw _ _).length=_;rw [dK];exact h.uY,h.spg,mF h.gpg h.spg,h.KL,hc,h.a9,h.z9,h.reg,h.room,h.r1,h.r32,h.rz⟩
theorem qR {w:World} {b:Blk} {s:Sto} (h:ay w b s) (hc:nR s≤s.r):Calls Tryz.prog 254 #[.map (some b.g),.map (some b.t)] w fun e w'=>
  e=.returned (.tuple #[])∧ay w' b { s with group:=jw s.group s.step }∧aB [b.g] w w':=by
 have ne:=Blk.ne h.nd
 refine (GP h.group h.step (by omega) (by rw [h.ok.AD,h.ok.uY]) (by rw [h.ok.uY];have:=h.ew.ok.small;omega)).mono ?_
 rintro e w' ⟨rfl,hm,ho⟩
 exact ⟨rfl,h.xo ho hm (IG h.ok hc),ho⟩
theorem IE {s:Sto} (h:s.Ok) (hn:s.dk.last.length≤512):nR s≤512:=by
 unfold nR
 refine Nat.le_trans (wL _) ?_
 rw [dK,h.uY];exact hn
theorem Bz {w:World} {b:Blk} {s:Sto} (h:ay w b s) (hq0:0≤s.q) (hq1:s.q<4294967290):Calls Tryz.prog 219 #[.pointer (some ⟨b.s,0,none⟩)] w fun e w'=>
  e=.returned (.int .i64 (et s))∧ay w' b (fp s)∧aB [b.j,b.d,b.l,b.m,b.g,b.t] w w':=by
 have HS:=Lib.hid h
 have HV:=Lib.hid (kO h)
 have HOK0:=Lib.hid h.ok
 cases ho:s.over with
 |
  true=>
  have HE:Hid (et s=5):=Lib.hid (by unfold et;rw [if_pos ho])
  have HF:Hid (fp s=s):=Lib.hid (by unfold fp;rw [if_pos ho])
  rw [HE.out,HF.out]
  rw [ho] at HV
  clear h ho HE HF
  go_enter Tryz.func219,Tryz.ntmps219
  go_wp2_with (go_at_call 95;refine HV.out.mono ?_;rintro e w' ⟨rfl,rfl⟩)
  go_ret
  exact ⟨rfl,HS.out,aB.refl _ _⟩
 |
  false=>
  rw [ho] at HV
  have hnn:¬ s.over=true:=by rw [ho];simp
  have HTG:=Lib.hid (fun (W:World) (hW:ay W b s)=>Fh hW)
  have HRM:=Lib.hid (fun (W:World) (hW:ay W b s)=>show Calls Tryz.prog 224 #[.pointer (some ⟨b.j,0,none⟩)] W fun e w'=>e=.returned (.int .i64 (s.r:Int))∧W=w' from by
   obtain ⟨q',hj',_⟩:=hW.ja
   exact oQ hj' hW.ok.room)
  have HSY:=Lib.hid (fun (W:World) (hW:ay W b s)=>tb hW hq0 hq1)
  have hT5:=IE h.ok h.ew.ok.small
  have hR5:=h.ok.r32
  by_cases hr:s.r<nR s
  ·by_cases he:bY s=0
   ·have HE:Hid (et s=0):=Lib.hid (by unfold et;rw [if_neg hnn,if_pos hr,he])
    have HF:Hid (fp s=ri (cN s)):=Lib.hid (by unfold fp;rw [if_neg hnn,if_pos hr,if_pos he])
    have HJK:=Lib.hid (qj h.ok he)
    have HOK:=Lib.hid (xl h.ok)
    rw [he] at HSY
    rw [HE.out,HF.out]
    clear HE HF h ho hnn he hq0 hq1 HOK0
    have hr':(s.r:Int)<(nR s:Int):=by omega
    generalize nR s=T at HTG hT5 hr hr'
    generalize s.r=rr at HRM hR5 hr hr'
    generalize cN s=s1 at HSY HJK HOK ⊢
    go_enter Tryz.func219,Tryz.ntmps219
    go_wp2_with (go_at_call 95;refine HV.out.mono ?_;rintro e w' ⟨rfl,rfl⟩)
    refine wp_region_noPanic ?_
    refine wp_region_held_drew (S:=fun W=>ay W b s) (by kernel_rfl) HS.out.drew (fun hHeld=>?_)
    have HB1:Hid (Below w.heap.size w w.drew):=Lib.hid (Below.refl _ _).drew
    have HS1:=Lib.hid HS.out.drew
    generalize w.drew=w1 at HB1 HS1 hHeld ⊢
    refine aF (i:=0) (d:=some 6) (v:=.pointer (some ⟨b.s,0,none⟩)) rfl rfl (by kernel_rfl) (by kernel_rfl) (by kernel_rfl) (fun _ _ _ h=>h) (Or.inl ⟨by kernel_rfl,?_⟩) hHeld ?_
    ·intro w hSw;have c0:=ay.c0 hSw;go_simp
    (try simp only [Act.put,puA,puB,puC])
    refine aF (i:=2) (d:=some 8) (v:=.pointer (some ⟨b.s,0,none⟩)) rfl rfl (by kernel_rfl) (by kernel_rfl) (by kernel_rfl) (fun _ _ _ h=>h) (Or.inl ⟨by kernel_rfl,?_⟩) hHeld ?_
    ·intro w hSw;have c0:=ay.c0 hSw;go_simp
    (try simp only [Act.put,puA,puB,puC])
    refine aF (i:=3) (d:=some 9) (v:=.pointer (some ⟨b.s,0,none⟩)) rfl rfl (by kernel_rfl) (by kernel_rfl) (by kernel_rfl) (fun _ _ _ h=>h) (Or.inl ⟨by kernel_rfl,?_⟩) hHeld ?_
    ·intro w hSw;have c0:=ay.c0 hSw;go_simp
    (try simp only [Act.put,puA,puB,puC])
    refine aF (i:=4) (d:=some 10) (v:=.pointer (some ⟨b.s,0,none⟩)) rfl rfl (by kernel_rfl) (by kernel_rfl) (by kernel_rfl) (fun _ _ _ h=>h) (Or.inl ⟨by kernel_rfl,?_⟩) hHeld ?_
    ·intro w hSw;have c0:=ay.c0 hSw;go_simp
    (try simp only [Act.put,puA,puB,puC])
    refine aF (i:=5) (d:=some 11) (v:=.pointer (some ⟨b.j,0,none⟩)) rfl rfl (by kernel_rfl) (by kernel_rfl) (by kernel_rfl) (fun _ _ _ h=>h) (Or.inl ⟨by kernel_rfl,?_⟩) hHeld ?_
    ·intro w hSw;have c0:=ay.c0 hSw;go_simp
    (try simp only [Act.put,puA,puB,puC])
    refine wpAnyH_ready (rs:=[1]) (by kernel_rfl) (by simp) ?_
    refine AllReadyH.cons rfl (fun K hK=>?_) AllReadyH.nil
    go_simp
    (go_at_call 253;refine (HTG.out w1 HS1.out).mono ?_;rintro e w2 ⟨rfl,hB2⟩;have HS2:=Lib.hid (HS1.out.below hB2);have HB2:=Lib.hid (HB1.out.trans (hB2.mono HB1.out.size));clear hB2 HS1 HB1)
    (try go_wp2_with fail)
    refine hK.out _ _ HS2.out (fun hHeld=>?_)
    clear hK K
    (try simp only [Act.put,puA,puB,puC])
    refine wpAnyH_ready (rs:=[6]) (by kernel_rfl) (by simp) ?_
    refine AllReadyH.cons rfl (fun K hK=>?_) AllReadyH.nil
    go_simp
    (go_at_call 224;refine (HRM.out w2 HS2.out).mono ?_;rintro e w3 ⟨rfl,hw3⟩;subst hw3)
    (try go_wp2_with fail)
    refine hK.out _ _ HS2.out (fun hHeld=>?_)
    clear hK K
    (try simp only [Act.put,puA,puB,puC])
    refine aF (i:=7) (d:=some 13) (v:=.bool true) rfl rfl (by kernel_rfl) (by kernel_rfl) (by kernel_rfl) (fun _ _ _ h=>h) (Or.inl ⟨by kernel_rfl,?_⟩) hHeld ?_
    ·intro w hSw;have c0:=ay.c0 hSw;go_simp
    (try simp only [Act.put,puA,puB,puC])
    refine wpAnyH_done (by kernel_rfl) ?_ _
    refine NoPanic.normal ?_
    clear HTG HRM HV HS
    go_wp2_with fail
    refine (HSY.out w2 HS2.out).mono ?_
    rintro e w4 ⟨rfl,hS4,hO4⟩
    have HS4:=Lib.hid hS4
    have HOO:Hid (aB [b.j,b.d,b.l,b.m,b.g,b.t] w w4):=Lib.hid ((aB.below HB2.out).trans (hO4.mono (by simp)))
    clear hS4 hO4 HSY HS2 HB2
    go_wp2_with fail
    refine wp_region_noPanic ?_
    refine wp_region_held_drew (S:=fun W=>W.cell? ⟨b.s,4,none⟩=some (.map (some b.t))∧W.cell? ⟨b.s,5,none⟩=some (.map (some b.g))) (by kernel_rfl) ⟨HS4.out.drew.c4,HS4.out.drew.c5⟩ (fun hHeld=>?_)
    have HO5:Hid (aB [b.j,b.d,b.l,b.m,b.g,b.t] w w4.drew):=Lib.hid (HOO.out.drew)
    have HS5:=Lib.hid HS4.out.drew
    clear HOO
    generalize w4.drew=w5 at HO5 HS5 hHeld ⊢
    refine aF (i:=0) (d:=some 19) (v:=.pointer (some ⟨b.s,0,none⟩)) rfl rfl (by kernel_rfl) (by kernel_rfl) (by kernel_rfl) (fun _ _ _ h=>h) (Or.inl ⟨by kernel_rfl,?_⟩) hHeld ?_
    ·intro w hSw;have c4:=hSw.1;have c5:=hSw.2;go_simp
    (try simp only [Act.put,puA,puB,puC])
    refine aF (i:=1) (d:=some 20) (v:=.pointer (some ⟨b.s,0,none⟩)) rfl rfl (by kernel_rfl) (by kernel_rfl) (by kernel_rfl) (fun _ _ _ h=>h) (Or.inl ⟨by kernel_rfl,?_⟩) hHeld ?_
    ·intro w hSw;have c4:=hSw.1;have c5:=hSw.2;go_simp
    (try simp only [Act.put,puA,puB,puC])
    refine aF (i:=2) (d:=some 21) (v:=.pointer (some ⟨b.s,5,none⟩)) rfl rfl (by kernel_rfl) (by kernel_rfl) (by kernel_rfl) (fun _ _ _ h=>h) (Or.inl ⟨by kernel_rfl,?_⟩) hHeld ?_
    ·intro w hSw;have c4:=hSw.1;have c5:=hSw.2;go_simp
    (try simp only [Act.put,puA,puB,puC])
    refine aF (i:=3) (d:=some 22) (v:=.map (some b.g)) rfl rfl (by kernel_rfl) (by kernel_rfl) (by kernel_rfl) (fun _ _ _ h=>h) (Or.inl ⟨by kernel_rfl,?_⟩) hHeld ?_
    ·intro w hSw;have c4:=hSw.1;have c5:=hSw.2;go_simp
    (try simp only [Act.put,puA,puB,puC])
    refine aF (i:=4) (d:=some 23) (v:=.pointer (some ⟨b.s,0,none⟩)) rfl rfl (by kernel_rfl) (by kernel_rfl) (by kernel_rfl) (fun _ _ _ h=>h) (Or.inl ⟨by kernel_rfl,?_⟩) hHeld ?_
    ·intro w hSw;have c4:=hSw.1;have c5:=hSw.2;go_simp
    (try simp only [Act.put,puA,puB,puC])
    refine aF (i:=5) (d:=some 24) (v:=.pointer (some ⟨b.s,0,none⟩)) rfl rfl (by kernel_rfl) (by kernel_rfl) (by kernel_rfl) (fun _ _ _ h=>h) (Or.inl ⟨by kernel_rfl,?_⟩) hHeld ?_
    ·intro w hSw;have c4:=hSw.1;have c5:=hSw.2;go_simp
    (try simp only [Act.put,puA,puB,puC])
    refine aF (i:=6) (d:=some 25) (v:=.pointer (some ⟨b.s,4,none⟩)) rfl rfl (by kernel_rfl) (by kernel_rfl) (by kernel_rfl) (fun _ _ _ h=>h) (Or.inl ⟨by kernel_rfl,?_⟩) hHeld ?_
    ·intro w hSw;have c4:=hSw.1;have c5:=hSw.2;go_simp
    (try simp only [Act.put,puA,puB,puC])
    refine aF (i:=7) (d:=some 26) (v:=.map (some b.t)) rfl rfl (by kernel_rfl) (by kernel_rfl) (by kernel_rfl) (fun _ _ _ h=>h) (Or.inl ⟨by kernel_rfl,?_⟩) hHeld ?_
    ·intro w hSw;have c4:=hSw.1;have c5:=hSw.2;go_simp
    (try simp only [Act.put,puA,puB,puC])
    refine wpAnyH_ready (rs:=[8]) (by kernel_rfl) (by simp) ?_
    refine AllReadyH.cons rfl (fun K hK=>?_) AllReadyH.nil
    go_simp
    (go_at_call 254;refine (qR HS5.out HJK.out).mono ?_;rintro e w6 ⟨rfl,hS6,hO6⟩;have HS6:=Lib.hid hS6;have HO6:=Lib.hid (HO5.out.trans (hO6.mono (by simp)));clear hS6 hO6 HS5 HO5)
    (try go_wp2_with fail)
    refine hK.out _ _ ⟨HS6.out.c4,HS6.out.c5⟩ (fun hHeld=>?_)
    clear hK K
    (try simp only [Act.put,puA,puB,puC])
    refine wpAnyH_done (by kernel_rfl) ?_ _
    refine NoPanic.normal ?_
    have c4:=HS6.out.c4
    obtain ⟨w7,hcl0,hmp,htn⟩:=HS6.out.step.clear (s1).dk.last.length 0
    have hcl:∀ ty,(Builtin.clear_ #[82] ty #[.map (some b.t)]).run Tryz.prog w6=.ok (.tuple #[]) w7:=fun ty=>hcl0
    have HM:=Lib.hid hmp
    have HT:=Lib.hid htn
    clear hcl0 hmp htn
    go_wp2_with fail
    go_ret
    have ho:aB [b.t] w6 w7:=aB.grown HT.out.grown (by simp)
    refine ⟨rfl,?_,HO6.out.trans (ho.mono (by simp))⟩
    unfold ri
    exact HS6.out.ob ho HM.out (rh HOK.out HJK.out)
   ·have HE:Hid (et s=bY s):=Lib.hid (by unfold et;rw [if_neg hnn,if_pos hr])
    have HF:Hid (fp s=cN s):=Lib.hid (by unfold fp;rw [if_neg hnn,if_pos hr,if_neg he])
    rw [HE.out,HF.out]
    have hne2:(bY s == 0)=false:=by simpa using he
    have hne3:(bY s != 0)=true:=by simpa using he
    clear HE HF h ho hnn he hq0 hq1 HOK0
    have hr':(s.r:Int)<(nR s:Int):=by omega
    generalize nR s=T at HTG hT5 hr hr'
    generalize s.r=rr at HRM hR5 hr hr'
    generalize cN s=s1 at HSY ⊢
    generalize bY s=E at HSY hne2 hne3 ⊢
    go_enter Tryz.func219,Tryz.ntmps219
    go_wp2_with (go_at_call 95;refine HV.out.mono ?_;rintro e w' ⟨rfl,rfl⟩)
    refine wp_region_noPanic ?_
    refine wp_region_held_drew (S:=fun W=>ay W b s) (by kernel_rfl) HS.out.drew (fun hHeld=>?_)
    have HB1:Hid (Below w.heap.size w w.drew):=Lib.hid (Below.refl _ _).drew
    have HS1:=Lib.hid HS.out.drew
    generalize w.drew=w1 at HB1 HS1 hHeld ⊢
    refine aF (i:=0) (d:=some 6) (v:=.pointer (some ⟨b.s,0,none⟩)) rfl rfl (by kernel_rfl) (by kernel_rfl) (by kernel_rfl) (fun _ _ _ h=>h) (Or.inl ⟨by kernel_rfl,?_⟩) hHeld ?_
    ·intro w hSw;have c0:=ay.c0 hSw;go_simp
    (try simp only [Act.put,puA,puB,puC])
    refine aF (i:=2) (d:=some 8) (v:=.pointer (some ⟨b.s,0,none⟩)) rfl rfl (by kernel_rfl) (by kernel_rfl) (by kernel_rfl) (fun _ _ _ h=>h) (Or.inl ⟨by kernel_rfl,?_⟩) hHeld ?_
    ·intro w hSw;have c0:=ay.c0 hSw;go_simp
    (try simp only [Act.put,puA,puB,puC])
    refine aF (i:=3) (d:=some 9) (v:=.pointer (some ⟨b.s,0,none⟩)) rfl rfl (by kernel_rfl) (by kernel_rfl) (by kernel_rfl) (fun _ _ _ h=>h) (Or.inl ⟨by kernel_rfl,?_⟩) hHeld ?_
    ·intro w hSw;have c0:=ay.c0 hSw;go_simp
    (try simp only [Act.put,puA,puB,puC])
    refine aF (i:=4) (d:=some 10) (v:=.pointer (some ⟨b.s,0,none⟩)) rfl rfl (by kernel_rfl) (by kernel_rfl) (by kernel_rfl) (fun _ _ _ h=>h) (Or.inl ⟨by kernel_rfl,?_⟩) hHeld ?_
    ·intro w hSw;have c0:=ay.c0 hSw;go_simp
    (try simp only [Act.put,puA,puB,puC])
    refine aF (i:=5) (d:=some 11) (v:=.pointer (some ⟨b.j,0,none⟩)) rfl rfl (by kernel_rfl) (by kernel_rfl) (by kernel_rfl) (fun _ _ _ h=>h) (Or.inl ⟨by kernel_rfl,?_⟩) hHeld ?_
    ·intro w hSw;have c0:=ay.c0 hSw;go_simp
    (try simp only [Act.put,puA,puB,puC])
    refine wpAnyH_ready (rs:=[1]) (by kernel_rfl) (by simp) ?_
    refine AllReadyH.cons rfl (fun K hK=>?_) AllReadyH.nil
    go_simp
    (go_at_call 253;refine (HTG.out w1 HS1.out).mono ?_;rintro e w2 ⟨rfl,hB2⟩;have HS2:=Lib.hid (HS1.out.below hB2);have HB2:=Lib.hid (HB1.out.trans (hB2.mono HB1.out.size));clear hB2 HS1 HB1)
    (try go_wp2_with fail)
    refine hK.out _ _ HS2.out (fun hHeld=>?_)
    clear hK K
    (try simp only [Act.put,puA,puB,puC])
    refine wpAnyH_ready (rs:=[6]) (by kernel_rfl) (by simp) ?_
    refine AllReadyH.cons rfl (fun K hK=>?_) AllReadyH.nil
    go_simp
    (go_at_call 224;refine (HRM.out w2 HS2.out).mono ?_;rintro e w3 ⟨rfl,hw3⟩;subst hw3)
    (try go_wp2_with fail)
    refine hK.out _ _ HS2.out (fun hHeld=>?_)
    clear hK K
    (try simp only [Act.put,puA,puB,puC])
    refine aF (i:=7) (d:=some 13) (v:=.bool true) rfl rfl (by kernel_rfl) (by kernel_rfl) (by kernel_rfl) (fun _ _ _ h=>h) (Or.inl ⟨by kernel_rfl,?_⟩) hHeld ?_
    ·intro w hSw;have c0:=ay.c0 hSw;go_simp
    (try simp only [Act.put,puA,puB,puC])
    refine wpAnyH_done (by kernel_rfl) ?_ _
    refine NoPanic.normal ?_
    clear HTG HRM HV HS
    go_wp2_with fail
    refine (HSY.out w2 HS2.out).mono ?_
    rintro e w4 ⟨rfl,hS4,hO4⟩
    have HS4:=Lib.hid hS4
    have HOO:Hid (aB [b.j,b.d,b.l,b.m,b.g,b.t] w w4):=Lib.hid ((aB.below HB2.out).trans (hO4.mono (by simp)))
    clear hS4 hO4 HSY HS2 HB2
    go_wp2_with fail
    go_ret
    exact ⟨rfl,HS4.out,HOO.out⟩
  ·have HE:Hid (et s=0):=Lib.hid (by unfold et;rw [if_neg hnn,if_neg hr])
   have HF:Hid (fp s=ri s):=Lib.hid (by unfold fp;rw [if_neg hnn,if_neg hr])
   have HJK:Hid (nR s≤s.r):=Lib.hid (by omega)
   have HOK:=Lib.hid h.ok
   rw [HE.out,HF.out]
   clear HE HF h ho hnn hq0 hq1 HOK0
   have hr':¬ ((s.r:Int)<(nR s:Int)):=by omega
   have hr2:decide ((s.r:Int)<(nR s:Int))=false:=decide_eq_false hr'
   generalize hTT:nR s=T at HTG hT5 hr hr' hr2
   generalize hRR:s.r=rr at HRM hR5 hr hr' hr2
   clear hTT hRR
   go_enter Tryz.func219,Tryz.ntmps219
   go_wp2_with (go_at_call 95;refine HV.out.mono ?_;rintro e w' ⟨rfl,rfl⟩)
   refine wp_region_noPanic ?_
   refine wp_region_held_drew (S:=fun W=>ay W b s) (by kernel_rfl) HS.out.drew (fun hHeld=>?_)
   have HB1:Hid (Below w.heap.size w w.drew):=Lib.hid (Below.refl _ _).drew
   have HS1:=Lib.hid HS.out.drew
   generalize w.drew=w1 at HB1 HS1 hHeld ⊢
   refine aF (i:=0) (d:=some 6) (v:=.pointer (some ⟨b.s,0,none⟩)) rfl rfl (by kernel_rfl) (by kernel_rfl) (by kernel_rfl) (fun _ _ _ h=>h) (Or.inl ⟨by kernel_rfl,?_⟩) hHeld ?_
   ·intro w hSw;have c0:=ay.c0 hSw;go_simp
   (try simp only [Act.put,puA,puB,puC])
   refine aF (i:=2) (d:=some 8) (v:=.pointer (some ⟨b.s,0,none⟩)) rfl rfl (by kernel_rfl) (by kernel_rfl) (by kernel_rfl) (fun _ _ _ h=>h) (Or.inl ⟨by kernel_rfl,?_⟩) hHeld ?_
   ·intro w hSw;have c0:=ay.c0 hSw;go_simp
   (try simp only [Act.put,puA,puB,puC])
   refine aF (i:=3) (d:=some 9) (v:=.pointer (some ⟨b.s,0,none⟩)) rfl rfl (by kernel_rfl) (by kernel_rfl) (by kernel_rfl) (fun _ _ _ h=>h) (Or.inl ⟨by kernel_rfl,?_⟩) hHeld ?_
   ·intro w hSw;have c0:=ay.c0 hSw;go_simp
   (try simp only [Act.put,puA,puB,puC])
   refine aF (i:=4) (d:=some 10) (v:=.pointer (some ⟨b.s,0,none⟩)) rfl rfl (by kernel_rfl) (by kernel_rfl) (by kernel_rfl) (fun _ _ _ h=>h) (Or.inl ⟨by kernel_rfl,?_⟩) hHeld ?_
   ·intro w hSw;have c0:=ay.c0 hSw;go_simp
   (try simp only [Act.put,puA,puB,puC])
   refine aF (i:=5) (d:=some 11) (v:=.pointer (some ⟨b.j,0,none⟩)) rfl rfl (by kernel_rfl) (by kernel_rfl) (by kernel_rfl) (fun _ _ _ h=>h) (Or.inl ⟨by kernel_rfl,?_⟩) hHeld ?_
   ·intro w hSw;have c0:=ay.c0 hSw;go_simp
   (try simp only [Act.put,puA,puB,puC])
   refine wpAnyH_ready (rs:=[1]) (by kernel_rfl) (by simp) ?_
   refine AllReadyH.cons rfl (fun K hK=>?_) AllReadyH.nil
   go_simp
   (go_at_call 253;refine (HTG.out w1 HS1.out).mono ?_;rintro e w2 ⟨rfl,hB2⟩;have HS2:=Lib.hid (HS1.out.below hB2);have HB2:=Lib.hid (HB1.out.trans (hB2.mono HB1.out.size));clear hB2 HS1 HB1)
   (try go_wp2_with fail)
   refine hK.out _ _ HS2.out (fun hHeld=>?_)
   clear hK K
   (try simp only [Act.put,puA,puB,puC])
   refine wpAnyH_ready (rs:=[6]) (by kernel_rfl) (by simp) ?_
   refine AllReadyH.cons rfl (fun K hK=>?_) AllReadyH.nil
   go_simp
   (go_at_call 224;refine (HRM.out w2 HS2.out).mono ?_;rintro e w3 ⟨rfl,hw3⟩;subst hw3)
   (try go_wp2_with fail)
   refine hK.out _ _ HS2.out (fun hHeld=>?_)
   clear hK K
   (try simp only [Act.put,puA,puB,puC])
   refine aF (i:=7) (d:=some 13) (v:=.bool false) rfl rfl (by kernel_rfl) (by kernel_rfl) (by kernel_rfl) (fun _ _ _ h=>h) (Or.inl ⟨by kernel_rfl,?_⟩) hHeld ?_
   ·intro w hSw;have c0:=ay.c0 hSw;go_simp
   (try simp only [Act.put,puA,puB,puC])
   refine wpAnyH_done (by kernel_rfl) ?_ _
   refine NoPanic.normal ?_
   have HOO:Hid (aB [b.j,b.d,b.l,b.m,b.g,b.t] w w2):=Lib.hid (aB.below HB2.out)
   clear HTG HRM HV HS HSY HB2
   go_wp2_with fail
   refine wp_region_noPanic ?_
   refine wp_region_held_drew (S:=fun W=>W.cell? ⟨b.s,4,none⟩=some (.map (some b.t))∧W.cell? ⟨b.s,5,none⟩=some (.map (some b.g))) (by kernel_rfl) ⟨HS2.out.drew.c4,HS2.out.drew.c5⟩ (fun hHeld=>?_)
   have HO5:Hid (aB [b.j,b.d,b.l,b.m,b.g,b.t] w w2.drew):=Lib.hid (HOO.out.drew)
   have HS5:=Lib.hid HS2.out.drew
   clear HOO
   generalize w2.drew=w5 at HO5 HS5 hHeld ⊢
   refine aF (i:=0) (d:=some 19) (v:=.pointer (some ⟨b.s,0,none⟩)) rfl rfl (by kernel_rfl) (by kernel_rfl) (by kernel_rfl) (fun _ _ _ h=>h) (Or.inl ⟨by kernel_rfl,?_⟩) hHeld ?_
   ·intro w hSw;have c4:=hSw.1;have c5:=hSw.2;go_simp
   (try simp only [Act.put,puA,puB,puC])
   refine aF (i:=1) (d:=some 20) (v:=.pointer (some ⟨b.s,0,none⟩)) rfl rfl (by kernel_rfl) (by kernel_rfl) (by kernel_rfl) (fun _ _ _ h=>h) (Or.inl ⟨by kernel_rfl,?_⟩) hHeld ?_
   ·intro w hSw;have c4:=hSw.1;have c5:=hSw.2;go_simp
   (try simp only [Act.put,puA,puB,puC])
   refine aF (i:=2) (d:=some 21) (v:=.pointer (some ⟨b.s,5,none⟩)) rfl rfl (by kernel_rfl) (by kernel_rfl) (by kernel_rfl) (fun _ _ _ h=>h) (Or.inl ⟨by kernel_rfl,?_⟩) hHeld ?_
   ·intro w hSw;have c4:=hSw.1;have c5:=hSw.2;go_simp
   (try simp only [Act.put,puA,puB,puC])
   refine aF (i:=3) (d:=some 22) (v:=.map (some b.g)) rfl rfl (by kernel_rfl) (by kernel_rfl) (by kernel_rfl) (fun _ _ _ h=>h) (Or.inl ⟨by kernel_rfl,?_⟩) hHeld ?_
   ·intro w hSw;have c4:=hSw.1;have c5:=hSw.2;go_simp
   (try simp only [Act.put,puA,puB,puC])
   refine aF (i:=4) (d:=some 23) (v:=.pointer (some ⟨b.s,0,none⟩)) rfl rfl (by kernel_rfl) (by kernel_rfl) (by kernel_rfl) (fun _ _ _ h=>h) (Or.inl ⟨by kernel_rfl,?_⟩) hHeld ?_
   ·intro w hSw;have c4:=hSw.1;have c5:=hSw.2;go_simp
   (try simp only [Act.put,puA,puB,puC])
   refine aF (i:=5) (d:=some 24) (v:=.pointer (some ⟨b.s,0,none⟩)) rfl rfl (by kernel_rfl) (by kernel_rfl) (by kernel_rfl) (fun _ _ _ h=>h) (Or.inl ⟨by kernel_rfl,?_⟩) hHeld ?_
   ·intro w hSw;have c4:=hSw.1;have c5:=hSw.2;go_simp
   (try simp only [Act.put,puA,puB,puC])
   refine aF (i:=6) (d:=some 25) (v:=.pointer (some ⟨b.s,4,none⟩)) rfl rfl (by kernel_rfl) (by kernel_rfl) (by kernel_rfl) (fun _ _ _ h=>h) (Or.inl ⟨by kernel_rfl,?_⟩) hHeld ?_
   ·intro w hSw;have c4:=hSw.1;have c5:=hSw.2;go_simp
   (try simp only [Act.put,puA,puB,puC])
   refine aF (i:=7) (d:=some 26) (v:=.map (some b.t)) rfl rfl (by kernel_rfl) (by kernel_rfl) (by kernel_rfl) (fun _ _ _ h=>h) (Or.inl ⟨by kernel_rfl,?_⟩) hHeld ?_
   ·intro w hSw;have c4:=hSw.1;have c5:=hSw.2;go_simp
   (try simp only [Act.put,puA,puB,puC])
   refine wpAnyH_ready (rs:=[8]) (by kernel_rfl) (by simp) ?_
   refine AllReadyH.cons rfl (fun K hK=>?_) AllReadyH.nil
   go_simp
   (go_at_call 254;refine (qR HS5.out HJK.out).mono ?_;rintro e w6 ⟨rfl,hS6,hO6⟩;have HS6:=Lib.hid hS6;have HO6:=Lib.hid (HO5.out.trans (hO6.mono (by simp)));clear hS6 hO6 HS5 HO5)
   (try go_wp2_with fail)
   refine hK.out _ _ ⟨HS6.out.c4,HS6.out.c5⟩ (fun hHeld=>?_)
   clear hK K
   (try simp only [Act.put,puA,puB,puC])
   refine wpAnyH_done (by kernel_rfl) ?_ _
   refine NoPanic.normal ?_
   have c4:=HS6.out.c4
   obtain ⟨w7,hcl0,hmp,htn⟩:=HS6.out.step.clear (s).dk.last.length 0
   have hcl:∀ ty,(Builtin.clear_ #[82] ty #[.map (some b.t)]).run Tryz.prog w6=.ok (.tuple #[]) w7:=fun ty=>hcl0
   have HM:=Lib.hid hmp
   have HT:=Lib.hid htn
   clear hcl0 hmp htn
   go_wp2_with fail
   go_ret
   have ho:aB [b.t] w6 w7:=aB.grown HT.out.grown (by simp)
   refine ⟨rfl,?_,HO6.out.trans (ho.mono (by simp))⟩
   unfold ri
   exact HS6.out.ob ho HM.out (rh HOK.out HJK.out)
end

section
open Go.RowKit Go.Maps
open Dk (av aa)
open Hd (Head aA aM)
open Jn (Chg bk fy Cl Quiet uS May Same upd)
end

section
open Dk (av aa)
open Go.RowKit
theorem rH (p i:Int) (w:World):
  Calls Tryz.prog 99 #[bz p i] w fun e w'=>e=.returned (.int .i64 (if Pl.aA p i=true then 1 else 0))∧Below w.heap.size w w':=by
 have HF:=Lib.hid (fun w=>kx p i 1 w)
 generalize (if Pl.aA p i=true then (1:Int) else 0)=r at HF ⊢
 unfold bz at HF ⊢
 go_enter Tryz.func99,Tryz.ntmps99
 go_wp2_with (go_at_call 158;refine (HF.out _).mono ?_;rintro e w' ⟨rfl,hb⟩)
 go_ret
 exact ⟨rfl,(dD w p i (by simpa using hb)).2.1⟩
theorem oz (p i:Int) (w:World):
  Calls Tryz.prog 151 #[bz p i] w fun e w'=>e=.returned (.int .i64 (if Pl.aA p i=true then 41 else 0))∧Below w.heap.size w w':=by
 have HF:=Lib.hid (fun w=>kx p i 41 w)
 generalize (if Pl.aA p i=true then (41:Int) else 0)=r at HF ⊢
 unfold bz at HF ⊢
 go_enter Tryz.func151,Tryz.ntmps151
 go_wp2_with (go_at_call 158;refine (HF.out _).mono ?_;rintro e w' ⟨rfl,hb⟩)
 go_ret
 exact ⟨rfl,(dD w p i (by simpa using hb)).2.1⟩
theorem ed (p i:Int) (w:World):
  Calls Tryz.prog 104 #[bz p i] w fun e w'=>e=.returned (.int .i64 (if Pl.aA p i=true then 42 else 0))∧Below w.heap.size w w':=by
 have HF:=Lib.hid (fun w=>kx p i 42 w)
 generalize (if Pl.aA p i=true then (42:Int) else 0)=r at HF ⊢
 unfold bz at HF ⊢
 go_enter Tryz.func104,Tryz.ntmps104
 go_wp2_with (go_at_call 158;refine (HF.out _).mono ?_;rintro e w' ⟨rfl,hb⟩)
 go_ret
 exact ⟨rfl,(dD w p i (by simpa using hb)).2.1⟩
theorem qv (p i:Int) (w:World) (h:Pl.aA p i=true):
  Calls Tryz.prog 198 #[bz p i] w fun e w'=>e=.returned (.int .i64 (Pl.aS i))∧Below w.heap.size w w':=by
 have hr:=Pl.aW h
 unfold bz
 go_enter Tryz.func198,Tryz.ntmps198
 go_wp2_with (first
  | (go_at_call 162;refine (eh p i _ _ h).mono ?_;rintro e w' ⟨rfl,hb⟩;have HB:=Lib.hid (dD w p i (by simpa using hb));have hc1:=HB.out.1.cell 1 _ rfl;clear hb)
  | (go_at_call 163;refine (fK i _ (by omega) (by omega)).mono ?_;rintro e w2 ⟨rfl,rfl⟩))
 go_ret
 exact ⟨rfl,HB.out.2.1⟩
theorem gS (p i:Int) (w:World) (h:Pl.aA p i=true):
  Calls Tryz.prog 105 #[bz p i] w fun e w'=>e=.returned (.int .i64 (p - Pl.aS i))∧Below w.heap.size w w':=by
 obtain ⟨r1,r2,r3,r4⟩:=Pl.aW h
 have hd:=Pl.dZ r1 r2
 have HC:=Lib.hid (fun w=>fK i w (by omega) (by omega))
 unfold bz
 go_enter Tryz.func105,Tryz.ntmps105
 go_wp2_with (go_at_call 162;refine (eh p i _ _ h).mono ?_;rintro e w' ⟨rfl,hb⟩;have HB:=Lib.hid (dD w p i (by simpa using hb));have hc1:=HB.out.1.cell 1 _ rfl;have hc0:=HB.out.1.cell 0 _ rfl;clear hb)
 go_quiet ((go_at_call 163;refine Calls.quiet_of_same ((HC.out _).mono fun e w' h=>⟨h.1,h.2.symm⟩)))
 go_wp2
 go_ret
 exact ⟨rfl,HB.out.2.1.trans (fg _ _ _)⟩
theorem Cd (p i:Int) (w:World) (h:Pl.aA p i=false):
  Calls Tryz.prog 105 #[bz p i] w fun e w'=>e=.returned (.int .i64 0)∧Below w.heap.size w w':=by
 unfold bz
 go_enter Tryz.func105,Tryz.ntmps105
 go_wp2_with (go_at_call 162;refine (eh p i _ _ h).mono ?_;rintro e w' ⟨rfl,hb⟩;have HB:=Lib.hid (dD w p i (by simpa using hb));clear hb)
 go_ret
 exact ⟨rfl,HB.out.2.1⟩
theorem ox (p i n:Int) (w:World) (h:Pl.aA p i=true) (h1:1≤n) (h2:n≤i):
  Calls Tryz.prog 181 #[bz p i,.int .i64 n] w fun e w'=>e=.returned (.tuple #[.int .i64 (43+(n - 1) / 2),.int .i64 ((n - 1) % 2)])∧Below w.heap.size w w':=by
 obtain ⟨r1,r2,r3,r4⟩:=Pl.aW h
 have g1:decide (n<1)=false:=decide_eq_false (by omega)
 have g2:decide (i<n)=false:=decide_eq_false (by omega)
 unfold bz
 go_enter Tryz.func181,Tryz.ntmps181
 go_wp2_with (go_at_call 162;refine (eh p i _ _ h).mono ?_;rintro e w' ⟨rfl,hb⟩;have HB:=Lib.hid (dD w p i (by simpa using hb));have hc1:=HB.out.1.cell 1 _ rfl;clear hb)
 go_ret2
 exact ⟨rfl,HB.out.2.1⟩
theorem FE (p i n:Int) (w:World) (h:Pl.aA p i=true) (h1:n<1∨i<n):
  Calls Tryz.prog 181 #[bz p i,.int .i64 n] w fun e w'=>e=.returned (.tuple #[.int .i64 0,.int .i64 0])∧Below w.heap.size w w':=by
 unfold bz
 by_cases c:n<1
 ·go_enter Tryz.func181,Tryz.ntmps181
  go_wp2_with (go_at_call 162;refine (eh p i _ _ h).mono ?_;rintro e w' ⟨rfl,hb⟩;have HB:=Lib.hid (dD w p i (by simpa using hb));have hc1:=HB.out.1.cell 1 _ rfl;clear hb)
  go_ret2
  exact ⟨rfl,HB.out.2.1⟩
 ·have c2:i<n:=by omega
  go_enter Tryz.func181,Tryz.ntmps181
  go_wp2_with (go_at_call 162;refine (eh p i _ _ h).mono ?_;rintro e w' ⟨rfl,hb⟩;have HB:=Lib.hid (dD w p i (by simpa using hb));have hc1:=HB.out.1.cell 1 _ rfl;clear hb)
  go_ret2
  exact ⟨rfl,HB.out.2.1⟩
theorem pC (p i n:Int) (w:World) (h:Pl.aA p i=true) (h1:Pl.aS i≤n) (h2:n<p):
  Calls Tryz.prog 225 #[bz p i,.int .i64 n] w fun e w'=>e=.returned (.int .i64 (n - Pl.aS i))∧Below w.heap.size w w':=by
 obtain ⟨r1,r2,r3,r4⟩:=Pl.aW h
 have hd:=Pl.dZ r1 r2
 have g1:decide (n<Pl.aS i)=false:=decide_eq_false (by omega)
 have g2:decide (p≤n)=false:=decide_eq_false (by omega)
 unfold bz
 go_enter Tryz.func225,Tryz.ntmps225
 go_wp2_with (first
  | (go_at_call 162;refine (eh p i _ _ h).mono ?_;rintro e w' ⟨rfl,hb⟩;have HB:=Lib.hid (dD w p i (by simpa using hb));have hc1:=HB.out.1.cell 1 _ rfl;have hc0:=HB.out.1.cell 0 _ rfl;clear hb)
  | (go_at_call 163;refine (fK i _ (by omega) (by omega)).mono ?_;rintro e w2 ⟨rfl,rfl⟩))
 go_ret
 exact ⟨rfl,HB.out.2.1⟩
theorem uH (p i n:Int) (w:World) (h:Pl.aA p i=true) (h1:n<Pl.aS i∨p≤n):
  Calls Tryz.prog 225 #[bz p i,.int .i64 n] w fun e w'=>e=.returned (.int .i64 (-1))∧Below w.heap.size w w':=by
 obtain ⟨r1,r2,r3,r4⟩:=Pl.aW h
 have hd:=Pl.dZ r1 r2
 unfold bz
 by_cases c:n<Pl.aS i
 ·have g1:decide (n<Pl.aS i)=true:=decide_eq_true c
  go_enter Tryz.func225,Tryz.ntmps225
  go_wp2_with (first
   | (go_at_call 162;refine (eh p i _ _ h).mono ?_;rintro e w' ⟨rfl,hb⟩;have HB:=Lib.hid (dD w p i (by simpa using hb));have hc1:=HB.out.1.cell 1 _ rfl;have hc0:=HB.out.1.cell 0 _ rfl;clear hb)
   | (go_at_call 163;refine (fK i _ (by omega) (by omega)).mono ?_;rintro e w2 ⟨rfl,rfl⟩))
  go_ret
  exact ⟨rfl,HB.out.2.1⟩
 ·have g1:decide (n<Pl.aS i)=false:=decide_eq_false c
  have g2:decide (p≤n)=true:=decide_eq_true (by omega)
  go_enter Tryz.func225,Tryz.ntmps225
  go_wp2_with (first
   | (go_at_call 162;refine (eh p i _ _ h).mono ?_;rintro e w' ⟨rfl,hb⟩;have HB:=Lib.hid (dD w p i (by simpa using hb));have hc1:=HB.out.1.cell 1 _ rfl;have hc0:=HB.out.1.cell 0 _ rfl;clear hb)
   | (go_at_call 163;refine (fK i _ (by omega) (by omega)).mono ?_;rintro e w2 ⟨rfl,rfl⟩))
  go_ret
  exact ⟨rfl,HB.out.2.1⟩
theorem LO (p i n:Int) (w:World) (h:Pl.aA p i=true) (h1:0≤n) (h2:n<p - Pl.aS i):
  Calls Tryz.prog 222 #[bz p i,.int .i64 n] w fun e w'=>e=.returned (.int .i64 (Pl.aS i+n))∧Below w.heap.size w w':=by
 obtain ⟨r1,r2,r3,r4⟩:=Pl.aW h
 have hd:=Pl.dZ r1 r2
 have g1:decide (n<0)=false:=decide_eq_false (by omega)
 have g2:decide (p - Pl.aS i≤n)=false:=decide_eq_false (by omega)
 have HD:=Lib.hid (fun w=>qv p i w h)
 have HR:=Lib.hid (fun w=>gS p i w h)
 unfold bz at HD HR ⊢
 go_enter Tryz.func222,Tryz.ntmps222
 go_wp2_with (first
  | (go_at_call 105;refine (HR.out _).mono ?_;rintro e w' ⟨rfl,hb⟩;have HB:=Lib.hid (dD w p i (by simpa using hb));have hc1:=HB.out.1.cell 1 _ rfl;have hc0:=HB.out.1.cell 0 _ rfl;clear hb)
  | (go_at_call 198;refine (HD.out _).mono ?_;rintro e w2 ⟨rfl,hb2⟩))
 go_ret
 exact ⟨rfl,HB.out.2.1.trans (hb2.mono HB.out.2.1.size)⟩
end
end Go.Proofs.YtagfoogfpabdfaaGreat
