/- Texts of the proof. -/
import Derived.Test.YtagfoogfpabdfaaGreatTam
import Derived.Defers
import Derived.Recover
import Derived.LaidEqlPtr
import Derived.Laws.EntriesVeiled
import Derived.Test.YtagfoogfpabdfaaGreatTak
import Derived.Test.YtagfoogfpabdfaaGreatTaj
import Derived.Test.YtagfoogfpabdfaaGreatTal
import Derived.Maps.OwnSet
import Derived.Maps.OwnOps
set_option maxRecDepth 100000
set_option maxHeartbeats 16000000
namespace Go.Proofs.YtagfoogfpabdfaaGreat
section
open Go.RowKit Go.Maps
open Dk (av aa)
open Ii (Ino)
def WrS {α:Type} (R:Ending→World→Prop) (B:Nat) (b:Blk) (n I:Int) (Ls:List Nat) (w0:World) (K:α→Ending→World→Prop) (l:List (Nat × List Value)) (s:Sto) (nn:Int) (g:List UInt8→List UInt8) (f:Fs.M α):Option (Option (List UInt8))→World→Prop
 | none,W=>∃ s',Stp R B b n I Ls w0 K l s' f W
 | some none,W=>Stp R B b n I Ls w0 K l s (Fs.andThen (Fs.tell (Fs.dL n I nn)) fun p=>Fs.andThen (Fs.wr nn.toNat (g p)) fun _=>f) W
 | some (some p),W=>∃ s',Stp R B b n I Ls w0 K l s' (Fs.andThen (Fs.wr nn.toNat (g p)) fun _=>f) W∧Fs.bZ n I nn∧p.length=64
section
variable {α:Type} {R:Ending→World→Prop} {B:Nat} {b:Blk} {n I:Int} {Ls:List Nat} {w0:World} {K:α→Ending→World→Prop} {l:List (Nat × List Value)} {s:Sto} {nn:Int} {g:List UInt8→List UInt8} {f:Fs.M α} {W W':World}
theorem WrS.lo:∀ {k:Option (Option (List UInt8))},WrS R B b n I Ls w0 K l s nn g f k W→Lo (b.t::Ls) w0 l W
 | none,⟨_,h⟩=>Stp.lo h
 | some none,h=>Stp.lo h
 | some (some _),⟨_,h,_⟩=>Stp.lo h
theorem WrS.CZ {p:List UInt8} (h:WrS R B b n I Ls w0 K l s nn g f (Option.some (Option.some p)) W):∃ s',Stp R B b n I Ls w0 K l s' (Fs.andThen (Fs.wr nn.toNat (g p)) fun _=>f) W∧Fs.bZ n I nn∧p.length=64:=h
theorem WrS.start (h:WrS R B b n I Ls w0 K l s nn g f (some none) W):Stp R B b n I Ls w0 K l s (Fs.andThen (Fs.tell (Fs.dL n I nn)) fun p=>Fs.andThen (Fs.wr nn.toNat (g p)) fun _=>f) W:=h
theorem WrS.done (h:WrS R B b n I Ls w0 K l s nn g f none W):∃ s',Stp R B b n I Ls w0 K l s' f W:=h
end
theorem jK (u:List UInt8):(strOf u).size=u.length:=dO u
theorem nQ {w:World} {B:Nat} {b:Blk} {s:Sto} {n I:Int} (h:Ctx w B b s n I) (i off:Int) (t:List UInt8) (ht:t.length≤10000):Calls Tryz.prog 59 #[.pointer (some ⟨B,0,none⟩),.int .i64 i,.int .i64 off,.string (strOf t)] w (Ends B b n I [] w s (Fs.iN n I i off t) fun _ e _=>e=.returned (.tuple #[])):=by
 refine aQ fun R H=>?_
 have S:=Lib.hid (Stp.start h (by simp) H)
 have HGO:=Lib.hid (fun W (hc:Ctx W B b s n I)=>dT hc)
 unfold Fs.iN at S
 clear h H
 have HSZ:=Lib.hid (jK t)
 have hs9:(strOf t).size≤10000:=by rw [jK];exact ht
 go_enter Tryz.func59,Tryz.ntmps59
 go_wp2_with (go_at_call 117;(with_reducible refine (HGO.out _ S.out.ctx).mono ?_);rintro e w2 ⟨rfl,rfl⟩)
 refine (gG S.out.ctx i).mono ?_
 intro e w4 hE
 rcases S.out.bind hE with ⟨rfl,hR⟩ | ⟨x,s4,L4,hi,rfl,S2⟩
 ·exact ⟨rfl,hR⟩
 have hib:=ra (lJ hi)
 have S:=Lib.hid S2
 clear hE hi S2
 by_cases c1:off<0
 ·have S5:=Lib.hid (S.out.of (congrFun (if_pos c1) _))
  clear S
  go_wp2_with (first
   | ((with_reducible refine ai (vs:=aH x) cz ?_ (aJ _) rfl (.tmp 8) (.tmp 17) rfl rfl ?_ ?_ ?_);(exact rfl);(exact rfl);(exact rfl);intro W4 hP hB2 hz2;have S:=Lib.hid (S5.out.made hP hB2 hz2);clear hP hB2 hz2 S5)
   | (go_at_call 58;(with_reducible refine (cM S.out.ctx 22 (by decide)).mono ?_);rintro e w5 ⟨rfl,hB,hO⟩))
  exact ⟨rfl,S.out.ma (eo.err rfl) (by decide) hB hO⟩
 ·by_cases c2:t=[]
  ·subst c2
   have S5:=Lib.hid (S.out.of (m':=Fs.ret ()) (by rw [if_neg c1,if_pos rfl]))
   clear S
   rw [← Bk]
   go_wp2_with ((with_reducible refine ai (vs:=aH x) cz ?_ (aJ _) rfl (.tmp 8) (.tmp 17) rfl rfl ?_ ?_ ?_);(exact rfl);(exact rfl);(exact rfl);intro W4 hP hB2 hz2;have S:=Lib.hid (S5.out.made hP hB2 hz2);clear hP hB2 hz2 S5)
   refine bodyPost_ret (results_none rfl _ _ _) rfl ?_
   exact S.out.done rfl
  ·have hne:(strOf t).toList.isEmpty=false:=by
    cases hq:(strOf t).toList.isEmpty with
    | false=>rfl
    |
     true=>
     exfalso
     rw [List.isEmpty_iff] at hq
     have:=(toList_nil_iff_emptyBytes _).1 hq
     apply c2
     have h2:=jK t
     rw [this] at h2
     exact List.eq_nil_of_length_eq_zero h2.symm
   by_cases c3:67840 - (t.length:Int)<off
   ·have S5:=Lib.hid (S.out.of (m':=Fs.fail 27) (by rw [if_neg c1,if_neg c2,if_pos c3]))
    clear S
    have c3':67840 - ((strOf t).size:Int)<off:=by rw [HSZ.out];exact c3
    go_wp2_with (first
     | ((with_reducible refine ai (vs:=aH x) cz ?_ (aJ _) rfl (.tmp 8) (.tmp 17) rfl rfl ?_ ?_ ?_);(exact rfl);(exact rfl);(exact rfl);intro W4 hP hB2 hz2;have S:=Lib.hid (S5.out.made hP hB2 hz2);clear hP hB2 hz2 S5)
     | (go_at_call 58;(with_reducible refine (cM S.out.ctx 27 (by decide)).mono ?_);rintro e w5 ⟨rfl,hB,hO⟩))
    exact ⟨rfl,S.out.ma (eo.err rfl) (by decide) hB hO⟩
   ·obtain ⟨o,rfl⟩:=Int.eq_ofNat_of_zero_le (show 0≤off by omega)
    obtain ⟨x2,hx2⟩:∃ x2:Ino,x2={ x with s:=max x.s ((o:Int)+t.length) }:=⟨_,rfl⟩
    obtain ⟨sz,hsz⟩:∃ sz:Int,sz=max x.s ((o:Int)+t.length):=⟨_,rfl⟩
    have HX2:Hid (x2={ x with s:=sz }):=Lib.hid (by rw [hsz];exact hx2)
    have hon:o+t.length≤67840:=by omega
    have S5:=Lib.hid (S.out.of (m':=Fs.andThen (Fs.mS n I (Fs.pieces o t.length) x2 t) fun y=>Fs.sy i y) (by rw [if_neg c1,if_neg c2,if_neg c3,hx2];rfl))
    clear S hx2
    have hln:(t.length:Int)=((strOf t).size:Int):=by rw [HSZ.out]
    have c3':¬ 67840 - ((strOf t).size:Int)<(o:Int):=by rw [HSZ.out];exact c3
    have HPC:Hid (∀ W,Calls Tryz.prog 119 #[.int .i64 (o:Int),.int .i64 ((strOf t).size:Int)] W (pH (Fs.pieces o t.length) W)):=Lib.hid (fun W=>by
     rw [HSZ.out]
     exact oC o t.length W (by omega) (by omega))
    have HSPEC:=Lib.hid (Fs.oB t.length o)
    have HIN:=Lib.hid (Fs.Ce t.length o)
    generalize Fs.pieces o t.length=cs at HPC HSPEC HIN S5
    have hsz2:sz=max x.s ((o:Int)+((strOf t).size:Int)):=by rw [HSZ.out];exact hsz
    have HSZ2:=Lib.hid hsz2
    clear hsz hsz2
    go_wp2_with (first
     | ((with_reducible refine ai (vs:=aH x) cz ?_ (aJ _) rfl (.tmp 8) (.tmp 17) rfl rfl ?_ ?_ ?_);(exact rfl);(exact rfl);(exact rfl);intro W4 hP hB2 hz2;have S:=Lib.hid (S5.out.made hP hB2 hz2);clear hP hB2 hz2 S5;have cc:=(S.out.get 0 _ rfl).cell 4 _ rfl;have ff:=(S.out.get 0 _ rfl).frozen 4 (show 4<11 by decide)))
    have S3:=Lib.hid (S.out.one 0 _ rfl 4 (.int .i64 (max x.s ((o:Int)+((strOf t).size:Int)))) (aH x2) (show 4+1≤11 by decide) (by rw [HX2.out,HSZ2.out];rfl))
    clear S cc ff
    generalize World.setCell _ _ _=w6 at S3 ⊢
    have S:Hid (Stp R B b n I [] w (fun _ e _=>e=.returned (.tuple #[])) [(w4.heap.size,aH x2)] s4 (Fs.andThen (Fs.mS n I cs x2 t) fun y=>Fs.sy i y) w6):=Lib.hid S3.out
    clear S3
    generalize w4.heap.size=X at S ⊢
    refine (HPC.out _).mono ?_
    rintro e w7 ⟨A,cap,rfl,hrow,hA,hb⟩
    have HX7:=Lib.hid ((S.out.lo.row _ (List.mem_cons_self ..)).2.2)
    have HB7:=Lib.hid S.out.ctx.lt
    have HT7:=Lib.hid (S.out.ctx.store.lt _ b.dX)
    have HA:Hid (∀ bb f,A=some ⟨bb,f,none⟩→bb∉[b.t,X]):=Lib.hid (fun bb f hh=>by
     have h1:=hA bb f hh
     have h2:X<w6.heap.size:=HX7.out
     have h3:=HT7.out
     simp only [List.mem_cons,List.not_mem_nil,or_false]
     omega)
    have S2:=Lib.hid (S.out.below hb)
    clear S
    have S:=Lib.hid S2.out
    have HPR:=Lib.hid hrow
    clear S2 hrow hA hb
    have HXB:=Lib.hid (S.out.lower (List.mem_cons_self ..))
    have hl9:cs.length≤10000:=by
     have h1:=HSPEC.out.1
     have h2:∀ ds:List Fs.Pc,(∀ c∈ds,1≤c.size)→ds.length≤Fs.tI ds:=by
      intro ds
      induction ds with
      | nil=>intro _;exact Nat.le_refl _
      |
       cons d ds ih=>
       intro h
       have:=ih (fun c hc=>h c (by simp [hc]))
       have:=h d (by simp)
       rw [List.length_cons,Fs.tI];omega
     have:=h2 cs (fun c hc=>(HSPEC.out.2 c hc).1)
     omega
    obtain ⟨len,hlen⟩:∃ len,cs.length=len:=⟨_,rfl⟩
    have HLE:=Lib.hid hlen
    rw [hlen] at hl9 ⊢
    clear hlen
    have HPC2:Hid (∀ c∈cs,(1≤c.size∧c.at1+c.size≤64)∧c.idx<1060):=Lib.hid (fun c hc=>⟨HSPEC.out.2 c hc,by have:=HIN.out c hc;have:=HSPEC.out.2 c hc;omega⟩)
    have HSPEC0:=Lib.hid HSPEC.out.1
    clear HSPEC HIN HPC HX7 HB7 HT7 HX2 HSZ2
    have HUL:Hid (t.length=Fs.tI (cs.drop 0)):=Lib.hid (by rw [List.drop_zero];exact HSPEC0.out.symm)
    clear HSPEC0
    have HU9:Hid (t.length≤10000):=Lib.hid ht
    go_wp2_with fail
    go_loopw [3,47] (fun tv iv wr=>∃ (k:Nat) (u:List UInt8) (y:Ino) (s3:Sto),k≤len∧tv=.string (strOf u)∧iv=.int .i64 k∧Hid (u.length=Fs.tI (cs.drop k))∧Hid (u.length≤10000)∧Hid (Stp R B b n I [] w (fun _ e _=>e=.returned (.tuple #[])) [(X,aH y)] s3 (Fs.andThen (Fs.mS n I (cs.drop k) y u) fun y=>Fs.sy i y) wr)∧Hid (nf wr A cs)) (fun _ iv _=>len - (intOf iv).toNat)
    case atStart=>exact ⟨0,t,x2,s4,Nat.zero_le _,rfl,rfl,HUL,HU9,by rw [List.drop_zero];exact S,HPR⟩
    case round=>
     clear S HPR HUL HU9
     obtain ⟨k,u,y,s3,hk,rfl,rfl,HUL,HU9,S,HPR⟩:=hrel
     by_cases hlt:k<len
     ·obtain ⟨pc,hpc⟩:∃ pc,cs[k]?=some pc:=⟨_,List.getElem?_eq_getElem (by rw [HLE.out];exact hlt)⟩
      obtain ⟨⟨hz1,hz2⟩,hz3⟩:=HPC2.out pc (List.mem_of_getElem? hpc)
      obtain ⟨pb,poff,rfl,hpb,hpr⟩:=HPR.out.cells (by rw [HLE.out];omega)
      have HPI:=Lib.hid (hpr k pc hpc)
      have HDR:Hid (cs.drop k=pc::cs.drop (k+1)):=Lib.hid (by
       obtain ⟨q1,q2⟩:=List.getElem?_eq_some_iff.1 hpc
       rw [List.drop_eq_getElem_cons q1,q2])
      have HPD:=Lib.hid (Fs.tH cs k pc hpc)
      clear hpc hpr hpb
      rw [HDR.out,Fs.yA] at S
      have HOKI:=Lib.hid (KW (i:=(pc.idx:Int)) (by omega) (by omega))
      have HUS:Hid ((strOf u).size=u.length):=Lib.hid (jK u)
      have hps:pc.size≤(strOf u).size:=by rw [HUS.out,HUL.out,HPD.out];omega
      have hps9:(strOf u).size≤10000:=by rw [HUS.out];exact HU9.out
      go_wp2_with (first
       | (with_reducible refine wpList_load_mid rfl 160 (.tmp 49) rfl pb (poff+k*3) rfl (pcL pc) _ HPI.out Tryz.underlying160 rfl (by kernel_rfl) ?_)
       | ((with_reducible refine ai (vs:=pcL pc) pcT ?_ (rI _) rfl (.tmp 10) (.tmp 50) rfl rfl ?_ ?_ ?_);(exact rfl);(exact rfl);(exact rfl);intro W6 hP hB2 hz2;have S6:=Lib.hid (S.out.made hP hB2 hz2);clear S;have HPR6:=Lib.hid (HPR.out.step hB2);clear hP hB2 hz2 HPI HPR;have p0:=(S6.out.get 1 _ rfl).cell 0 _ rfl))
      refine (vr S6.out.ctx X y (S6.out.get 0 _ rfl) HXB.out.1 HXB.out.2 (pc.idx:Int) HOKI.out).mono ?_
      intro e w8 hE
      rcases S6.out.Mw 0 rfl (fun z=>aH z.1) hE (fun a hh=>hh.2) with ⟨rfl,hR⟩ | ⟨⟨y2,nn⟩,s8,L8,hz,⟨rfl,_⟩,S2,hO⟩
      ·exact ⟨rfl,hR⟩
      have HNZ:Hid (nn≠0):=Lib.hid (Fs.FB (fun m hm=>(gh S6.out.ctx.vs hm).2) hz)
      have HPR:=Lib.hid (HPR6.out.only hO HA.out)
      have S:=Lib.hid S2
      clear hE hz S2 hO HPR6 S6 p0 HOKI
      generalize wr.heap.size=P at S ⊢
      obtain ⟨u1,hu1⟩:∃ u1,u1=u.take pc.size:=⟨_,rfl⟩
      obtain ⟨u2,hu2⟩:∃ u2,u2=u.drop pc.size:=⟨_,rfl⟩
      have HU1:Hid ((strOf u).extract 0 pc.size=strOf u1):=Lib.hid (by rw [hu1];exact Ff u pc.size)
      have HU2:Hid ((strOf u).extract pc.size (strOf u).size=strOf u2):=Lib.hid (by rw [hu2];exact Fg u _ _ (by rw [jK];exact Nat.le_refl _))
      have HU2L:Hid (u2.length=Fs.tI (cs.drop (k+1))∧u2.length≤10000):=Lib.hid ⟨by rw [hu2,List.length_drop,HUL.out,HPD.out];omega,by rw [hu2,List.length_drop];have:=HU9.out;omega⟩
      have HU1L:Hid ((strOf u1).size≤maxLen):=Lib.hid (by rw [jK,hu1];have:=HU9.out;unfold maxLen;simp;omega)
      have HB1:Hid ((strOf u1).data.toList=u1):=Lib.hid (by simp [strOf])
      rw [← hu1,← hu2] at S
      have HT:Hid (∀ p W,p.length=64→Calls Tryz.prog 122 #[an p,.int .i64 (pc.at1:Int),.string (strOf u1)] W fun e w'=>e=.returned (an (Pg.br p pc.at1 u1))∧Below W.heap.size W w'):=Lib.hid (fun p W hp=>by
       have:=kn p (pc.at1:Int) (strOf u1) W hp HU1L.out
       rw [HB1.out] at this
       exact this)
      have HTL:Hid (∀ p:List UInt8,p.length=64→(Pg.br p pc.at1 u1).length=64):=Lib.hid (fun p hp=>by
       unfold Pg.br
       split
       ·rename_i q
        obtain ⟨c1,c2,c3⟩:=Pg.se q
        rw [Pg.bj _ _ _ (by omega)];exact hp
       ·exact hp)
      clear hu1 hu2 HU1L HB1
      go_wp2_with fail
      refine aO (fun kk W=>WrS R B b n I [] w (fun _ e _=>e=.returned (.tuple #[])) [(X,aH y2),(P,pcL pc)] s8 nn (fun p=>Pg.br p pc.at1 u1) (Fs.andThen (Fs.mS n I (cs.drop (k+1)) y2 u2) fun y=>Fs.sy i y) kk W∧nf W (some ⟨pb,poff,none⟩) cs) (fun ch W=>ch=[bn B]∧R (.panicked [bn B]) W) (fun i=>i == 4 || i == 11 || i == 12) (fun i=>[.pointer (some ⟨B,0,none⟩),.int .i64 nn,.pointer (some ⟨B,0,none⟩),.int .i64 nn,undef,.pointer (some ⟨P,1,none⟩),.int .i64 (pc.at1:Int),.string (strOf u),.pointer (some ⟨P,2,none⟩),.int .i64 (pc.size:Int),.string (strOf u1)].getD i undef) (some none) (by kernel_rfl) (by kernel_rfl) (fun ch a' W hd hh=>?_) ⟨S.out.drew,HPR.out.step ((Below.refl _ _).drew)⟩ ?_
      ·exact ⟨hd,by obtain ⟨rfl,hR⟩:=hh;exact hR⟩
      refine ag (i:=0) (d:=some 55) (v:=(.pointer (some ⟨B,0,none⟩))) rfl rfl (by kernel_rfl) (by kernel_rfl) rfl rfl (ae (by kernel_rfl) ?_) ?_
      ·((intro _ _ _;go_simp) <;> kernel_rfl)
      try simp only [Act.put,puA,puB,puC]
      refine ag (i:=1) (d:=some 56) (v:=(.int .i64 nn)) rfl rfl (by kernel_rfl) (by kernel_rfl) rfl rfl (ae (by kernel_rfl) ?_) ?_
      ·((intro _ _ _;go_simp) <;> kernel_rfl)
      try simp only [Act.put,puA,puB,puC]
      refine ag (i:=2) (d:=some 57) (v:=(.pointer (some ⟨B,0,none⟩))) rfl rfl (by kernel_rfl) (by kernel_rfl) rfl rfl (ae (by kernel_rfl) ?_) ?_
      ·((intro _ _ _;go_simp) <;> kernel_rfl)
      try simp only [Act.put,puA,puB,puC]
      refine ag (i:=3) (d:=some 58) (v:=(.int .i64 nn)) rfl rfl (by kernel_rfl) (by kernel_rfl) rfl rfl (ae (by kernel_rfl) ?_) ?_
      ·((intro _ _ _;go_simp) <;> kernel_rfl)
      try simp only [Act.put,puA,puB,puC]
      refine ag (i:=5) (d:=some 60) (v:=(.pointer (some ⟨P,1,none⟩))) rfl rfl (by kernel_rfl) (by kernel_rfl) rfl rfl (ae (by kernel_rfl) ?_) ?_
      ·((intro _ _ _;go_simp) <;> kernel_rfl)
      try simp only [Act.put,puA,puB,puC]
      refine ag (i:=6) (d:=some 61) (v:=(.int .i64 (pc.at1:Int))) rfl rfl (by kernel_rfl) (by kernel_rfl) rfl rfl (ae (by kernel_rfl) ?_) ?_
      ·(intro sZ wZ hZ;have cZ:=(fun kk W hS=>((WrS.lo hS.1).get 1 _ rfl).cell 1 _ rfl) sZ wZ hZ;go_simp)
      try simp only [Act.put,puA,puB,puC]
      refine ag (i:=7) (d:=some 62) (v:=(.string (strOf u))) rfl rfl (by kernel_rfl) (by kernel_rfl) rfl rfl (ae (by kernel_rfl) ?_) ?_
      ·((intro _ _ _;go_simp) <;> kernel_rfl)
      try simp only [Act.put,puA,puB,puC]
      refine ag (i:=8) (d:=some 63) (v:=(.pointer (some ⟨P,2,none⟩))) rfl rfl (by kernel_rfl) (by kernel_rfl) rfl rfl (ae (by kernel_rfl) ?_) ?_
      ·((intro _ _ _;go_simp) <;> kernel_rfl)
      try simp only [Act.put,puA,puB,puC]
      refine ag (i:=9) (d:=some 64) (v:=(.int .i64 (pc.size:Int))) rfl rfl (by kernel_rfl) (by kernel_rfl) rfl rfl (ae (by kernel_rfl) ?_) ?_
      ·(intro sZ wZ hZ;have cZ:=(fun kk W hS=>((WrS.lo hS.1).get 1 _ rfl).cell 2 _ rfl) sZ wZ hZ;go_simp)
      try simp only [Act.put,puA,puB,puC]
      refine ag (i:=10) (d:=some 65) (v:=.string (strOf u1)) rfl rfl (by kernel_rfl) (by kernel_rfl) rfl rfl (ae (by kernel_rfl) ?_) ?_
      ·intro kk W hS
       go_simp
       exact HU1.out
      try simp only [Act.put,puA,puB,puC]
      refine cO (i:=4) (d:=some 59) [11,12] (fun u k=>∃ p,u=an p∧k=some (some p)) rfl rfl (by kernel_rfl) (by kernel_rfl) rfl (by kernel_rfl) ⟨_,_,av,rfl,rfl⟩ (by kernel_rfl) (bm (f:=123) (args:=#[.pointer (some ⟨B,0,none⟩),.int .i64 nn]) ?_ (fun W hS=>(im hS.1.start.ctx nn).mono fun e w' hE=>by
       rcases Stp.pQ hS.1.start hE with ⟨rfl,hR⟩ | ⟨p,s',L',hp,rfl,S2,hO⟩
       ·exact Or.inr ⟨_,rfl,rfl,hR⟩
       ·obtain ⟨hd1,hd2⟩:=wK hS.1.start.ctx.vs hp HNZ.out
        exact Or.inl ⟨_,rfl,some (some p),⟨p,rfl,rfl⟩,⟨s',S2,hd1,hd2⟩,hS.2.only hO (fun bb f hh q=>HA.out bb f hh (by simp at q ⊢;exact Or.inl q))⟩)) ?_
      ·(intro _;go_simp)
      rintro _ _ ⟨p,rfl,rfl⟩
      try simp only [Act.put,puA,puB,puC]
      refine bw (i:=11) (d:=some 66) (fun u k=>u=an (Pg.br p pc.at1 u1)∧k=some (some p)) rfl rfl (by kernel_rfl) (by kernel_rfl) rfl (by kernel_rfl) ⟨_,_,rfl,rfl⟩ (by kernel_rfl) (bm (f:=122) (args:=#[an p,.int .i64 (pc.at1:Int),.string (strOf u1)]) ?_ (fun W hS=>(HT.out p W hS.1.CZ.choose_spec.2.2).mono fun e w' hh=>by
       obtain ⟨s',S2,hd1,hd2⟩:=hS.1.CZ
       exact Or.inl ⟨_,hh.1,some (some p),⟨rfl,rfl⟩,⟨s',S2.below hh.2,hd1,hd2⟩,hS.2.step hh.2⟩)) ?_
      ·(intro _;go_simp)
      rintro _ _ ⟨rfl,rfl⟩
      try simp only [Act.put,puA,puB,puC]
      refine bw (i:=12) (d:=some 67) (fun u k=>u=.tuple #[]∧k=none) rfl rfl (by kernel_rfl) (by kernel_rfl) rfl (by kernel_rfl) ⟨_,_,rfl,rfl⟩ (by kernel_rfl) (bm (f:=121) (args:=#[.pointer (some ⟨B,0,none⟩),.int .i64 nn,an (Pg.br p pc.at1 u1)]) ?_ (fun W hS=>by
       obtain ⟨s',S2,hd1,hd2⟩:=hS.1.CZ
       refine (fR S2.ctx nn (Pg.br p pc.at1 u1) (gh S2.ctx.vs hd1).1 (HTL.out p hd2)).mono fun e w' hE=>?_
       rcases Stp.pQ S2 hE with ⟨rfl,hR⟩ | ⟨_,s9,L',hp,rfl,S3,hO⟩
       ·exact Or.inr ⟨_,rfl,rfl,hR⟩
       ·exact Or.inl ⟨_,rfl,none,⟨rfl,rfl⟩,⟨s9,S3⟩,hS.2.only hO (fun bb f hh q=>HA.out bb f hh (by simp at q ⊢;exact Or.inl q))⟩)) ?_
      ·(intro _;go_simp)
      rintro _ _ ⟨rfl,rfl⟩
      try simp only [Act.put,puA,puB,puC]
      refine cH (by kernel_rfl) fun W hS=>?_
      obtain ⟨s9,S9⟩:=hS.1.done
      have HPR9:=Lib.hid hS.2
      clear S hS
      have S:=Lib.hid S9
      clear S9 HPR
      have p2:=(S.out.get 1 _ rfl).cell 2 _ rfl
      go_wp2_with fail
      go_roundw
      case rel=>exact ⟨k+1,u2,y2,s9,by omega,by rw [HU2.out],by go_num,Lib.hid HU2L.out.1,Lib.hid HU2L.out.2,Lib.hid (S.out.cut 1),HPR9⟩
      case measure=>simp [intOf];omega
     ·obtain rfl:k=len:=by omega
      have HZ:Hid (cs.drop k=[]):=Lib.hid (List.drop_of_length_le (by rw [HLE.out];omega))
      have S3:Hid (Stp R B b n I [] w (fun _ e _=>e=.returned (.tuple #[])) [(X,aH y)] s3 (Fs.sy i y) wr):=Lib.hid (by
       have:=S.out
       rw [HZ.out,Fs.mS,Fs.oq] at this
       exact this)
      clear S
      go_wp2_with (first
       | (with_reducible refine af cz (S3.out.get 0 _ rfl) rfl rfl (.tmp 8) rfl rfl ?_)
       | (go_at_call 124;refine (kM S3.out.ctx i y hib.1 hib.2).mono ?_;intro e w8 hE;rcases S3.out.last hE with ⟨rfl,hR⟩ | ⟨_,s8,L8,_,rfl,S2⟩;(exact ⟨rfl,hR⟩);clear S3 hE;have S:=Lib.hid S2;clear S2))
      go_end0
      exact S.out.done rfl
end

section
open Go.RowKit Go.Maps
open Dk (av aa)
open Ii (Ino)
theorem oG {P:Program} {Q:Exit→Act→List Frame→World→Prop} {a:Act} {cs:List Frame} {w:World} {d:Tmp} {ty:TypeId} {ps:String} (hw:yielded #[{ dst:=some d,op:=.call { callee:=.builtin .recover,args:=#[],argTypes:=#[] },type:=ty,pos:=ps,after:=#[],guard:=none }] a.tmps=yielded #[{ dst:=some d,op:=.call { callee:=.builtin .recover,args:=#[],argTypes:=#[] },type:=ty,pos:=ps,after:=#[],guard:=none }] a.tmps)
  (h:match recoverD cs with
   | some (v,cs')=>Q .normal (a.put (some d) v) cs' w
   | none=>Q .normal (a.put (some d) .nilIface) cs w):
  wpOpsS P #[{ dst:=some d,op:=.call { callee:=.builtin .recover,args:=#[],argTypes:=#[] },type:=ty,pos:=ps,after:=#[],guard:=none }] Q (List.range 1) a cs w:=by
 have:List.range 1=[0]:=rfl
 rw [this]
 simp only [wpOpsS,List.getElem?_toArray,List.getElem?_cons_zero]
 simp [go_sem,Region.wanted]
 cases hr:recoverD cs with
 | none=>rw [hr] at h;exact h
 | some x=>rw [hr] at h;exact h
theorem run_neq_ptr_same {P:Program} {tp te:TypeId} {j:TypeInfo} (a:Addr) (hp:P.underlying tp=some (.pointer te)) (hte:P.info? te=some j) (w:World):
  (binOp .neq tp (.pointer (some a)) (.pointer (some a))).run P w=.ok (.bool false) w:=by
 have h:∀ d:Nat,(Op.equalIn (d+1) tp (.pointer (some a)) (.pointer (some a))).run P w=.ok true w:=fun d=>by
  simp [Op.equalIn,run_underlying hp,sizeOf,typeInfo,hte,run_sameAddr_same]
 simp only [binOp]
 simp [Op.equal,Op.maxDepth,h 9999]
theorem Dp:∃ j,Tryz.prog.info? 154=some j:=Option.isSome_iff_exists.1 (by kernel_rfl)
theorem BG {w:World} {B C1 C2 st:Nat} {n I:Int} (hB:au w B (gO st n I true 0)) (h1:au w C1 [.pointer (some ⟨B,0,none⟩)]) (h2:au w C2 [.int .i64 0]) (hne:B≠C1∧B≠C2):
  CallsD Tryz.prog 218 #[.pointer (some ⟨C1,0,none⟩),.pointer (some ⟨C2,0,none⟩)] .returning w fun e u' w'=>e=.returned (.tuple #[])∧u'=.returning∧au w' C2 [.int .i64 0]∧aB [B,C2] w w':=by
 have c1:=h1.cell 0 _ rfl
 have cB:=hB.cell 3 _ rfl
 have fB:=hB.frozen 3 (show 3<5 by decide)
 refine callsD_of_wpS Tryz.func218 rfl fun c₀ cs hu=>?_
 simp only [Tryz.ntmps218,List.size_toArray,List.length_cons,List.length_nil,Nat.reduceAdd,Nat.reduceSub,Array.replicate_succ,Array.replicate_zero,List.push_toArray,List.append_toArray,List.nil_append,List.cons_append]
 apply wpS_seq
 apply wpS_of_wp
 go_wp2
 have HB:au (w.setCell ⟨B,3,none⟩ (.bool false)) B (gO st n I false 0):=au.dH hB 3 (.bool false) (show 3<5 by decide)
 have HO:aB [B,C2] w (w.setCell ⟨B,3,none⟩ (.bool false)):=(aB.refl [B,C2] w).setCell (p:=⟨B,3,none⟩) (by simp) _
 have H1:au (w.setCell ⟨B,3,none⟩ (.bool false)) C1 [.pointer (some ⟨B,0,none⟩)]:=h1.block (((aB.refl [B] w).setCell (p:=⟨B,3,none⟩) (by simp) _).block C1 h1.lt (by simpa using fun q=>hne.1 q.symm))
 have H2:au (w.setCell ⟨B,3,none⟩ (.bool false)) C2 [.int .i64 0]:=h2.block (((aB.refl [B] w).setCell (p:=⟨B,3,none⟩) (by simp) _).block C2 h2.lt (by simpa using fun q=>hne.2 q.symm))
 generalize World.setCell _ _ _=w1 at HB HO H1 H2 ⊢
 clear hB h1 h2 c1 cB fB
 have c1:=H1.cell 0 _ rfl
 have cB:=HB.cell 4 _ rfl
 have c2:=H2.cell 0 _ rfl
 have f2:=H2.frozen 0 (show 0<1 by decide)
 have hre:recoverD (c₀::cs)=none:=by simp [recoverD,hu]
 simp only [Exit.thenS]
 apply wpS_seq
 apply wpS_region
 refine oG rfl ?_
 rw [hre]
 simp only [Exit.thenS]
 apply wpS_of_wp
 go_wp2
 have H3:au (w1.setCell ⟨C2,0,none⟩ (.int .i64 0)) C2 [.int .i64 0]:=au.dH H2 0 (.int .i64 0) (show 0<1 by decide)
 have HO3:aB [B,C2] w (w1.setCell ⟨C2,0,none⟩ (.int .i64 0)):=HO.setCell (p:=⟨C2,0,none⟩) (by simp) _
 exact ⟨rfl,.returning,by cases c₀;simp_all,_,results_none rfl _ _ _,rfl,rfl,H3,HO3⟩
theorem vy {w:World} {B C1 C2 st:Nat} {n I er:Int} (hB:au w B (gO st n I true er)) (h1:au w C1 [.pointer (some ⟨B,0,none⟩)]) (h2:au w C2 [.int .i64 0]) (hne:B≠C1∧B≠C2):
  CallsD Tryz.prog 218 #[.pointer (some ⟨C1,0,none⟩),.pointer (some ⟨C2,0,none⟩)] (.panicking [bn B]) w fun e u' w'=>e=.returned (.tuple #[])∧u'=.panicking [{ v:=DO B,recovered:=true }]∧au w' C2 [.int .i64 er]∧aB [B,C2] w w':=by
 have c1:=h1.cell 0 _ rfl
 have cB:=hB.cell 3 _ rfl
 have fB:=hB.frozen 3 (show 3<5 by decide)
 refine callsD_of_wpS Tryz.func218 rfl fun c₀ cs hu=>?_
 simp only [Tryz.ntmps218,List.size_toArray,List.length_cons,List.length_nil,Nat.reduceAdd,Nat.reduceSub,Array.replicate_succ,Array.replicate_zero,List.push_toArray,List.append_toArray,List.nil_append,List.cons_append]
 apply wpS_seq
 apply wpS_of_wp
 go_wp2
 have HB:au (w.setCell ⟨B,3,none⟩ (.bool false)) B (gO st n I false er):=au.dH hB 3 (.bool false) (show 3<5 by decide)
 have HO:aB [B,C2] w (w.setCell ⟨B,3,none⟩ (.bool false)):=(aB.refl [B,C2] w).setCell (p:=⟨B,3,none⟩) (by simp) _
 have H1:au (w.setCell ⟨B,3,none⟩ (.bool false)) C1 [.pointer (some ⟨B,0,none⟩)]:=h1.block (((aB.refl [B] w).setCell (p:=⟨B,3,none⟩) (by simp) _).block C1 h1.lt (by simpa using fun q=>hne.1 q.symm))
 have H2:au (w.setCell ⟨B,3,none⟩ (.bool false)) C2 [.int .i64 0]:=h2.block (((aB.refl [B] w).setCell (p:=⟨B,3,none⟩) (by simp) _).block C2 h2.lt (by simpa using fun q=>hne.2 q.symm))
 generalize World.setCell _ _ _=w1 at HB HO H1 H2 ⊢
 clear hB h1 h2 c1 cB fB
 have c1:∀ o,(w1.alloc o).cell? ⟨C1,0,none⟩=some (.pointer (some ⟨B,0,none⟩)):=fun o=>(H1.alloc o).cell 0 _ rfl
 have cB:∀ o,(w1.alloc o).cell? ⟨B,4,none⟩=some (.int .i64 er):=fun o=>(HB.alloc o).cell 4 _ rfl
 have c2:∀ o,(w1.alloc o).cell? ⟨C2,0,none⟩=some (.int .i64 0):=fun o=>(H2.alloc o).cell 0 _ rfl
 have f2:∀ o,(w1.alloc o).frozen? ⟨C2,0,none⟩=false:=fun o=>(H2.alloc o).frozen 0 (show 0<1 by decide)
 have hg:∀ W:World,(eqGuard BinOp.eql 20 (.tmp 8) (.const .nilIface) (.iface 156 (.agg #[.pointer (some ⟨B,0,none⟩)])) .nilIface).run Tryz.prog W=.ok () W:=fun _=>by kernel_rfl
 have hq:∀ W:World,(binOp BinOp.eql 20 (.iface 156 (.agg #[.pointer (some ⟨B,0,none⟩)])) .nilIface).run Tryz.prog W=.ok (.bool false) W:=fun _=>by kernel_rfl
 have ha:∀ W:World,(Instr.typeAssert (.iface 156 (.agg #[.pointer (some ⟨B,0,none⟩)])) 20 156 true).run Tryz.prog W=.ok (.tuple #[.agg #[.pointer (some ⟨B,0,none⟩)],.bool true]) W:=fun _=>by kernel_rfl
 have hpq:∀ W:World,(binOp BinOp.neq 95 (.pointer (some ⟨B,0,none⟩)) (.pointer (some ⟨B,0,none⟩))).run Tryz.prog W=.ok (.bool false) W:=fun W=>by
  obtain ⟨j,hj⟩:=Dp
  exact run_neq_ptr_same _ Tryz.underlying95 hj W
 have hre:recoverD (c₀::cs)=some (DO B,{ c₀ with mode:=.panicking [{ v:=DO B,recovered:=true }] }::cs):=by simp [recoverD,hu,bn]
 simp only [Exit.thenS]
 apply wpS_seq
 apply wpS_region
 refine oG rfl ?_
 rw [hre]
 unfold DO
 simp only [Exit.thenS]
 apply wpS_of_wp
 go_wp2
 have HO4:=HO.alloc (.cells #[.pointer (some ⟨B,0,none⟩)] 156)
 have H4:=H2.alloc (.cells #[.pointer (some ⟨B,0,none⟩)] 156)
 generalize w1.alloc _=w2 at HO4 H4 ⊢
 have H3:au (w2.setCell ⟨C2,0,none⟩ (.int .i64 er)) C2 [.int .i64 er]:=au.dH H4 0 (.int .i64 er) (show 0<1 by decide)
 have HO3:aB [B,C2] w (w2.setCell ⟨C2,0,none⟩ (.int .i64 er)):=HO4.setCell (p:=⟨C2,0,none⟩) (by simp) _
 exact ⟨rfl,_,rfl,_,results_none rfl _ _ _,rfl,rfl,H3,HO3⟩
def Cb {α:Type} (B:Nat) (b:Blk) (n I:Int) (Ls:List Nat) (w0:World) (s:Sto) (m:Fs.M α) (P:α→World→Prop) (P':World→Prop) (e:Ending) (w':World):Prop:=
 (∃ a s' L,m (nv s)=(.ok a,nv s',L)∧nh s s' L∧Ctx w' B b s' n I∧e=.returned (.tuple #[])∧P a w'∧aB (b.t::Ls) w0 w') ∨
 (∃ er,eo s m er∧er≠0∧gq w' B b s n I er∧e=.panicked [bn B]∧P' w'∧aB (B::b.t::Ls) w0 w')
def Ran {α:Type} (B:Nat) (b:Blk) (n I:Int) (Ls:List Nat) (w0:World) (s:Sto) (m:Fs.M α) (P:α→World→Prop) (P':World→Prop) (e:Ending) (w':World):Prop:=
 (∃ a s' L,m (nv s)=(.ok a,nv s',L)∧nh s s' L∧e=.returned (.int .i64 0)∧ay w' b s'∧Vs s' n I∧P a w'∧aB (B::b.t::Ls) w0 w') ∨
 (∃ er s',eo s m er∧er≠0∧e=.returned (.int .i64 er)∧ay w' b s'∧s'={ s with step:=s'.step }∧P' w'∧aB (B::b.t::Ls) w0 w')
def Ez (Ls:List Nat) (N:Nat) (P:World→Prop):Prop:=∀ w w' L,P w→aB L w w'→(∀ k∈L,k∉Ls)→N≤w.heap.size→P w'
theorem BE (w:World) (B:Nat):Lo [] w [(w.heap.size,[.pointer (some ⟨B,0,none⟩)]),(w.heap.size+1,[.int .i64 0])] ((w.alloc (.cells #[.pointer (some ⟨B,0,none⟩)] 95)).alloc (.cells #[.int .i64 0] 45)):=
 ((Lo.start w (by simp)).alloc _ rfl [.pointer (some ⟨B,0,none⟩)] _).alloc (w.heap.size+1) (by simp) [.int .i64 0] _
def pG (Ls:List Nat) (N M:Nat) (P:World→Prop):Prop:=∀ w w' L,P w→aB L w w'→(∀ k∈L,k∉Ls∧k<M)→N≤w.heap.size→P w'
theorem Fi {α:Type} {w:World} {B:Nat} {b:Blk} {s:Sto} {n I:Int} (hB:au w B (gO b.s n I false 0)) (hst:ay w b s) (v:Vs s n I) (nb:B∉b.all) (Ls:List Nat) (hLs:∀ k∈Ls,k<w.heap.size∧k≠B) (m:Fs.M α) (P:Nat→α→World→Prop) (P':World→Prop) (hP:∀ M a,pG Ls w.heap.size M (P M a)) (hP':Ez Ls w.heap.size P') (f:FuncId) (caps:Array Value) (hcf:∀ (args:Array Value) (W:World),(callFunc f args).run Tryz.prog W=.ok (.enter f args) W)
  (hf:∀ w1,Ctx w1 B b s n I→aB [B] w w1→Calls Tryz.prog f (#[.pointer (some ⟨B,0,none⟩)]++caps) w1 (Cb B b n I Ls w1 s m (P w1.heap.size) P')):
  Calls Tryz.prog 171 #[.pointer (some ⟨B,0,none⟩),.func (.func f) #[] caps] w (Ran B b n I Ls w s m (fun a W=>∃ M,w.heap.size≤M∧P M a W) P'):=by
 have hmf:∀ (fn:Fn) (first cap:Array Value) (w:World),(Instr.makeFunc fn first cap).run Tryz.prog w=.ok (.func fn first cap) w:=fun _ _ _ _=>rfl
 have c1:∀ o,((w.alloc (.cells #[.pointer (some ⟨B,0,none⟩)] 95)).alloc o).cell? ⟨B,3,none⟩=some (.bool false):=fun o=>((hB.alloc _).alloc o).cell 3 _ rfl
 have f1:∀ o,((w.alloc (.cells #[.pointer (some ⟨B,0,none⟩)] 95)).alloc o).frozen? ⟨B,3,none⟩=false:=fun o=>((hB.alloc _).alloc o).frozen 3 (show 3<5 by decide)
 have hnf:∀ W:World,(binOp BinOp.neq 152 (.func (.func f) #[] caps) .nilFunc).run Tryz.prog W=.ok (.bool true) W:=fun _=>by kernel_rfl
 have hbl:B<w.heap.size:=hB.lt
 have c2:(((w.alloc (.cells #[.pointer (some ⟨B,0,none⟩)] 95)).alloc (.cells #[.int .i64 0] 45)).setCell ⟨B,3,none⟩ (.bool true)).cell? ⟨w.heap.size,0,none⟩=some (.pointer (some ⟨B,0,none⟩)):=(((BE w B).get 0 _ rfl).gz B 3 (.bool true) (by show w.heap.size≠B;omega)).cell 0 _ rfl
 go_enter_defers Tryz.func171,Tryz.ntmps171
 go_wp2_with fail
 have hsz:(w.setCell ⟨B,3,none⟩ (.bool true)).heap.size=w.heap.size:=by simp
 have HB3:au (w.setCell ⟨B,3,none⟩ (.bool true)) B (gO b.s n I true 0):=au.dH hB 3 (.bool true) (show 3<5 by decide)
 have HO0:aB [B] w (w.setCell ⟨B,3,none⟩ (.bool true)):=(aB.refl [B] w).setCell (p:=⟨B,3,none⟩) (by simp) _
 have HST0:ay (w.setCell ⟨B,3,none⟩ (.bool true)) b s:=hst.only HO0 (fun k hk q=>by rw [List.mem_singleton] at q;subst q;exact nb hk)
 generalize w.setCell ⟨B,3,none⟩ (.bool true)=w0 at hsz HB3 HO0 HST0 ⊢
 have S:=BE w0 B
 rw [hsz] at S
 have HC:Ctx ((w0.alloc (.cells #[.pointer (some ⟨B,0,none⟩)] 95)).alloc (.cells #[.int .i64 0] 45)) B b s n I:=⟨(HB3.alloc _).alloc _,(HST0.alloc _).alloc _,v,nb⟩
 have HO:=(HO0.alloc (.cells #[.pointer (some ⟨B,0,none⟩)] 95)).alloc (.cells #[.int .i64 0] 45)
 generalize World.alloc _ _=w1 at S HC HO ⊢
 have hN:∀ k∈b.t::Ls,k<w.heap.size:=fun k hk=>by
  rcases List.mem_cons.1 hk with rfl | hk
  ·exact hst.lt _ b.dX
  ·exact (hLs k hk).1
 have r1:au w1 w.heap.size [.pointer (some ⟨B,0,none⟩)]:=S.get 0 _ rfl
 have r2:au w1 (w.heap.size+1) [.int .i64 0]:=S.get 1 _ rfl
 refine (hf w1 HC HO).mono ?_
 rintro e w2 (⟨a,s',L,E,G,C',rfl,hPa,O⟩ | ⟨er,F,h0,Br,rfl,hPw,O⟩)
 ·have k1:au w2 w.heap.size [.pointer (some ⟨B,0,none⟩)]:=r1.only O (fun q=>by have:=hN _ q;omega)
  have k2:au w2 (w.heap.size+1) [.int .i64 0]:=r2.only O (fun q=>by have:=hN _ q;omega)
  have cc:=k2.cell 0 _ rfl
  have ff:=k2.frozen 0 (show 0<1 by decide)
  go_wp2_with fail
  have k3:au (w2.setCell ⟨w.heap.size+1,0,none⟩ (.int .i64 0)) (w.heap.size+1) [.int .i64 0]:=au.dH k2 0 (.int .i64 0) (show 0<1 by decide)
  have k4:au (w2.setCell ⟨w.heap.size+1,0,none⟩ (.int .i64 0)) w.heap.size [.pointer (some ⟨B,0,none⟩)]:=k1.gz _ 0 _ (by omega)
  have k5:au (w2.setCell ⟨w.heap.size+1,0,none⟩ (.int .i64 0)) B (gO b.s n I true 0):=C'.step.gz _ 0 _ (by omega)
  have O3:aB [w.heap.size+1] w2 (w2.setCell ⟨w.heap.size+1,0,none⟩ (.int .i64 0)):=(aB.refl _ w2).setCell (p:=⟨w.heap.size+1,0,none⟩) (by simp) _
  generalize World.setCell _ _ _=w3 at k3 k4 k5 O3 ⊢
  refine leaves_cons (f:=218) (args:=#[.pointer (some ⟨w.heap.size,0,none⟩),.pointer (some ⟨w.heap.size+1,0,none⟩)]) (by simp) (by simp [go_sem]) ?_
  refine (BG k5 k4 k3 ⟨by omega,by omega⟩).mono ?_
  rintro e u' w4 ⟨rfl,rfl,hR,hO⟩
  have h3:=hR.cell 0 _ rfl
  simp [Leaves,settle,results,Tryz.results171,go_sem]
  rw [h3]
  have O4:aB [B,w.heap.size+1] w2 w4:=(O3.mono (by simp)).trans hO
  refine ⟨_,rfl,Or.inl ⟨a,s',L,E,G,rfl,C'.store.only O4 (fun k hk q=>?_),C'.vs,⟨w1.heap.size,HO.size,hP _ a w2 w4 _ hPa O4 (fun k hk=>?_) (Nat.le_trans HO.size O.size)⟩,?_⟩⟩
  ·simp only [List.mem_cons,List.not_mem_nil,or_false] at q
   rcases q with rfl | rfl
   ·exact nb hk
   ·have:=hst.lt _ hk;omega
  ·simp only [List.mem_cons,List.not_mem_nil,or_false] at hk
   refine ⟨fun q=>?_,?_⟩
   ·have:=hLs k q
    rcases hk with rfl | rfl <;> omega
   ·have h2:=r2.lt
    have h9:=HO.size
    rcases hk with rfl | rfl <;> omega
  ·have OA:aB (B::b.t::Ls) w w2:=aB.via (HO.mono (by simp)) O (fun i hi=>Or.inl (List.mem_cons_of_mem _ hi))
   exact OA.via O4 (fun i hi=>by
    simp only [List.mem_cons,List.not_mem_nil,or_false] at hi ⊢
    rcases hi with rfl | rfl
    ·exact Or.inl (Or.inl rfl)
    ·exact Or.inr (by omega))
 ·have k1:au w2 w.heap.size [.pointer (some ⟨B,0,none⟩)]:=r1.only O (fun q=>by
   rcases List.mem_cons.1 q with q | q
   ·omega
   ·have:=hN _ q;omega)
  have k2:au w2 (w.heap.size+1) [.int .i64 0]:=r2.only O (fun q=>by
   rcases List.mem_cons.1 q with q | q
   ·omega
   ·have:=hN _ q;omega)
  show Leaves _ _ _ _ _ _ _
  refine leaves_cons (f:=218) (args:=#[.pointer (some ⟨w.heap.size,0,none⟩),.pointer (some ⟨w.heap.size+1,0,none⟩)]) (by simp) (by simp [go_sem]) ?_
  refine (vy Br.step k1 k2 ⟨by omega,by omega⟩).mono ?_
  rintro e u' w3 ⟨rfl,rfl,hR,hO⟩
  have h3:=hR.cell 0 _ rfl
  simp [Leaves,settle,results,Tryz.results171,go_sem]
  rw [h3]
  obtain ⟨s',hs1,hs2⟩:=Br.store
  refine ⟨_,rfl,Or.inr ⟨er,s',F,h0,rfl,hs1.only hO (fun k hk q=>?_),hs2,hP' w2 w3 _ hPw hO (fun k hk q=>?_) (Nat.le_trans HO.size O.size),?_⟩⟩
  ·simp only [List.mem_cons,List.not_mem_nil,or_false] at q
   rcases q with rfl | rfl
   ·exact nb hk
   ·have:=hst.lt _ hk;omega
  ·simp only [List.mem_cons,List.not_mem_nil,or_false] at hk
   have:=hLs k q
   rcases hk with rfl | rfl <;> omega
  ·have OA:aB (B::b.t::Ls) w w2:=aB.via (HO.mono (by simp)) O (fun i hi=>Or.inl hi)
   exact OA.via hO (fun i hi=>by
    simp only [List.mem_cons,List.not_mem_nil,or_false] at hi ⊢
    rcases hi with rfl | rfl
    ·exact Or.inl (Or.inl rfl)
    ·exact Or.inr (by omega))
end

section
open Go.RowKit Go.Maps
open Dk (av aa)
open Ii (Ino)
structure bu (w:World) (V:Nat) (b:Blk) (s:Sto) (n I k:Int):Prop where
 row:au w V (Hu b.s n I k)
 store:ay w b s
 nb:V∉b.all
section
variable {w w':World} {V:Nat} {b:Blk} {s:Sto} {n I k:Int}
theorem bu.below (h:bu w V b s n I k) (hb:Below w.heap.size w w'):bu w' V b s n I k:=⟨h.row.step hb,h.store.below hb,h.nb⟩
theorem bu.alloc (h:bu w V b s n I k) (o:Obj):bu (w.alloc o) V b s n I k:=⟨h.row.alloc o,h.store.alloc o,h.nb⟩
theorem bu.only (h:bu w V b s n I k) {L:List Nat} (ho:aB L w w') (hV:V∉L) (hL:∀ i∈b.all,i∉L):bu w' V b s n I k:=⟨h.row.block (ho.block V h.row.lt hV),h.store.only ho hL,h.nb⟩
theorem bu.c0 (h:bu w V b s n I k):w.cell? ⟨V,0,none⟩=some (.pointer (some ⟨b.s,0,none⟩)):=h.row.cell 0 _ rfl
theorem bu.c3 (h:bu w V b s n I k):w.cell? ⟨V,3,none⟩=some (.int .i64 k):=h.row.cell 3 _ rfl
theorem bu.f3 (h:bu w V b s n I k):w.frozen? ⟨V,3,none⟩=false:=h.row.frozen 3 (show 3<4 by decide)
theorem bu.set (h:bu w V b s n I k) (j:Int):bu (w.setCell ⟨V,3,none⟩ (.int .i64 j)) V b s n I j:=
 ⟨au.dH h.row 3 (.int .i64 j) (show 3<4 by decide),h.store.only ((aB.refl [V] w).setCell (p:=⟨V,3,none⟩) (by simp) _) (fun i hi q=>by rw [List.mem_singleton] at q;subst q;exact h.nb hi),h.nb⟩
end
theorem kJ (w:World):Calls Tryz.prog 42 #[.pointer none] w fun e w'=>e=.returned (.bool true)∧w=w':=by
 go_enter Tryz.func42,Tryz.ntmps42
 go_wp2
 go_ret
 exact ⟨rfl,rfl⟩
theorem sI {w:World} {V:Nat} {b:Blk} {s:Sto} {n I k:Int} (h:bu w V b s n I k):Calls Tryz.prog 42 #[.pointer (some ⟨V,0,none⟩)] w fun e w'=>e=.returned (.bool s.over)∧w=w':=by
 have c0:=h.c0
 have HO:=Lib.hid (kO h.store)
 clear h
 go_enter Tryz.func42,Tryz.ntmps42
 go_wp2_with (go_at_call 95;(with_reducible refine HO.out.mono ?_);rintro e w' ⟨rfl,rfl⟩)
 go_ret
 exact ⟨rfl,rfl⟩
def mf (st:Nat):Value:=.func (.func 215) #[.pointer (some ⟨st,0,none⟩)] #[]
theorem Ek {w:World} {V:Nat} {b:Blk} {s:Sto} {n I:Int} (h:bu w V b s n I 0):Calls Tryz.prog 169 #[.pointer (some ⟨V,0,none⟩)] w fun e w'=>e=.returned (mf b.s)∧bu w' V b s n I 1∧aB [V] w w':=by
 have hmf:∀ (fn:Fn) (first cap:Array Value) (w:World),(Instr.makeFunc fn first cap).run Tryz.prog w=.ok (.func fn first cap) w:=fun _ _ _ _=>rfl
 have H1:=h.alloc (.cells #[.pointer (some ⟨V,0,none⟩)] 51)
 have HO:=(aB.refl [V] w).alloc (.cells #[.pointer (some ⟨V,0,none⟩)] 51)
 have r0:au (w.alloc (.cells #[.pointer (some ⟨V,0,none⟩)] 51)) w.heap.size [.pointer (some ⟨V,0,none⟩)]:=((Lo.start (L:=[]) w (by simp)).alloc _ rfl [.pointer (some ⟨V,0,none⟩)] 51).get 0 _ rfl
 have c3:=H1.c3
 have f3:=H1.f3
 have H2:=H1.set 1
 have HO2:=HO.setCell (p:=⟨V,3,none⟩) (by simp) (.int .i64 1)
 have c0:=H2.c0
 clear h r0
 go_enter Tryz.func169,Tryz.ntmps169
 go_wp2
 go_ret
 exact ⟨rfl,H2,HO2⟩
def wh (b:Blk):List Nat:=[b.j,b.d,b.l,b.m,b.g,b.t]
theorem AP {w:World} {V:Nat} {b:Blk} {s:Sto} {n I:Int} (h:bu w V b s n I 1) (hq0:0≤s.q) (hq1:s.q<4294967290):Calls Tryz.prog 172 #[.pointer (some ⟨V,0,none⟩)] w fun e w'=>e=.returned (.int .i64 (et s))∧ay w' b (fp s)∧aB (wh b) w w':=by
 have c3:=h.c3
 have c0:=h.c0
 have HK:=Lib.hid (Bz h.store hq0 hq1)
 clear h
 go_enter Tryz.func172,Tryz.ntmps172
 go_wp2_with (go_at_call 219;(with_reducible refine HK.out.mono ?_);rintro e w' ⟨rfl,hst,hO⟩)
 go_ret
 exact ⟨rfl,hst,hO⟩
theorem wE {w:World} {V:Nat} {b:Blk} {s:Sto} {n I:Int} {C0 C1 C2:Nat} {u:FrameMode} (h:bu w V b s n I 1) (h0:au w C0 [.pointer (some ⟨V,0,none⟩)]) (h1:au w C1 [mf b.s]) (done:Bool) (h2:au w C2 [.bool done]) (hne:C0≠V∧C1≠V∧C2≠V):
  CallsD Tryz.prog 170 #[.pointer (some ⟨C0,0,none⟩),.pointer (some ⟨C2,0,none⟩),.pointer (some ⟨C1,0,none⟩)] u w fun e u' w'=>u'=u∧(e=.returned (.tuple #[])∧bu w' V b (if done=true then s else oc s) n I 0∧aB [V,b.t] w w'):=by
 have H1:=h.set 0
 have HO:=(aB.refl [V,b.t] w).setCell (p:=⟨V,3,none⟩) (by simp) (.int .i64 0)
 have c3:=h.c3
 have f3:=h.f3
 have c0:=h0.cell 0 _ rfl
 have c1:=(h1.gz V 3 (.int .i64 0) hne.2.1).cell 0 _ rfl
 have c2:=(h2.gz V 3 (.int .i64 0) hne.2.2).cell 0 _ rfl
 clear h h0 h1 h2
 go_enter_d Tryz.func170,Tryz.ntmps170
 cases done with
 |
  true=>
  go_wp2
  go_end0
  exact ⟨rfl,H1,HO⟩
 |
  false=>
  have HD:=Lib.hid (BC H1.store)
  unfold mf at c1
  go_wp2_with (go_at_call 215;(with_reducible refine HD.out.mono ?_);rintro e w' ⟨rfl,hst,hO⟩)
  go_end0
  refine ⟨rfl,⟨H1.row.block (hO.block V H1.row.lt ?_),hst,H1.nb⟩,HO.trans (hO.mono (by simp))⟩
  rw [List.mem_singleton]
  intro q
  exact H1.nb (q ▸ b.dX)
def Stepped {α:Type} (V:Nat) (b:Blk) (n I:Int) (s:Sto) (m:Fs.M α) (P:α→World→Prop) (P':World→Prop) (e:Ending) (w':World):Prop:=
 (∃ a s' L,m (nv s)=(.ok a,nv s',L)∧nh s s' L∧Vs s' n I∧et s'=0∧e=.returned (.int .i64 0)∧bu w' V b (fp s') n I 0∧P a w') ∨
 (∃ er,eo s m er∧er≠0∧e=.returned (.int .i64 er)∧bu w' V b (oc s) n I 0∧P' w') ∨
 (∃ a s' L,m (nv s)=(.ok a,nv s',L)∧nh s s' L∧Vs s' n I∧et s'≠0∧e=.returned (.int .i64 (et s'))∧bu w' V b (oc (fp s')) n I 0∧P a w')
theorem LJ {α:Type} {w:World} {V:Nat} {b:Blk} {s:Sto} {n I:Int} (h:bu w V b s n I 0) (v:Vs s n I) (hq:s.q<4294967290) (Ls:List Nat) (hLs:∀ k∈Ls,k<w.heap.size∧k≠V∧k∉b.all) (m:Fs.M α) (P:Nat→α→World→Prop) (P':World→Prop) (hP:∀ M a,pG Ls w.heap.size M (P M a)) (hP':Ez Ls w.heap.size P') (f:FuncId) (caps:Array Value) (hcf:∀ (args:Array Value) (W:World),(callFunc f args).run Tryz.prog W=.ok (.enter f args) W)
  (hf:∀ B w1,w.heap.size≤B→Ctx w1 B b s n I→aB [V] w w1→au w1 V (Hu b.s n I 1)→Calls Tryz.prog f (#[.pointer (some ⟨B,0,none⟩)]++caps) w1 (Cb B b n I Ls w1 s m (P w1.heap.size) P')):
  Calls Tryz.prog 115 #[.pointer (some ⟨V,0,none⟩),.func (.func f) #[] caps] w fun e w'=>Stepped V b n I s m (fun a W=>∃ M,w.heap.size≤M∧P M a W) P' e w'∧aB (V::(b.all++Ls)) w w':=by
 have hmf:∀ (fn:Fn) (first cap:Array Value) (w:World),(Instr.makeFunc fn first cap).run Tryz.prog w=.ok (.func fn first cap) w:=fun _ _ _ _=>rfl
 have H1:=h.alloc (.cells #[.pointer (some ⟨V,0,none⟩)] 51)
 have S1:=(Lo.start (L:=[V]) w (by have:=h.row.lt;simpa using this)).alloc _ rfl [.pointer (some ⟨V,0,none⟩)] 51
 have hov:=v.snd.up
 have HV:=Lib.hid (sI H1)
 rw [hov] at HV
 have HB:=Lib.hid (Ek H1)
 unfold mf at HB
 have r0:=S1.get 0 _ rfl
 have c0:=r0.cell 0 _ rfl
 have hlt:=h.row.lt
 go_enter_defers Tryz.func115,Tryz.ntmps115
 go_wp2_with (first
  | (go_at_call 42;(with_reducible refine HV.out.mono ?_);rintro e w' ⟨rfl,rfl⟩)
  | (go_at_call 169;(with_reducible refine HB.out.mono ?_);rintro e w2 ⟨rfl,HV2,HO2⟩;have S2:=S1.call HO2 (fun k hk=>hk);have c0b:∀ o1 o2,((w2.alloc o1).alloc o2).cell? ⟨w.heap.size,0,none⟩=some (.pointer (some ⟨V,0,none⟩)):=fun o1 o2=>(((S2.get 0 _ rfl).alloc o1).alloc o2).cell 0 _ rfl)
  | (with_reducible refine wpList_load_mid rfl 134 (.tmp 17) rfl V 0 rfl [.pointer (some ⟨b.s,0,none⟩),.int .i64 n,.int .i64 I] _ ((HV2.alloc _).alloc _).row.base Tryz.underlying134 rfl (by kernel_rfl) ?_))
 have T1:=S2.alloc w2.heap.size rfl [mf b.s] 1
 have T2:=T1.alloc (w2.heap.size+1) (by simp) [.bool false] 4
 have T3:=T2.alloc (w2.heap.size+1+1) (by simp) (gO b.s n I false 0) 154
 have HV3:=((HV2.alloc (.cells [mf b.s].toArray 1)).alloc (.cells [.bool false].toArray 4)).alloc (.cells (gO b.s n I false 0).toArray 154)
 have hws:w.heap.size+1≤w2.heap.size:=(S1.call HO2 (fun k hk=>hk)).row _ (List.mem_cons_self ..) |>.2.2
 change Calls _ _ _ (((w2.alloc (.cells [mf b.s].toArray 1)).alloc (.cells [.bool false].toArray 4)).alloc (.cells (gO b.s n I false 0).toArray 154)) _
 generalize hw3:World.alloc _ _=w3 at T3 HV3 ⊢
 have hsz3:w3.heap.size=w2.heap.size+1+1+1:=by rw [← hw3];simp
 clear hw3 T1 T2 S1 S2 H1 HV HB HO2 HV2 c0 c0b r0
 obtain ⟨C1,hC1⟩:∃ C1,C1=w2.heap.size:=⟨_,rfl⟩
 rw [← hC1] at T3 hws hsz3 ⊢
 clear hC1 w2
 have T:Lo [V] w [(w.heap.size,[.pointer (some ⟨V,0,none⟩)]),(C1,[mf b.s]),(C1+1,[.bool false]),(C1+1+1,gO b.s n I false 0)] w3:=T3
 clear T3
 have hbl:∀ k∈b.all,k<w.heap.size:=fun k hk=>h.store.lt k hk
 have hq0:=v.snd.q0
 have r0:au w3 w.heap.size [.pointer (some ⟨V,0,none⟩)]:=T.get 0 _ rfl
 have r1:au w3 C1 [mf b.s]:=T.get 1 _ rfl
 have r2:au w3 (C1+1) [.bool false]:=T.get 2 _ rfl
 have rB:au w3 (C1+1+1) (gO b.s n I false 0):=T.get 3 _ rfl
 have OA:aB (V::(b.all++Ls)) w w3:=T.only.mono (by simp)
 refine (Fi rB HV3.store v (fun q=>by have:=hbl _ q;omega) Ls (fun k hk=>⟨by have:=(hLs k hk).1;omega,by have:=(hLs k hk).1;omega⟩) m P P' (fun M a w1 w1' L h1 h2 h3 h4=>hP M a w1 w1' L h1 h2 h3 (by omega)) (fun w1 w1' L h1 h2 h3 h4=>hP' w1 w1' L h1 h2 h3 (by omega)) f caps hcf (fun w1 hc ho=>hf _ w1 (by omega) hc (T.only.via ho (fun i hi=>Or.inr (by rw [List.mem_singleton] at hi;omega))) (HV3.row.only ho (by simp;omega)))).mono ?_
 have hkO:∀ i,i∈(C1+1+1)::b.t::Ls→i∈V::(b.all++Ls)∨w.heap.size≤i:=fun i hi=>by
  rcases List.mem_cons.1 hi with rfl | hi
  ·right;omega
  ·left
   rcases List.mem_cons.1 hi with rfl | hi
   ·exact List.mem_cons_of_mem _ (List.mem_append_left _ b.dX)
   ·exact List.mem_cons_of_mem _ (List.mem_append_right _ hi)
 have hnC:∀ k,w.heap.size≤k→k≠C1+1+1→k∉(C1+1+1)::b.t::Ls:=fun k hk hne q=>by
  rcases List.mem_cons.1 q with q | q
  ·exact hne q
  ·rcases List.mem_cons.1 q with q | q
   ·have:=hbl _ b.dX;omega
   ·have:=(hLs k q).1;omega
 have hnV:V∉(C1+1+1)::b.t::Ls:=fun q=>by
  rcases List.mem_cons.1 q with q | q
  ·omega
  ·rcases List.mem_cons.1 q with q | q
   ·exact h.nb (q ▸ b.dX)
   ·exact (hLs V q).2.1 rfl
 rintro e w4 (⟨a,s',L,E,G,rfl,hst,v',⟨M,hM,hPa⟩,O⟩ | ⟨er,s',F,h0,rfl,hst,hs',hPw,O⟩)
 ·have OB:=OA.via O hkO
  have HV4:bu w4 V b s' n I 1:=⟨HV3.row.only O hnV,hst,h.nb⟩
  have k0:au w4 w.heap.size [.pointer (some ⟨V,0,none⟩)]:=r0.only O (hnC _ (by omega) (by omega))
  have k1:au w4 C1 [mf b.s]:=r1.only O (hnC _ (by omega) (by omega))
  have k2:au w4 (C1+1) [.bool false]:=r2.only O (hnC _ (by omega) (by omega))
  have c0:=k0.cell 0 _ rfl
  have HK:=Lib.hid (AP HV4 (by rw [G.same];exact hq0) (by rw [G.same];exact hq))
  have hkL:∀ i∈wh b,i∈b.all:=fun i hi=>by simp only [wh,Blk.all,List.mem_cons,List.not_mem_nil,or_false] at hi ⊢;rcases hi with h | h | h | h | h | h <;> simp [h]
  have hnK:∀ k,w.heap.size≤k→k∉wh b:=fun k hk q=>by have:=hbl _ (hkL _ q);omega
  have hnVK:V∉wh b:=fun q=>h.nb (hkL _ q)
  by_cases hke:et s'=0
  ·rw [hke] at HK
   have arm:∀ w5,ay w5 b (fp s')→aB (wh b) w4 w5→bu w5 V b (fp s') n I 1∧au w5 w.heap.size [.pointer (some ⟨V,0,none⟩)]∧au w5 C1 [mf b.s]∧au w5 (C1+1) [.bool false]∧(∀ a,P M a w4→P M a w5)∧aB (V::(b.all++Ls)) w w5:=fun w5 hs5 ho=>⟨⟨HV4.row.only ho hnVK,hs5,h.nb⟩,k0.only ho (hnK _ (by omega)),k1.only ho (hnK _ (by omega)),k2.only ho (hnK _ (by omega)),fun a hp=>hP M a _ _ _ hp ho (fun k hk=>⟨fun q=>(hLs k q).2.2 (hkL _ hk),by have:=hbl _ (hkL _ hk);omega⟩) OB.size,OB.via ho (fun i hi=>Or.inl (List.mem_cons_of_mem _ (List.mem_append_left _ (hkL _ hi))))⟩
   go_wp2_with (go_at_call 172;(with_reducible refine HK.out.mono ?_);rintro e w5 ⟨rfl,hs5,hO5⟩;obtain ⟨HV5,j0,j1,j2,hPP,OC⟩:=arm w5 hs5 hO5;have c2:=j2.cell 0 _ rfl;have f2:=j2.frozen 0 (show 0<1 by decide))
   have HV6:bu (w5.setCell ⟨C1+1,0,none⟩ (.bool true)) V b (fp s') n I 1:=HV5.only (L:=[C1+1]) ((aB.refl _ w5).setCell (p:=⟨C1+1,0,none⟩) (by simp) _) (by simp;omega) (fun i hi q=>by rw [List.mem_singleton] at q;have:=hbl _ hi;omega)
   have i0:=j0.gz (C1+1) 0 (.bool true) (by omega)
   have i1:=j1.gz (C1+1) 0 (.bool true) (by omega)
   have i2:au (w5.setCell ⟨C1+1,0,none⟩ (.bool true)) (C1+1) [.bool true]:=au.dH j2 0 (.bool true) (show 0<1 by decide)
   have O6:aB [C1+1] w5 (w5.setCell ⟨C1+1,0,none⟩ (.bool true)):=(aB.refl _ w5).setCell (p:=⟨C1+1,0,none⟩) (by simp) _
   generalize World.setCell _ _ _=w6 at HV6 i0 i1 i2 O6 ⊢
   show Leaves _ _ _ _ _ _ _
   refine leaves_cons (f:=170) (args:=#[.pointer (some ⟨w.heap.size,0,none⟩),.pointer (some ⟨C1+1,0,none⟩),.pointer (some ⟨C1,0,none⟩)]) (by simp) (by simp [go_sem]) ?_
   refine (wE HV6 i0 i1 true i2 ⟨by omega,by omega,by omega⟩).mono ?_
   rintro e u' w7 ⟨rfl,rfl,HV7,hO7⟩
   simp [Leaves,settle,results,Tryz.results115,go_sem]
   have O7:aB [C1+1,V,b.t] w5 w7:=(O6.mono (by simp)).trans (hO7.mono (by simp))
   refine ⟨Or.inl ⟨a,s',L,E,G,v',hke,rfl,HV7,⟨M,by omega,hP M a _ _ _ (hPP a hPa) O7 (fun k hk=>?_) OC.size⟩⟩,OC.via O7 (fun i hi=>?_)⟩
   ·simp only [List.mem_cons,List.not_mem_nil,or_false] at hk
    refine ⟨fun q=>?_,?_⟩
    ·obtain ⟨q1,q2,q3⟩:=hLs k q
     rcases hk with rfl | rfl | rfl
     ·omega
     ·exact q2 rfl
     ·exact q3 b.dX
    ·rcases hk with rfl | rfl | rfl
     ·omega
     ·omega
     ·have:=hbl _ b.dX;omega
   ·simp only [List.mem_cons,List.not_mem_nil,or_false] at hi
    rcases hi with rfl | rfl | rfl
    ·right;omega
    ·left;exact List.mem_cons_self ..
    ·left;exact List.mem_cons_of_mem _ (List.mem_append_left _ b.dX)
  ·have hke':(et s' == 0)=false:=by simpa using hke
   have arm:∀ w5,ay w5 b (fp s')→aB (wh b) w4 w5→bu w5 V b (fp s') n I 1∧au w5 w.heap.size [.pointer (some ⟨V,0,none⟩)]∧au w5 C1 [mf b.s]∧au w5 (C1+1) [.bool false]∧(∀ a,P M a w4→P M a w5)∧aB (V::(b.all++Ls)) w w5:=fun w5 hs5 ho=>⟨⟨HV4.row.only ho hnVK,hs5,h.nb⟩,k0.only ho (hnK _ (by omega)),k1.only ho (hnK _ (by omega)),k2.only ho (hnK _ (by omega)),fun a hp=>hP M a _ _ _ hp ho (fun k hk=>⟨fun q=>(hLs k q).2.2 (hkL _ hk),by have:=hbl _ (hkL _ hk);omega⟩) OB.size,OB.via ho (fun i hi=>Or.inl (List.mem_cons_of_mem _ (List.mem_append_left _ (hkL _ hi))))⟩
   go_wp2_with (go_at_call 172;(with_reducible refine HK.out.mono ?_);rintro e w5 ⟨rfl,hs5,hO5⟩;obtain ⟨HV5,j0,j1,j2,hPP,OC⟩:=arm w5 hs5 hO5)
   show Leaves _ _ _ _ _ _ _
   refine leaves_cons (f:=170) (args:=#[.pointer (some ⟨w.heap.size,0,none⟩),.pointer (some ⟨C1+1,0,none⟩),.pointer (some ⟨C1,0,none⟩)]) (by simp) (by simp [go_sem]) ?_
   refine (wE HV5 j0 j1 false j2 ⟨by omega,by omega,by omega⟩).mono ?_
   rintro e u' w7 ⟨rfl,rfl,HV7,hO7⟩
   simp [Leaves,settle,results,Tryz.results115,go_sem]
   refine ⟨Or.inr (Or.inr ⟨a,s',L,E,G,v',hke,rfl,HV7,⟨M,by omega,hP M a _ _ _ (hPP a hPa) hO7 (fun k hk=>?_) OC.size⟩⟩),OC.via hO7 (fun i hi=>?_)⟩
   ·simp only [List.mem_cons,List.not_mem_nil,or_false] at hk
    refine ⟨fun q=>?_,?_⟩
    ·obtain ⟨q1,q2,q3⟩:=hLs k q
     rcases hk with rfl | rfl
     ·exact q2 rfl
     ·exact q3 b.dX
    ·rcases hk with rfl | rfl
     ·omega
     ·have:=hbl _ b.dX;omega
   ·simp only [List.mem_cons,List.not_mem_nil,or_false] at hi
    rcases hi with rfl | rfl
    ·left;exact List.mem_cons_self ..
    ·left;exact List.mem_cons_of_mem _ (List.mem_append_left _ b.dX)
 ·obtain ⟨gk,_⟩:∃ _:er≠0,True:=⟨h0,trivial⟩
  go_wp2_with fail
  have OB:=OA.via O hkO
  have HV4:bu w4 V b s' n I 1:=⟨HV3.row.only O hnV,hst,h.nb⟩
  have k0:au w4 w.heap.size [.pointer (some ⟨V,0,none⟩)]:=r0.only O (hnC _ (by omega) (by omega))
  have k1:au w4 C1 [mf b.s]:=r1.only O (hnC _ (by omega) (by omega))
  have k2:au w4 (C1+1) [.bool false]:=r2.only O (hnC _ (by omega) (by omega))
  show Leaves _ _ _ _ _ _ _
  refine leaves_cons (f:=170) (args:=#[.pointer (some ⟨w.heap.size,0,none⟩),.pointer (some ⟨C1+1,0,none⟩),.pointer (some ⟨C1,0,none⟩)]) (by simp) (by simp [go_sem]) ?_
  refine (wE HV4 k0 k1 false k2 ⟨by omega,by omega,by omega⟩).mono ?_
  rintro e u' w7 ⟨rfl,rfl,HV7,hO7⟩
  simp [Leaves,settle,results,Tryz.results115,go_sem]
  have hdr:oc s'=oc s:=by rw [hs'];rfl
  rw [if_neg (by decide),hdr] at HV7
  refine ⟨Or.inr (Or.inl ⟨er,F,h0,rfl,HV7,hP' _ _ _ hPw hO7 (fun k hk q=>?_) OB.size⟩),OB.via hO7 (fun i hi=>?_)⟩
  ·simp only [List.mem_cons,List.not_mem_nil,or_false] at hk
   obtain ⟨q1,q2,q3⟩:=hLs k q
   rcases hk with rfl | rfl
   ·exact q2 rfl
   ·exact q3 b.dX
  ·simp only [List.mem_cons,List.not_mem_nil,or_false] at hi
   rcases hi with rfl | rfl
   ·left;exact List.mem_cons_self ..
   ·left;exact List.mem_cons_of_mem _ (List.mem_append_left _ b.dX)
theorem Stepped.mono {α:Type} {V:Nat} {b:Blk} {n I:Int} {s:Sto} {m:Fs.M α} {P Q:α→World→Prop} {P':World→Prop} {e:Ending} {w':World} (hPQ:∀ a w,P a w→Q a w) (h:Stepped V b n I s m P P' e w'):Stepped V b n I s m Q P' e w':=by
 rcases h with ⟨a,s',L,h1,h2,h3,h4,h5,h6,h7⟩ | h | ⟨a,s',L,h1,h2,h3,h4,h5,h6,h7⟩
 ·exact Or.inl ⟨a,s',L,h1,h2,h3,h4,h5,h6,hPQ _ _ h7⟩
 ·exact Or.inr (Or.inl h)
 ·exact Or.inr (Or.inr ⟨a,s',L,h1,h2,h3,h4,h5,h6,hPQ _ _ h7⟩)
end

section
open Go.RowKit Go.Maps
open Dk (av aa)
open Ii (Ino)
theorem gP {w:World} {B:Nat} {b:Blk} {s:Sto} {n I:Int} (h:Ctx w B b s n I) (i:Int) (c:1≤i∧i≤I):Calls Tryz.prog 111 #[.pointer (some ⟨B,0,none⟩),.int .i64 i] w fun e w'=>e=.returned (bH (Fs.bJ (nv s) i))∧Below w.heap.size w w':=by
 have S:=Lib.hid (wq w)
 have HB:Hid (∀ W l,Lo [] w l W→W.rangeAt B 0 (eN b.s n I)):=Lib.hid (fun W l hl=>(Lo.ctx (L:=[]) hl h).step.base)
 have HG:Hid (∀ W l,Lo [] w l W→Calls Tryz.prog 117 #[.pointer (some ⟨B,0,none⟩)] W fun e w'=>e=.returned (.bool true)∧W=w'):=Lib.hid (fun W l hl=>dT (Lo.ctx (L:=[]) hl h))
 have HT:Hid (∀ W l,Lo [] w l W→Calls Tryz.prog 159 #[bW b.s n I,.int .i64 i] W fun e w'=>e=.returned (.tuple #[bH (Fs.bJ (nv s) i),.int .i64 0])∧Below W.heap.size W w'):=Lib.hid (fun W l hl=>fM (hl.store h.store) h.vs i c.1 c.2)
 clear h c
 generalize Fs.bJ (nv s) i=x at HT ⊢
 go_enter Tryz.func111,Tryz.ntmps111
 go_wp2_with (first
  | (go_at_call 117;refine (HG.out _ _ S.out).mono ?_;rintro e w1 ⟨rfl,rfl⟩)
  | (with_reducible refine aE (HB.out _ _ S.out) rfl (.tmp 14) rfl rfl ?_)
  | (go_at_call 159;refine (HT.out _ _ S.out).mono ?_;rintro e w1 ⟨rfl,hb⟩;replace S:=Lib.hid (S.out.below hb);clear hb)
  | ((with_reducible refine ai (vs:=aH x) cz ?_ (aJ _) rfl (.tmp 5) (.tmp 18) rfl rfl ?_ ?_ ?_);(exact rfl);(exact rfl);(exact rfl);intro W4 hP hB2 hz2;replace S:=Lib.hid (S.out.made hP hB2 hz2);clear hP hB2 hz2)
  | (go_at_call 133;(with_reducible refine (js _).mono ?_);rintro e w1 ⟨rfl,rfl⟩)
  | (with_reducible refine af cz (S.out.get 1 _ rfl) rfl rfl (.tmp 5) rfl rfl ?_)
  | ((with_reducible refine ak (vs:=aH x) cz (S.out.get 0 _ rfl) ?_ ?_ (aJ _) rfl (.tmp 4) (.tmp 23) rfl ?_ ?_ ?_);(exact rfl);(exact rfl);(exact rfl);(exact rfl)))
 have S2:=Lib.hid (S.out.put 0 _ rfl (aH x) rfl)
 exact bodyPost_ret (aC cz _ 4 rfl _ (S2.out.get 0 _ rfl) rfl rfl) rfl ⟨rfl,S2.out.bel⟩
theorem th {w:World} {B:Nat} {b:Blk} {s:Sto} {n I:Int} (h:Ctx w B b s n I) (i:Int) (c:i<1∨I<i):Calls Tryz.prog 111 #[.pointer (some ⟨B,0,none⟩),.int .i64 i] w fun e w'=>e=.panicked [bn B]∧gq w' B b s n I 22∧aB [B] w w':=by
 have S:=Lib.hid (wq w)
 have HB:Hid (∀ W l,Lo [] w l W→W.rangeAt B 0 (eN b.s n I)):=Lib.hid (fun W l hl=>(Lo.ctx (L:=[]) hl h).step.base)
 have HG:Hid (∀ W l,Lo [] w l W→Calls Tryz.prog 117 #[.pointer (some ⟨B,0,none⟩)] W fun e w'=>e=.returned (.bool true)∧W=w'):=Lib.hid (fun W l hl=>dT (Lo.ctx (L:=[]) hl h))
 have HT:Hid (∀ W l,Lo [] w l W→Calls Tryz.prog 159 #[bW b.s n I,.int .i64 i] W fun e w'=>e=.returned (.tuple #[bH Ii.zero,.int .i64 22])∧Below W.heap.size W w'):=Lib.hid (fun W l hl=>uI h.vs i c)
 have HM:Hid (∀ W l,Lo [] w l W→Calls Tryz.prog 133 #[.pointer (some ⟨B,0,none⟩),.int .i64 22] W fun e w'=>e=.panicked [bn B]∧gq w' B b s n I 22∧aB [B] w w'):=Lib.hid (fun W l hl=>(oP (Lo.ctx (L:=[]) hl h) 22 (by decide)).mono fun e w' hh=>⟨hh.1,hh.2.1,(show aB [B] w W from aB.below hl.bel).via hh.2.2 (fun i hi=>Or.inl hi)⟩)
 clear h c
 go_enter Tryz.func111,Tryz.ntmps111
 go_wp2_with (first
  | (go_at_call 117;refine (HG.out _ _ S.out).mono ?_;rintro e w1 ⟨rfl,rfl⟩)
  | (with_reducible refine aE (HB.out _ _ S.out) rfl (.tmp 14) rfl rfl ?_)
  | (go_at_call 159;refine (HT.out _ _ S.out).mono ?_;rintro e w1 ⟨rfl,hb⟩;replace S:=Lib.hid (S.out.below hb);clear hb)
  | ((with_reducible refine ai (vs:=aH Ii.zero) cz ?_ (aJ _) rfl (.tmp 5) (.tmp 18) rfl rfl ?_ ?_ ?_);(exact rfl);(exact rfl);(exact rfl);intro W4 hP hB2 hz2;replace S:=Lib.hid (S.out.made hP hB2 hz2);clear hP hB2 hz2)
  | (go_at_call 133;refine (HM.out _ _ S.out).mono ?_;rintro e w1 ⟨rfl,hR⟩))
 exact ⟨rfl,rfl,hR⟩
theorem nU {w:World} {B:Nat} {b:Blk} {s:Sto} {n I:Int} (h:Ctx w B b s n I) (i off cnt:Int) (h1:off≤9223372036854775807) {t:List UInt8} (hx:Fs.jb n I i off cnt (nv s)=.ok t):Calls Tryz.prog 70 #[.pointer (some ⟨B,0,none⟩),.int .i64 i,.int .i64 off,.int .i64 cnt] w fun e w'=>e=.returned (.string (strOf t))∧Below w.heap.size w w':=by
 have HB:Hid (w.rangeAt B 0 (eN b.s n I)):=Lib.hid h.step.base
 have HG:=Lib.hid (dT h)
 have HT:=Lib.hid (uF h.store h.vs i off cnt h1)
 rw [hx] at HT
 simp only [exV] at HT
 clear h hx h1
 go_enter Tryz.func70,Tryz.ntmps70
 go_wp2_with (first
  | (go_at_call 117;refine HG.out.mono ?_;rintro e w1 ⟨rfl,rfl⟩)
  | (with_reducible refine aE HB.out rfl (.tmp 17) rfl rfl ?_)
  | (go_at_call 132;refine HT.out.mono ?_;rintro e w1 ⟨rfl,hb⟩)
  | (go_at_call 133;(with_reducible refine (js _).mono ?_);rintro e w1 ⟨rfl,rfl⟩))
 go_ret
 exact ⟨rfl,hb⟩
def ea (B:Nat) (i:Int):List Value:=[.pointer (some ⟨B,0,none⟩),.int .i64 i]
abbrev lA (B:Nat) (i:Int):Value:=.agg #[.pointer (some ⟨B,0,none⟩),.int .i64 i]
theorem fC (B:Nat) (i:Int):∀ v∈ea B i,v.oneCell'=true:=by
 intro v hv
 simp only [ea,List.mem_cons,List.not_mem_nil,or_false] at hv
 rcases hv with rfl | rfl <;> rfl
theorem mg:mN 99 2:=⟨⟨_,Tryz.underlying99,rfl⟩,by kernel_rfl⟩
theorem DU (w:World):Lo [] w [(w.heap.size,[.pointer none,.int .i64 0])] (w.alloc (.cells #[.pointer none,.int .i64 0] 99)):=
 (Lo.start w (by simp)).alloc _ rfl [.pointer none,.int .i64 0] _
def ofE (I i:Int) (V:Fs.View):Int:=if 1≤i∧i≤I then (if (Fs.bJ V i).k=2 then 0 else if (Fs.bJ V i).k=0 then 22 else 20) else 22
theorem KY {w:World} {B:Nat} {b:Blk} {s:Sto} {n I:Int} (h:Ctx w B b s n I) (i:Int) (hx:ofE I i (nv s)=0):Calls Tryz.prog 109 #[.pointer (some ⟨B,0,none⟩),.int .i64 i] w fun e w'=>e=.returned (lA B i)∧Below w.heap.size w w':=by
 unfold ofE at hx
 by_cases c:1≤i∧i≤I
 ·rw [if_pos c] at hx
  by_cases k2:(Fs.bJ (nv s) i).k=2
  ·have S:=Lib.hid (DU w)
   have HI:Hid (∀ W l,Lo [] w l W→Calls Tryz.prog 111 #[.pointer (some ⟨B,0,none⟩),.int .i64 i] W fun e w'=>e=.returned (bH (Fs.bJ (nv s) i))∧Below W.heap.size W w'):=Lib.hid (fun W l hl=>gP (Lo.ctx (L:=[]) hl h) i c)
   clear h c hx
   generalize Fs.bJ (nv s) i=x at HI k2
   have hfd:∀ W:World,(Instr.field 103 (bH x) 0).run Tryz.prog W=.ok (.int .i64 2) W:=fun W=>by rw [← k2];kernel_rfl
   clear k2
   go_enter Tryz.func109,Tryz.ntmps109
   go_wp2_with (first
    | (go_at_call 111;refine (HI.out _ _ S.out).mono ?_;rintro e w1 ⟨rfl,hb⟩;replace S:=Lib.hid (S.out.below hb);clear hb)
    | ((with_reducible refine ak (vs:=ea B i) mg (S.out.get 0 _ rfl) ?_ ?_ (fC _ _) rfl (.tmp 4) (.tmp 19) rfl ?_ ?_ ?_);(exact rfl);(exact rfl);(exact rfl);(exact rfl)))
   have S2:=Lib.hid (S.out.put 0 _ rfl (ea B i) rfl)
   exact bodyPost_ret (aC mg _ 4 rfl _ (S2.out.get 0 _ rfl) rfl rfl) rfl ⟨rfl,S2.out.bel⟩
  ·rw [if_neg k2] at hx
   split at hx <;> exact absurd hx (by decide)
 ·rw [if_neg c] at hx
  exact absurd hx (by decide)
theorem Mk {w:World} {B:Nat} {b:Blk} {s:Sto} {n I:Int} (h:Ctx w B b s n I) (i er:Int) (hx:ofE I i (nv s)=er) (h0:er≠0):Calls Tryz.prog 109 #[.pointer (some ⟨B,0,none⟩),.int .i64 i] w fun e w'=>e=.panicked [bn B]∧gq w' B b s n I er∧aB [B] w w':=by
 have S:=Lib.hid (DU w)
 have HF:Hid (∀ W l,Lo [] w l W→Calls Tryz.prog 58 #[.pointer (some ⟨B,0,none⟩),.int .i64 er] W fun e w'=>e=.panicked [bn B]∧gq w' B b s n I er∧aB [B] w w'):=Lib.hid (fun W l hl=>(cM (Lo.ctx (L:=[]) hl h) er h0).mono fun e w' hh=>⟨hh.1,hh.2.1,(show aB [B] w W from aB.below hl.bel).via hh.2.2 (fun i hi=>Or.inl hi)⟩)
 unfold ofE at hx
 by_cases c:1≤i∧i≤I
 ·rw [if_pos c] at hx
  have HI:Hid (∀ W l,Lo [] w l W→Calls Tryz.prog 111 #[.pointer (some ⟨B,0,none⟩),.int .i64 i] W fun e w'=>e=.returned (bH (Fs.bJ (nv s) i))∧Below W.heap.size W w'):=Lib.hid (fun W l hl=>gP (Lo.ctx (L:=[]) hl h) i c)
  clear h c
  generalize Fs.bJ (nv s) i=x at HI hx
  have hfd:∀ W:World,(Instr.field 103 (bH x) 0).run Tryz.prog W=.ok (.int .i64 x.k) W:=fun W=>by kernel_rfl
  by_cases k2:x.k=2
  ·rw [if_pos k2] at hx
   exact absurd hx.symm h0
  ·rw [if_neg k2] at hx
   have g2:(x.k == 2)=false:=by simpa using k2
   by_cases k0:x.k=0
   ·rw [if_pos k0] at hx
    have g0:(x.k == 0)=true:=by rw [k0];rfl
    subst hx
    clear k2 k0
    go_enter Tryz.func109,Tryz.ntmps109
    go_wp2_with (first
     | (go_at_call 111;refine (HI.out _ _ S.out).mono ?_;rintro e w1 ⟨rfl,hb⟩;replace S:=Lib.hid (S.out.below hb);clear hb)
     | (go_at_call 58;refine (HF.out _ _ S.out).mono ?_;rintro e w1 ⟨rfl,hR⟩))
    exact ⟨rfl,rfl,hR⟩
   ·rw [if_neg k0] at hx
    have g0:(x.k == 0)=false:=by simpa using k0
    subst hx
    clear k2 k0
    go_enter Tryz.func109,Tryz.ntmps109
    go_wp2_with (first
     | (go_at_call 111;refine (HI.out _ _ S.out).mono ?_;rintro e w1 ⟨rfl,hb⟩;replace S:=Lib.hid (S.out.below hb);clear hb)
     | (go_at_call 58;refine (HF.out _ _ S.out).mono ?_;rintro e w1 ⟨rfl,hR⟩))
    exact ⟨rfl,rfl,hR⟩
 ·rw [if_neg c] at hx
  subst hx
  have HI:Hid (∀ W l,Lo [] w l W→Calls Tryz.prog 111 #[.pointer (some ⟨B,0,none⟩),.int .i64 i] W fun e w'=>e=.panicked [bn B]∧gq w' B b s n I 22∧aB [B] w w'):=Lib.hid (fun W l hl=>(th (Lo.ctx (L:=[]) hl h) i (by omega)).mono fun e w' hh=>⟨hh.1,hh.2.1,(show aB [B] w W from aB.below hl.bel).via hh.2.2 (fun i hi=>Or.inl hi)⟩)
  clear h c HF
  go_enter Tryz.func109,Tryz.ntmps109
  go_wp2_with (go_at_call 111;refine (HI.out _ _ S.out).mono ?_;rintro e w1 ⟨rfl,hR⟩)
  exact ⟨rfl,rfl,hR⟩
end

end Go.Proofs.YtagfoogfpabdfaaGreat
set_option maxRecDepth 100000
namespace Go.Proofs.YtagfoogfpabdfaaGreat
open Go.RowKit Go.Maps
open Dk (av aa)
open Ii (Ino)
def EG (w:World) (M:Nat) (op:Int→Int):Prop:=∃ D:DataW Unit,w.ownsMap Tryz.prog 3 (plainElem Tryz.prog 3) M (Maps.size D) D∧∀ i:Int,(Lit.int .i64 i).wf=true→D.atKey (.int .i64 i) (.lit (.int .i64 0))=.lit (.int .i64 (op i))
theorem EG.block {w w':World} {M:Nat} {op:Int→Int} (h:EG w M op) (hb:w'.heap[M]?=w.heap[M]?):EG w' M op:=by
 obtain ⟨D,⟨es,clock,h1,h2⟩,h3⟩:=h
 exact ⟨D,⟨es,clock,hb.trans h1,h2⟩,h3⟩
theorem EG.lt {w:World} {M:Nat} {op:Int→Int} (h:EG w M op):M<w.heap.size:=by
 obtain ⟨D,h1,_⟩:=h
 exact h1.lt
theorem Cx (w:World):EG (w.alloc (.map #[] 0)) w.heap.size (fun _=>0):=by
 refine ⟨.map [],World.ownsMap_made _ _ _ _,fun i _=>?_⟩
 rw [atKey_of_not_has]
 rw [has_eq]
 rfl
theorem EG.look {w:World} {M:Nat} {op:Int→Int} (h:EG w M op) (i:Int) (hi:(Lit.int .i64 i).wf=true):
  (Instr.lookup 77 (.map (some M)) (.int .i64 i) false).run Tryz.prog w=.ok (.int .i64 (op i)) w:=by
 obtain ⟨D,h1,h3⟩:=h
 obtain ⟨v,ps,hrun,hv⟩:=h1.lookup (t:=77) (e:=3) (int_keyed Tryz.underlying3) Tryz.underlying77 (show (zeroValue 3).run Tryz.prog w=.ok (.int .i64 0) w by kernel_rfl) (plainElem_int Tryz.underlying3 (show (Lit.int .i64 0).wf=true by decide)) (key:=.int .i64 i) (keyOf_int_mk Tryz.underlying3 hi)
 rw [h3 i hi] at hv
 obtain ⟨a,rfl,h4,_⟩:=plainElem_int_inv Tryz.underlying3 hv
 injection h4 with h4
 injection h4 with h6
 injection h6 with _ h6
 rw [hrun,h6]
structure dW (w:World) (T V M:Nat) (b:Blk) (n I k:Int) (op:Int→Int):Prop where
 row:au w T [.pointer (some ⟨V,0,none⟩),.map (some M)]
 vol:au w V (Hu b.s n I k)
 map:EG w M op
 out:T∉b.all∧V∉b.all∧M∉b.all
 ne:T≠V∧M≠V
section
variable {w w':World} {T V M:Nat} {b:Blk} {n I k:Int} {op:Int→Int}
theorem dW.only (h:dW w T V M b n I k op) {L:List Nat} (ho:aB L w w') (hT:T∉L) (hV:V∉L) (hM:M∉L):dW w' T V M b n I k op:=
 ⟨h.row.only ho hT,h.vol.only ho hV,h.map.block (ho.block M h.map.lt hM),h.out,h.ne⟩
theorem dW.below (h:dW w T V M b n I k op) (hb:Below w.heap.size w w'):dW w' T V M b n I k op:=h.only (L:=[]) (aB.below hb) (by simp) (by simp) (by simp)
theorem dW.stp {α:Type} {R:Ending→World→Prop} {B:Nat} {Ls:List Nat} {K:α→Ending→World→Prop} {l:List (Nat × List Value)} {s:Sto} {m:Fs.M α} (h:dW w T V M b n I k op) (S:Stp R B b n I Ls w K l s m w') (hL:∀ i∈Ls,i≠T∧i≠V∧i≠M):dW w' T V M b n I k op:=by
 refine h.only S.lo.only ?_ ?_ ?_
 ·intro q
  rcases List.mem_cons.1 q with q | q
  ·exact h.out.1 (q ▸ b.dX)
  ·exact (hL T q).1 rfl
 ·intro q
  rcases List.mem_cons.1 q with q | q
  ·exact h.out.2.1 (q ▸ b.dX)
  ·exact (hL V q).2.1 rfl
 ·intro q
  rcases List.mem_cons.1 q with q | q
  ·exact h.out.2.2 (q ▸ b.dX)
  ·exact (hL M q).2.2 rfl
end
theorem gr (w:World):Calls Tryz.prog 20 #[.pointer none] w fun e w'=>e=.returned (.pointer none)∧w=w':=by
 go_enter Tryz.func20,Tryz.ntmps20
 go_wp2
 go_ret
 exact ⟨rfl,rfl⟩
theorem kL {w:World} {T V:Nat} {mv:Value} (h:au w T [.pointer (some ⟨V,0,none⟩),mv]):Calls Tryz.prog 20 #[.pointer (some ⟨T,0,none⟩)] w fun e w'=>e=.returned (.pointer (some ⟨V,0,none⟩))∧w=w':=by
 have c0:=h.cell 0 _ rfl
 clear h
 go_enter Tryz.func20,Tryz.ntmps20
 go_wp2
 go_ret
 exact ⟨rfl,rfl⟩
theorem kI {w:World} {V st:Nat} {n I k:Int} (h:au w V (Hu st n I k)):Calls Tryz.prog 103 #[.pointer (some ⟨V,0,none⟩)] w fun e w'=>e=.returned (bz n I)∧Below w.heap.size w w':=by
 have c1:∀ o,(w.alloc o).cell? ⟨V,1,none⟩=some (.int .i64 n):=fun o=>(h.alloc o).cell 1 _ rfl
 have c2:∀ o,(w.alloc o).cell? ⟨V,2,none⟩=some (.int .i64 I):=fun o=>(h.alloc o).cell 2 _ rfl
 clear h
 go_enter Tryz.func103,Tryz.ntmps103
 go_wp2
 have hr:=((Lo.start (L:=[]) w (by simp)).alloc _ rfl (bc n I) 132).get 0 _ rfl
 exact bodyPost_ret (aC fc _ 2 rfl _ hr rfl rfl) rfl ⟨rfl,(Below.refl _ _).alloc (Nat.le_refl _) _⟩
def dB (B T:Nat):List Value:=[.pointer (some ⟨B,0,none⟩),.pointer (some ⟨T,0,none⟩)]
abbrev mu (B T:Nat):Value:=.agg #[.pointer (some ⟨B,0,none⟩),.pointer (some ⟨T,0,none⟩)]
theorem wU:mN 97 2:=⟨⟨_,Tryz.underlying97,rfl⟩,by kernel_rfl⟩
theorem de:mN 33 6:=⟨⟨_,Tryz.underlying33,rfl⟩,by kernel_rfl⟩
theorem Be (n:Int) (x:Ino) (w:World):
  Calls Tryz.prog 61 #[.int .i64 n,bH x] w fun e w'=>e=.returned (fH n x)∧Below w.heap.size w w':=by
 unfold bH
 go_enter Tryz.func61,Tryz.ntmps61
 go_wp2
 have hr:=((Lo.start (L:=[]) (w.alloc (.cells (aH x).toArray 103)) (by simp)).alloc _ rfl (aZ n x) 33).get 0 _ rfl
 rw [World.size_alloc] at hr
 exact bodyPost_ret (aC de _ 4 rfl _ hr rfl rfl) rfl ⟨rfl,((Below.refl _ _).alloc (Nat.le_refl _) _).alloc (by simp) _⟩
theorem iq {w:World} {B:Nat} {b:Blk} {s:Sto} {n I:Int} (h:Ctx w B b s n I) (i:Int):Calls Tryz.prog 111 #[.pointer (some ⟨B,0,none⟩),.int .i64 i] w (Ends B b n I [] w s (Fs.tell (Fs.lv I i)) fun x e w'=>e=.returned (bH x)∧Below w.heap.size w w'):=by
 by_cases c:1≤i∧i≤I
 ·refine (gP h i c).mono ?_
  rintro e w' ⟨rfl,hb⟩
  exact Ends.told (w':=w') (by unfold Fs.lv;rw [if_pos c]) h hb ⟨rfl,hb⟩
 ·refine (th h i (by omega)).mono ?_
  rintro e w' ⟨rfl,hB,hO⟩
  exact Ends.untold (w1:=w) (by unfold Fs.lv;rw [if_neg c]) (by decide) (Below.refl _ _) hB hO
def ofF (I i:Int) (V:Fs.View):Except Int Unit:=if ofE I i V=0 then .ok () else .error (ofE I i V)
theorem Cy {w:World} {B:Nat} {b:Blk} {s:Sto} {n I:Int} (h:Ctx w B b s n I) (i:Int):Calls Tryz.prog 109 #[.pointer (some ⟨B,0,none⟩),.int .i64 i] w (Ends B b n I [] w s (Fs.tell (ofF I i)) fun _ e w'=>e=.returned (lA B i)∧Below w.heap.size w w'):=by
 by_cases c:ofE I i (nv s)=0
 ·refine (KY h i c).mono ?_
  rintro e w' ⟨rfl,hb⟩
  exact Ends.told (w':=w') (by unfold ofF;rw [if_pos c]) h hb ⟨rfl,hb⟩
 ·refine (Mk h i _ rfl c).mono ?_
  rintro e w' ⟨rfl,hB,hO⟩
  exact Ends.untold (w1:=w) (by unfold ofF;rw [if_neg c]) c (Below.refl _ _) hB hO
theorem JF (p:List UInt8) (A k:Int) (h0:0≤k) (h4:k≤4):0≤Pg.ba p A k∧Pg.ba p A k<4294967296:=by
 unfold Pg.ba
 split
 ·exact Pg.lU _ (by rw [List.length_take];omega)
 ·decide
theorem Dn (V:Fs.View) (i:Int):0≤(Fs.bJ V i).l∧(Fs.bJ V i).l<4294967296:=by
 unfold Fs.bJ
 split
 ·decide
 ·exact JF _ _ 2 (by decide) (by decide)
end Go.Proofs.YtagfoogfpabdfaaGreat

namespace Go.Proofs.YtagfoogfpabdfaaGreat

section
open Go.RowKit Go.Maps
open Dk (av aa)
open Ii (Ino)
theorem EP (w:World):Lo [] w [(w.heap.size,ab av)] (w.alloc (.cells zeroCells 87)):=(Lo.start w (by simp)).alloc _ rfl (ab av) _
def Fb (b:Blk):List Nat:=[b.j,b.d,b.l,b.m,b.g]
theorem AN {w:World} {V:Nat} {b:Blk} {s:Sto} {n I k:Int} (h:bu w V b s n I k) (hup:s.over=false) (hq0:0≤s.q) (hq1:s.q<4294967290):Calls Tryz.prog 94 #[.pointer (some ⟨V,0,none⟩)] w fun e w'=>e=.returned (.int .i64 (bY s))∧bu w' V b (cN s) n I k∧aB (Fb b) w w':=by
 have HV:=Lib.hid (sI h)
 rw [hup] at HV
 have HI:=Lib.hid (tb h.store hq0 hq1)
 have c0:=h.c0
 have hsub:∀ i∈Fb b,i∈b.all:=fun i hi=>by simp only [Fb,Blk.all,List.mem_cons,List.not_mem_nil,or_false] at hi ⊢;rcases hi with h | h | h | h | h <;> simp [h]
 go_enter Tryz.func94,Tryz.ntmps94
 go_wp2_with (first
  | (go_at_call 42;refine HV.out.mono ?_;rintro e w1 ⟨rfl,rfl⟩)
  | (go_at_call 153;refine HI.out.mono ?_;rintro e w1 ⟨rfl,hst,hO⟩))
 go_ret
 exact ⟨rfl,⟨h.row.only hO (fun q=>h.nb (hsub _ q)),hst,h.nb⟩,hO⟩
theorem AM (w:World):Calls Tryz.prog 94 #[.pointer none] w fun e w'=>e=.returned (.int .i64 5)∧w=w':=by
 go_enter Tryz.func94,Tryz.ntmps94
 go_wp2_with (go_at_call 42;refine (kJ _).mono ?_;rintro e w1 ⟨rfl,rfl⟩)
 go_ret
 exact ⟨rfl,rfl⟩
end

section
open Go.RowKit Go.Maps
open Dk (av aa)
open Ii (Ino)
namespace Fs
end Fs
theorem qt:mN 132 2:=⟨⟨_,Tryz.underlying132,rfl⟩,by kernel_rfl⟩
theorem jP (n I:Int):∀ v∈([.int .i64 n,.int .i64 I]:List Value),v.oneCell'=true:=by
 intro v hv
 simp only [List.mem_cons,List.not_mem_nil,or_false] at hv
 rcases hv with rfl | rfl <;> rfl
end

section
open Go.RowKit Go.Maps
open Dk (av aa)
open Ii (Ino)
structure Fop where
 k:Int
 ino:Int
 off:Int
 n:Int
 text:List UInt8
 x:Ino
namespace Fs
end Fs
end

section
open Go.RowKit Go.Maps
open Dk (av aa)
open Ii (Ino)
def mM {α:Type} (n I:Int) (s:Sto) (m:Fs.M α) (er:Int) (s2:Sto) (a:Option α):Prop:=
 (∃ x s' L,m (nv s)=(.ok x,nv s',L)∧nh s s' L∧Vs s' n I∧et s'=0∧er=0∧s2=fp s'∧a=some x) ∨
 (eo s m er∧er≠0∧s2=oc s∧a=none) ∨
 (∃ x s' L,m (nv s)=(.ok x,nv s',L)∧nh s s' L∧Vs s' n I∧et s'≠0∧er=et s'∧s2=oc (fp s')∧a=some x)
theorem Stepped.to {α:Type} {V:Nat} {b:Blk} {n I:Int} {s:Sto} {m:Fs.M α} {P:α→World→Prop} {P':World→Prop} {e:Ending} {w':World} (h:Stepped V b n I s m P P' e w'):
  ∃ er s2 a,mM n I s m er s2 a∧e=.returned (.int .i64 er)∧bu w' V b s2 n I 0∧(match a with | some x=>P x w' | none=>P' w'):=by
 rcases h with ⟨a,s',L,h1,h2,h3,h4,h5,h6,h7⟩ | ⟨er,h1,h2,h3,h4,h5⟩ | ⟨a,s',L,h1,h2,h3,h4,h5,h6,h7⟩
 ·exact ⟨0,_,some a,Or.inl ⟨a,s',L,h1,h2,h3,h4,rfl,rfl,rfl⟩,h5,h6,h7⟩
 ·exact ⟨er,_,none,Or.inr (Or.inl ⟨h1,h2,rfl,rfl⟩),h3,h4,h5⟩
 ·exact ⟨_,_,some a,Or.inr (Or.inr ⟨a,s',L,h1,h2,h3,h4,rfl,rfl,rfl⟩),h5,h6,h7⟩
theorem LI (w:World) (g:Value):Calls Tryz.prog 115 #[.pointer none,g] w fun e w'=>e=.returned (.int .i64 5)∧Below w.heap.size w w':=by
 have hmf:∀ (fn:Fn) (first cap:Array Value) (w:World),(Instr.makeFunc fn first cap).run Tryz.prog w=.ok (.func fn first cap) w:=fun _ _ _ _=>rfl
 have HB:=bK w (.cells #[.pointer none] 51)
 go_enter_defers Tryz.func115,Tryz.ntmps115
 go_wp2_with (go_at_call 42;(with_reducible refine (kJ _).mono ?_);rintro e w' ⟨rfl,rfl⟩)
 simp [bodyPostD,Leaves,settle,results,Tryz.results115,go_sem]
 exact HB
end
end Go.Proofs.YtagfoogfpabdfaaGreat
