/- Texts of the proof. -/
import Derived.Test.YtagfoogfpabdfaaGreatTal
import Derived.Test.YtagfoogfpabdfaaGreatTah
import Derived.Test.YtagfoogfpabdfaaGreatTac
import Derived.Lib.SliceRun
import Derived.WalkSpells
set_option maxRecDepth 100000
set_option maxHeartbeats 16000000
namespace Go.Proofs.YtagfoogfpabdfaaGreat
section
open Go.RowKit Go.Maps
open Dk (av aa)
open Ii (Ino)
def fv {α:Type} (R:Ending→World→Prop) (B:Nat) (b:Blk) (n I:Int) (w0:World) (K:α→Ending→World→Prop) (s:Sto) (m1:Fs.M Unit) (f:Unit→Fs.M α) (k:Bool) (W:World):Prop:=
 if k=true then ∃ s',Stp R B b n I [] w0 K [] s' (f ()) W else Stp R B b n I [] w0 K [] s (Fs.andThen m1 f) W
theorem fv.row {α:Type} {R:Ending→World→Prop} {B:Nat} {b:Blk} {n I:Int} {w0:World} {K:α→Ending→World→Prop} {s:Sto} {m1:Fs.M Unit} {f:Unit→Fs.M α} {k:Bool} {W:World} (h:fv R B b n I w0 K s m1 f k W):W.rangeAt B 1 (bc n I):=by
 cases k with
 | true=>obtain ⟨s',h⟩:∃ s',Stp R B b n I [] w0 K [] s' (f ()) W:=h;exact h.row.gR
 | false=>have h:Stp R B b n I [] w0 K [] s (Fs.andThen m1 f) W:=h;exact h.row.gR
theorem fv.below {α:Type} {R:Ending→World→Prop} {B:Nat} {b:Blk} {n I:Int} {w0:World} {K:α→Ending→World→Prop} {s:Sto} {m1:Fs.M Unit} {f:Unit→Fs.M α} {k:Bool} {W W':World} (h:fv R B b n I w0 K s m1 f k W) (hb:Below W.heap.size W W'):fv R B b n I w0 K s m1 f k W':=by
 cases k with
 | true=>obtain ⟨s',h⟩:∃ s',Stp R B b n I [] w0 K [] s' (f ()) W:=h;exact ⟨s',h.below hb⟩
 | false=>have h:Stp R B b n I [] w0 K [] s (Fs.andThen m1 f) W:=h;exact h.below hb
theorem fv.done {α:Type} {R:Ending→World→Prop} {B:Nat} {b:Blk} {n I:Int} {w0:World} {K:α→Ending→World→Prop} {s:Sto} {m1:Fs.M Unit} {f:Unit→Fs.M α} {W:World} (h:fv R B b n I w0 K s m1 f true W):∃ s',Stp R B b n I [] w0 K [] s' (f ()) W:=h
theorem ti {w:World} {B:Nat} {b:Blk} {s:Sto} {n I:Int} (h:Ctx w B b s n I) (m frm:Int):Calls Tryz.prog 200 #[.pointer (some ⟨B,0,none⟩),.int .i64 m,.int .i64 1,.int .i64 frm] w (Ends B b n I [] w s (Fs.kE n I 0 m frm) fun y e _=>e=.returned (.int .i64 y)):=by
 refine aQ fun R H=>?_
 have S:=Lib.hid (Stp.start h (by simp) H)
 have HOK:=Lib.hid (kB h.vs).1
 have HDB:Hid (∀ w,Calls Tryz.prog 104 #[.agg (bc n I).toArray] w fun e w'=>e=.returned (.int .i64 42)∧Below w.heap.size w w'):=Lib.hid (fun w=>by
  have:=ed n I w
  rw [if_pos h.vs.pl] at this
  exact this)
 unfold Fs.kE at S
 by_cases c1:1≤frm
 ·rw [if_pos c1] at S
  clear h H
  go_enter Tryz.func200,Tryz.ntmps200
  go_wp2_with fail
  exact S.out.done rfl
 ·rw [if_neg c1] at S
  by_cases c2:Fs.bZ n I m
  ·rw [if_pos c2] at S
   have HBI:Hid (∀ w,Calls Tryz.prog 225 #[.agg (bc n I).toArray,.int .i64 m] w fun e w'=>e=.returned (.int .i64 (m - Pl.aS I))∧Below w.heap.size w w'):=Lib.hid (fun w=>pC n I m w h.vs.pl c2.1 c2.2)
   have g2:decide (m - Pl.aS I<0)=false:=decide_eq_false (by have:=c2.1;omega)
   clear h H c2
   go_enter Tryz.func200,Tryz.ntmps200
   go_wp2_with (first
    | (with_reducible refine aN (S.out.row).gR rfl (.tmp 16) rfl rfl ?_)
    | (go_at_call 225;refine (HBI.out _).mono ?_;rintro e w1 ⟨rfl,hb⟩;replace S:=Lib.hid (S.out.below hb);clear hb))
   refine aO (fv R B b n I w (fun (y:Int) e _=>e=.returned (.int .i64 y)) s (Fs.lj 42 (m - Pl.aS I) false) (fun _=>Fs.ret (0:Int))) (fun ch W=>ch=[bn B]∧R (.panicked [bn B]) W) (fun i=>i == 14) (fun i=>[.pointer (some ⟨B,0,none⟩),.pointer (some ⟨B,0,none⟩),.pointer (some ⟨B,0,none⟩),.pointer (some ⟨B,0,none⟩),.pointer (some ⟨B,1,none⟩),.agg (bc n I).toArray,.int .i64 42,.pointer (some ⟨B,0,none⟩),.pointer (some ⟨B,0,none⟩),.pointer (some ⟨B,0,none⟩),.pointer (some ⟨B,1,none⟩),.agg (bc n I).toArray,.int .i64 m,.int .i64 (m - Pl.aS I)].getD i undef) false (by kernel_rfl) (by kernel_rfl) (fun ch a' W hd hh=>?_) S.out.drew ?_
   ·exact ⟨hd,by obtain ⟨rfl,hR⟩:=hh;exact hR⟩
   refine ag (i:=0) (d:=some 35) (v:=(.pointer (some ⟨B,0,none⟩))) rfl rfl (by kernel_rfl) (by kernel_rfl) rfl rfl (ae (by kernel_rfl) ?_) ?_
   ·((intro _ _ _;go_simp) <;> kernel_rfl)
   try simp only [Act.put,puA,puB,puC]
   refine ag (i:=1) (d:=some 36) (v:=(.pointer (some ⟨B,0,none⟩))) rfl rfl (by kernel_rfl) (by kernel_rfl) rfl rfl (ae (by kernel_rfl) ?_) ?_
   ·((intro _ _ _;go_simp) <;> kernel_rfl)
   try simp only [Act.put,puA,puB,puC]
   refine ag (i:=2) (d:=some 37) (v:=(.pointer (some ⟨B,0,none⟩))) rfl rfl (by kernel_rfl) (by kernel_rfl) rfl rfl (ae (by kernel_rfl) ?_) ?_
   ·((intro _ _ _;go_simp) <;> kernel_rfl)
   try simp only [Act.put,puA,puB,puC]
   refine ag (i:=3) (d:=some 38) (v:=(.pointer (some ⟨B,0,none⟩))) rfl rfl (by kernel_rfl) (by kernel_rfl) rfl rfl (ae (by kernel_rfl) ?_) ?_
   ·((intro _ _ _;go_simp) <;> kernel_rfl)
   try simp only [Act.put,puA,puB,puC]
   refine ag (i:=4) (d:=some 39) (v:=(.pointer (some ⟨B,1,none⟩))) rfl rfl (by kernel_rfl) (by kernel_rfl) rfl rfl (ae (by kernel_rfl) ?_) ?_
   ·((intro _ _ _;go_simp) <;> kernel_rfl)
   try simp only [Act.put,puA,puB,puC]
   refine ag (i:=5) (d:=some 40) (v:=(.agg (bc n I).toArray)) rfl rfl (by kernel_rfl) (by kernel_rfl) rfl rfl (bM eu (by kernel_rfl) (.tmp 39) rfl rfl (fun _ W hS=>fv.row hS)) ?_
   try simp only [Act.put,puA,puB,puC]
   refine ag (i:=6) (d:=some 41) (v:=(.int .i64 42)) rfl rfl (by kernel_rfl) (by kernel_rfl) rfl rfl (aR (f:=104) (args:=#[.agg (bc n I).toArray]) (by kernel_rfl) ?_ (fun _ W hS=>(HDB.out W).mono fun e w' hh=>⟨hh.1,fv.below hS hh.2⟩)) ?_
   ·(intro _;go_simp)
   try simp only [Act.put,puA,puB,puC]
   refine ag (i:=7) (d:=some 42) (v:=(.pointer (some ⟨B,0,none⟩))) rfl rfl (by kernel_rfl) (by kernel_rfl) rfl rfl (ae (by kernel_rfl) ?_) ?_
   ·((intro _ _ _;go_simp) <;> kernel_rfl)
   try simp only [Act.put,puA,puB,puC]
   refine ag (i:=8) (d:=some 43) (v:=(.pointer (some ⟨B,0,none⟩))) rfl rfl (by kernel_rfl) (by kernel_rfl) rfl rfl (ae (by kernel_rfl) ?_) ?_
   ·((intro _ _ _;go_simp) <;> kernel_rfl)
   try simp only [Act.put,puA,puB,puC]
   refine ag (i:=9) (d:=some 44) (v:=(.pointer (some ⟨B,0,none⟩))) rfl rfl (by kernel_rfl) (by kernel_rfl) rfl rfl (ae (by kernel_rfl) ?_) ?_
   ·((intro _ _ _;go_simp) <;> kernel_rfl)
   try simp only [Act.put,puA,puB,puC]
   refine ag (i:=10) (d:=some 45) (v:=(.pointer (some ⟨B,1,none⟩))) rfl rfl (by kernel_rfl) (by kernel_rfl) rfl rfl (ae (by kernel_rfl) ?_) ?_
   ·((intro _ _ _;go_simp) <;> kernel_rfl)
   try simp only [Act.put,puA,puB,puC]
   refine ag (i:=11) (d:=some 46) (v:=(.agg (bc n I).toArray)) rfl rfl (by kernel_rfl) (by kernel_rfl) rfl rfl (bM eu (by kernel_rfl) (.tmp 45) rfl rfl (fun _ W hS=>fv.row hS)) ?_
   try simp only [Act.put,puA,puB,puC]
   refine ag (i:=12) (d:=some 47) (v:=(.int .i64 m)) rfl rfl (by kernel_rfl) (by kernel_rfl) rfl rfl (ae (by kernel_rfl) ?_) ?_
   ·((intro _ _ _;go_simp) <;> kernel_rfl)
   try simp only [Act.put,puA,puB,puC]
   refine ag (i:=13) (d:=some 48) (v:=(.int .i64 (m - Pl.aS I))) rfl rfl (by kernel_rfl) (by kernel_rfl) rfl rfl (aR (f:=225) (args:=#[.agg (bc n I).toArray,.int .i64 m]) (by kernel_rfl) ?_ (fun _ W hS=>(HBI.out W).mono fun e w' hh=>⟨hh.1,fv.below hS hh.2⟩)) ?_
   ·(intro _;go_simp)
   try simp only [Act.put,puA,puB,puC]
   refine bw (i:=14) (d:=some 49) (fun u k=>u=.tuple #[]∧k=true) rfl rfl (by kernel_rfl) (by kernel_rfl) rfl (by kernel_rfl) ⟨_,_,rfl,rfl⟩ (by kernel_rfl) (bm (f:=150) (args:=#[.pointer (some ⟨B,0,none⟩),.int .i64 42,.int .i64 (m - Pl.aS I),.bool false]) ?_ (fun W hS=>(fJ (Stp.ctx hS) 42 (m - Pl.aS I) false HOK.out).mono fun e w' hE=>by
    rcases Stp.bind hS hE with ⟨rfl,hR⟩ | ⟨_,s',L',_,rfl,S2⟩
    ·exact Or.inr ⟨_,rfl,rfl,hR⟩
    ·exact Or.inl ⟨_,rfl,true,⟨rfl,rfl⟩,s',S2⟩)) ?_
   ·(intro _;go_simp)
   rintro _ _ ⟨rfl,rfl⟩
   try simp only [Act.put,puA,puB,puC]
   refine cH (by kernel_rfl) fun W hS=>?_
   obtain ⟨s5,S5⟩:=fv.done hS
   clear S
   have S:=Lib.hid S5
   clear S5 hS
   go_wp2_with fail
   exact S.out.done rfl
  ·rw [if_neg c2,if_neg (by omega)] at S
   have HBI:Hid (∀ w,Calls Tryz.prog 225 #[.agg (bc n I).toArray,.int .i64 m] w fun e w'=>e=.returned (.int .i64 (-1))∧Below w.heap.size w w'):=Lib.hid (fun w=>uH n I m w h.vs.pl (by unfold Fs.bZ at c2;omega))
   clear h H c2
   go_enter Tryz.func200,Tryz.ntmps200
   go_wp2_with (first
    | (with_reducible refine aN (S.out.row).gR rfl (.tmp 16) rfl rfl ?_)
    | (go_at_call 225;refine (HBI.out _).mono ?_;rintro e w1 ⟨rfl,hb⟩;replace S:=Lib.hid (S.out.below hb);clear hb))
   exact S.out.done rfl
end

section
open Go.RowKit
open Dk (av aa)
def iZ (ps:List (List UInt8)) (n:Nat):Bool:=decide (∀ i,i<n→ps.getD i []=av)
theorem zc (w:World) (p:List UInt8) (hp:p.length=64):(Op.equalIn 10000 87 (.agg (ab p).toArray) (.agg zeroCells)).run Tryz.prog w=.ok (decide (p=av)) w:=by
 have:=oe w p av hp aa
 unfold an at this
 exact this
theorem wW (b off n c:Nat) (ps:List (List UInt8)) (w:World) (hl:ps.length=n) (hn:n≤1000) (hb:b<w.heap.size)
  (hsize:∀ i,i<n→(ps.getD i []).length=64) (hcell:∀ i,i<n→w.rangeAt b (off+i*64) (ab (ps.getD i []))):
  Calls Tryz.prog 258 #[.slice (some ⟨b,off,none⟩) n c] w fun e w'=>e=.returned (.bool (iZ ps n))∧Below w.heap.size w w':=by
 have HC:=Lib.hid hcell
 have HZ:=Lib.hid hsize
 clear hcell hl hsize
 go_enter Tryz.func258,Tryz.ntmps258
 go_wp2_with fail
 go_loopw [7] (fun i wr=>∃ k:Nat,k≤n∧i=.int .i64 k∧Hid (∀ j,j<k→ps.getD j []=av)∧Below w.heap.size w wr) (fun i _=>n - (intOf i).toNat)
 case atStart=>exact ⟨0,Nat.zero_le _,rfl,Lib.hid (fun j hj=>by omega),Below.refl _ _⟩
 case round=>
  obtain ⟨k,hk,rfl,HA,hbel⟩:=hrel
  by_cases hlt:k<n
  ·have hcr:Hid (wr.rangeAt b (off+k*64) (ab (ps.getD k []))):=Lib.hid fun j v hv=>(hbel.cell (p:=⟨b,off+k*64+j,none⟩) hb).trans (HC.out k hlt j v hv)
   have hz:=Lib.hid (HZ.out k hlt)
   have hlen:Hid ((ab (ps.getD k [])).length=64):=Lib.hid (by rw [aj];exact hz.out)
   have heq:=fun W=>zc W (ps.getD k []) hz.out
   rw [az] at heq
   by_cases hp:ps.getD k []=av
   ·have hd:decide (ps.getD k []=av)=true:=decide_eq_true hp
    rw [hd] at heq
    have HA2:Hid (∀ j,j<k+1→ps.getD j []=av):=Lib.hid (fun j hj=>by
     rcases Nat.lt_or_ge j k with h | h
     ·exact HA.out j h
     ·obtain rfl:j=k:=by omega
      exact hp)
    clear hp hd
    generalize ps.getD k []=p at hcr hz hlen heq
    go_wp2_with (first
     | (with_reducible refine wpList_load_mid rfl 87 (.tmp 9) rfl b (off+k*64) rfl (ab p) _ hcr.out Tryz.underlying87 rfl (aY.trans (congrArg some hlen.out.symm)) ?_)
     | ((with_reducible refine aq rfl (.tmp 4) (.tmp 10) rfl rfl ?_ ?_ hz.out ?_);(exact rfl);(exact rfl);intro W2 hP hB2 hz2)
     | (with_reducible refine wpList_load_mid rfl 87 (.tmp 4) rfl wr.heap.size 0 rfl (ab p) _ hP.range Tryz.underlying87 rfl (aY.trans (congrArg some hlen.out.symm)) ?_))
    go_roundw
    case rel=>exact ⟨k+1,by omega,by go_num,HA2,hbel.trans (hB2.mono hbel.size)⟩
    case measure=>simp [intOf];omega
   ·have hd:decide (ps.getD k []=av)=false:=decide_eq_false hp
    rw [hd] at heq
    have HF:Hid (iZ ps n=false):=Lib.hid (by unfold iZ;rw [decide_eq_false_iff_not];exact fun h=>hp (h k hlt))
    clear hp hd
    generalize ps.getD k []=p at hcr hz hlen heq
    go_wp2_with (first
     | (with_reducible refine wpList_load_mid rfl 87 (.tmp 9) rfl b (off+k*64) rfl (ab p) _ hcr.out Tryz.underlying87 rfl (aY.trans (congrArg some hlen.out.symm)) ?_)
     | ((with_reducible refine aq rfl (.tmp 4) (.tmp 10) rfl rfl ?_ ?_ hz.out ?_);(exact rfl);(exact rfl);intro W2 hP hB2 hz2)
     | (with_reducible refine wpList_load_mid rfl 87 (.tmp 4) rfl wr.heap.size 0 rfl (ab p) _ hP.range Tryz.underlying87 rfl (aY.trans (congrArg some hlen.out.symm)) ?_))
    go_ret
    exact ⟨bS HF.out.symm,hbel.trans (hB2.mono hbel.size)⟩
  ·obtain rfl:k=n:=by omega
   have HT:Hid (iZ ps k=true):=Lib.hid (by unfold iZ;exact decide_eq_true HA.out)
   go_wp2
   go_ret
   exact ⟨bS HT.out.symm,hbel⟩
end

section
open Go.RowKit Go.Maps
open Dk (av aa)
open Ii (Ino)
theorem sD (p:List UInt8):iZ [p] 1=decide (p=av):=by
 unfold iZ
 congr 1
 apply propext
 constructor
 ·intro h;exact h 0 (by decide)
 ·intro h i hi
  obtain rfl:i=0:=by omega
  exact h
theorem EL (p:List UInt8) (k:Nat) (hk:k<32):(dR p 32)[k]?=some (nt p (k:Int)):=by
 unfold dR
 simp [hk]
def CnS (R:Ending→World→Prop) (B:Nat) (b:Blk) (n I:Int) (w0:World) (K:Bool→Ending→World→Prop) (l:List (Nat × List Value)) (B0:Nat) (was:List UInt8) (s:Sto) (m1:Fs.M Int) (f:Int→Fs.M Bool) (k:Option Int) (W:World):Prop:=
 (match k with
  | none=>Stp R B b n I [] w0 K l s (Fs.andThen m1 f) W
  | some y=>∃ s',Stp R B b n I [] w0 K l s' (f y) W)∧fk W (some ⟨B0,0,none⟩) 32 (dR was 32)
section
variable {R:Ending→World→Prop} {B:Nat} {b:Blk} {n I:Int} {w0:World} {K:Bool→Ending→World→Prop} {l:List (Nat × List Value)} {B0:Nat} {was:List UInt8} {s:Sto} {m1:Fs.M Int} {f:Int→Fs.M Bool} {k:Option Int} {W W':World}
theorem CnS.lo (h:CnS R B b n I w0 K l B0 was s m1 f k W):Lo [b.t] w0 l W:=by
 obtain ⟨h,_⟩:=h
 cases k with
 | none=>exact (show Stp R B b n I [] w0 K l s (Fs.andThen m1 f) W from h).lo
 | some y=>obtain ⟨s',h⟩:=(show ∃ s',Stp R B b n I [] w0 K l s' (f y) W from h);exact h.lo
theorem CnS.below (h:CnS R B b n I w0 K l B0 was s m1 f k W) (hb:Below W.heap.size W W'):CnS R B b n I w0 K l B0 was s m1 f k W':=by
 obtain ⟨h,h2⟩:=h
 refine ⟨?_,h2.step hb⟩
 cases k with
 | none=>exact (show Stp R B b n I [] w0 K l s (Fs.andThen m1 f) W from h).below hb
 | some y=>obtain ⟨s',h⟩:=(show ∃ s',Stp R B b n I [] w0 K l s' (f y) W from h);exact ⟨s',h.below hb⟩
end
theorem kS {w:World} {B:Nat} {b:Blk} {s:Sto} {n I:Int} (sub:Int→Int→Fs.M Int) (q:Int) (hq:1≤q∧q≤32) (Z:Int) (hZ:0≤Z∧Z≤1000000000) (HSUB:∀ W s' m frm,Ctx W B b s' n I→-Z - 1024≤frm→frm≤1000000→Calls Tryz.prog 200 #[.pointer (some ⟨B,0,none⟩),.int .i64 m,.int .i64 q,.int .i64 frm] W (Ends B b n I [] W s' (sub m frm) fun y e _=>e=.returned (.int .i64 y)))
  (h:Ctx w B b s n I) (m frm:Int) (hm:okP n m) (hf:-Z≤frm∧frm≤1000000):Calls Tryz.prog 238 #[.pointer (some ⟨B,0,none⟩),.int .i64 m,.int .i64 q,.int .i64 frm] w (Ends B b n I [] w s (Fs.mi sub q m frm) fun left e _=>e=.returned (.bool left)):=by
 refine aQ fun R H=>?_
 have S0:=Lib.hid (Stp.start h (by simp) H)
 have S:=Lib.hid (Stp.saw S0.out)
 clear S0
 have HT:Hid (b.t<w.heap.size):=Lib.hid (h.store.lt _ b.dX)
 have r3:=(h.vs.read hm).2.2
 have HL:=Lib.hid r3
 have HG:Hid (∀ W,Ctx W B b s n I→Calls Tryz.prog 182 #[.pointer (some ⟨B,0,none⟩),.int .i64 m] W fun e w'=>e=.returned (an (nv s m.toNat))∧Below W.heap.size W w'):=Lib.hid (fun W hc=>kN hc m hm)
 have HM:=Lib.hid hm
 have HS:=Lib.hid HSUB
 clear h H r3 hm HSUB
 generalize nv s m.toNat=was at HL HG S
 go_enter Tryz.func238,Tryz.ntmps238
 go_wp2_with (first
  | (go_at_call 182;(with_reducible refine (HG.out _ S.out.ctx).mono ?_);rintro e w1 ⟨rfl,hb⟩;replace S:=Lib.hid (S.out.below hb);clear hb)
  | ((with_reducible refine aq rfl (.tmp 9) (.tmp 15) rfl rfl ?_ ?_ HL.out ?_);(exact rfl);(exact rfl);intro W2 hP hB2 hz2;replace S:=Lib.hid (S.out.made hP.rowAt hB2 hz2);clear hP hB2 hz2)
  | (with_reducible refine ah (S.out.lo.aK 0 rfl HL.out) rfl (.tmp 9) rfl rfl ?_)
  | ((with_reducible refine aq rfl (.tmp 10) (.tmp 16) rfl rfl ?_ ?_ HL.out ?_);(exact rfl);(exact rfl);intro W3 hP hB2 hz2;replace S:=Lib.hid (S.out.made hP.rowAt hB2 hz2);clear hP hB2 hz2)
  | (go_at_call 257;(with_reducible refine (sF was _ HL.out).mono ?_);rintro e w4 ⟨B0,rfl,hI,hb,hB0⟩;have HI:=Lib.hid hI;have HB0:Hid (W2.heap.size<B0∧w.heap.size≤B0):=Lib.hid ⟨Nat.lt_of_lt_of_le (S.out.lo.lt 1 _ rfl) hB0,Nat.le_trans S.out.lo.only.size hB0⟩;replace S:=Lib.hid (S.out.below hb);clear hb hI hB0))
 generalize w1.heap.size=b9 at S ⊢
 generalize W2.heap.size=b10 at S HB0 ⊢
 have HNE:Hid (B0≠b10):=Lib.hid (by have:=HB0.out.1;omega)
 go_loopw [20] (fun i wr=>∃ (k:Nat) (p:List UInt8) (s3:Sto),k≤32∧i=.int .i64 k∧Hid (p.length=64)∧Hid (Stp R B b n I [] w (fun (left:Bool) e _=>e=.returned (.bool left)) [(b9,ab was),(b10,ab p)] s3 (Fs.andThen (Fs.jE sub q frm was k (32 - k) p) fun p=>if p=av then Fs.ret false else if p=was then Fs.ret true else Fs.andThen (Fs.wr m.toNat p) fun _=>Fs.ret true) wr)∧Hid (fk wr (some ⟨B0,0,none⟩) 32 (dR was 32))) (fun i _=>32 - (intOf i).toNat)
 case atStart=>exact ⟨0,was,s,by omega,rfl,HL,S,HI⟩
 case round=>
  clear S HI HG
  obtain ⟨k0,p,s3,hk,rfl,HP,S,HI⟩:=hrel
  by_cases hlt:k0<32
  ·obtain ⟨bb,off,he,hbb,hcc⟩:=HI.out.cells (by omega)
   injection he with he
   injection he with he1 he2
   subst he1
   subst he2
   have ck:wr.cell? ⟨B0,0+k0,none⟩=some (.int .i64 (nt was (k0:Int))):=hcc k0 _ (EL was k0 hlt)
   rw [Nat.zero_add] at ck
   clear hcc hbb
   rw [show 32 - k0=(32 - (k0+1))+1 by omega,Fs.jE,Fs.du] at S
   obtain ⟨x,hx⟩:∃ x,nt was (k0:Int)=x:=⟨_,rfl⟩
   rw [hx] at S ck
   clear hx
   have hkq:0≤(k0:Int)*q∧(k0:Int)*q≤1024:=⟨Int.mul_nonneg (by omega) (by omega),by
    have h1:(k0:Int)*q≤32*32:=Int.mul_le_mul (by omega) (by omega) (by omega) (by omega)
    omega⟩
   have HBD:Hid (-Z - 1024≤frm - (k0:Int)*q∧frm - (k0:Int)*q≤1000000):=Lib.hid (by omega)
   have gm:IntKind.i64.wrap ((k0:Int)*q)=(k0:Int)*q:=IntWalk.i64_in _ (by omega)
   have gs:IntKind.i64.wrap (frm - (k0:Int)*q)=frm - (k0:Int)*q:=IntWalk.i64_in _ (by omega)
   go_wp2_with fail
   refine aO (SO (fun (k:Option Int) W=>CnS R B b n I w (fun (left:Bool) e _=>e=.returned (.bool left)) [(b9,ab was),(b10,ab p)] B0 was s3 (sub x (frm - (k0:Int)*q)) (fun y=>Fs.andThen (Fs.jE sub q frm was (k0+1) (32 - (k0+1)) (fa p (k0:Int) y)) fun p=>if p=av then Fs.ret false else if p=was then Fs.ret true else Fs.andThen (Fs.wr m.toNat p) fun _=>Fs.ret true) k W)) (fun ch W=>ch=[bn B]∧R (.panicked [bn B]) W) (fun i=>i == 10 || i == 11 || i == 12) (fun i=>[an p,.int .i64 (k0:Int),.pointer (some ⟨B,0,none⟩),.int .i64 x,.int .i64 q,.int .i64 frm,.int .i64 (k0:Int),.int .i64 q,.int .i64 ((k0:Int)*q),.int .i64 (frm - (k0:Int)*q)].getD i undef) (some none) (by kernel_rfl) (by kernel_rfl) (fun ch a' W hd hh=>?_) ⟨S.out.drew,HI.out.step ((Below.refl _ _).drew)⟩ ?_
   ·exact ⟨hd,by obtain ⟨rfl,hR⟩:=hh;exact hR⟩
   refine ag (i:=0) (d:=some 25) (v:=(an p)) rfl rfl (by kernel_rfl) (by kernel_rfl) rfl rfl (bf (by kernel_rfl) (.tmp 10) rfl rfl (SO.all (fun _ W hS=>(CnS.lo hS).aK 1 rfl HP.out))) ?_
   try simp only [Act.put,puA,puB,puC]
   refine ag (i:=1) (d:=some 26) (v:=(.int .i64 (k0:Int))) rfl rfl (by kernel_rfl) (by kernel_rfl) rfl rfl (ae (by kernel_rfl) ?_) ?_
   ·((intro _ _ _;go_simp) <;> kernel_rfl)
   try simp only [Act.put,puA,puB,puC]
   refine ag (i:=2) (d:=some 27) (v:=(.pointer (some ⟨B,0,none⟩))) rfl rfl (by kernel_rfl) (by kernel_rfl) rfl rfl (ae (by kernel_rfl) ?_) ?_
   ·((intro _ _ _;go_simp) <;> kernel_rfl)
   try simp only [Act.put,puA,puB,puC]
   refine ag (i:=3) (d:=some 28) (v:=(.int .i64 x)) rfl rfl (by kernel_rfl) (by kernel_rfl) rfl rfl (ae (by kernel_rfl) ?_) ?_
   ·((intro _ _ _;go_simp) <;> kernel_rfl)
   try simp only [Act.put,puA,puB,puC]
   refine ag (i:=4) (d:=some 29) (v:=(.int .i64 q)) rfl rfl (by kernel_rfl) (by kernel_rfl) rfl rfl (ae (by kernel_rfl) ?_) ?_
   ·((intro _ _ _;go_simp) <;> kernel_rfl)
   try simp only [Act.put,puA,puB,puC]
   refine ag (i:=5) (d:=some 30) (v:=(.int .i64 frm)) rfl rfl (by kernel_rfl) (by kernel_rfl) rfl rfl (ae (by kernel_rfl) ?_) ?_
   ·((intro _ _ _;go_simp) <;> kernel_rfl)
   try simp only [Act.put,puA,puB,puC]
   refine ag (i:=6) (d:=some 31) (v:=(.int .i64 (k0:Int))) rfl rfl (by kernel_rfl) (by kernel_rfl) rfl rfl (ae (by kernel_rfl) ?_) ?_
   ·((intro _ _ _;go_simp) <;> kernel_rfl)
   try simp only [Act.put,puA,puB,puC]
   refine ag (i:=7) (d:=some 32) (v:=(.int .i64 q)) rfl rfl (by kernel_rfl) (by kernel_rfl) rfl rfl (ae (by kernel_rfl) ?_) ?_
   ·((intro _ _ _;go_simp) <;> kernel_rfl)
   try simp only [Act.put,puA,puB,puC]
   refine ag (i:=8) (d:=some 33) (v:=(.int .i64 ((k0:Int)*q))) rfl rfl (by kernel_rfl) (by kernel_rfl) rfl rfl (ae (by kernel_rfl) ?_) ?_
   ·((intro _ _ _;go_simp) <;> kernel_rfl)
   try simp only [Act.put,puA,puB,puC]
   refine ag (i:=9) (d:=some 34) (v:=(.int .i64 (frm - (k0:Int)*q))) rfl rfl (by kernel_rfl) (by kernel_rfl) rfl rfl (ae (by kernel_rfl) ?_) ?_
   ·((intro _ _ _;go_simp) <;> kernel_rfl)
   try simp only [Act.put,puA,puB,puC]
   have HSN:=Lib.hid (fun y W=>ir p (k0:Int) y W HP.out)
   refine bw (i:=10) (d:=some 35) (fun u k=>∃ y,u=.int .i64 y∧k=some (some y)) rfl rfl (by kernel_rfl) (by kernel_rfl) rfl (by kernel_rfl) ⟨.int .i64 0,some (some 0),0,rfl,rfl⟩ (by kernel_rfl) (bm (f:=200) (args:=#[.pointer (some ⟨B,0,none⟩),.int .i64 x,.int .i64 q,.int .i64 (frm - (k0:Int)*q)]) ?_ (fun W hS=>(HS.out W s3 x (frm - (k0:Int)*q) (show Stp R B b n I [] w _ _ s3 (Fs.andThen _ _) W from hS.1).ctx HBD.out.1 HBD.out.2).mono fun e w' hE=>by
    rcases Stp.pQ (show Stp R B b n I [] w _ _ s3 (Fs.andThen _ _) W from hS.1) hE with ⟨rfl,hR⟩ | ⟨y,s',L',_,rfl,S2,hO⟩
    ·exact Or.inr ⟨_,rfl,rfl,hR⟩
    ·exact Or.inl ⟨_,rfl,some (some y),⟨y,rfl,rfl⟩,⟨s',S2⟩,hS.2.only hO (fun b' o he=>by injection he with he;injection he with he;subst he;have:=HB0.out.2;have:=HT.out;simp;omega)⟩)) ?_
   ·(intro _;go_simp)
   rintro _ _ ⟨y,rfl,rfl⟩
   try simp only [Act.put,puA,puB,puC]
   refine bw (i:=11) (d:=some 36) (fun u k=>u=an (fa p (k0:Int) y)∧k=some (some y)) rfl rfl (by kernel_rfl) (by kernel_rfl) rfl (by kernel_rfl) ⟨_,_,rfl,rfl⟩ (by kernel_rfl) (bm (f:=177) (args:=#[an p,.int .i64 (k0:Int),.int .i64 y]) ?_ (fun W hS=>(HSN.out y W).mono fun e w' hh=>Or.inl ⟨_,hh.1,some (some y),⟨rfl,rfl⟩,CnS.below (SO.some hS) hh.2⟩)) ?_
   ·(intro _;go_simp)
   rintro _ _ ⟨rfl,rfl⟩
   try simp only [Act.put,puA,puB,puC]
   refine jt (i:=12) (d:=none) rfl rfl (by kernel_rfl) rfl (by kernel_rfl) (by kernel_rfl) fun W hS=>cJ (iV ((CnS.lo (SO.some hS)).aK 1 rfl HP.out) (dQ p (k0:Int) y HP.out) (.tmp 10) (.tmp 36) rfl rfl rfl ?_)
   obtain ⟨⟨s5,S5⟩,I5⟩:=(show (∃ s',Stp R B b n I [] w _ _ s' _ W)∧_ from hS)
   have S6:=Lib.hid (S5.put 1 _ rfl (ab (fa p (k0:Int) y)) (by rw [aj,aj,HP.out,dQ p (k0:Int) y HP.out]))
   have I6:=Lib.hid (I5.only ((aB.refl [b10] W).setCells b10 (by simp) (ab (fa p (k0:Int) y)) 0 W) (fun b' o he=>by injection he with he;injection he with he;subst he;simpa using HNE.out))
   have HP6:=Lib.hid (dQ p (k0:Int) y HP.out)
   clear S5 I5 hS S HI HSN ck
   try simp only [Act.put,puA,puB,puC]
   go_wp2_with fail
   go_roundw
   case rel=>exact ⟨k0+1,_,s5,by omega,by go_num,HP6,S6,I6⟩
   case measure=>simp [intOf];omega
  ·obtain rfl:k0=32:=by omega
   rw [show 32 - 32=0 by rfl,Fs.jE,Fs.oq] at S
   have hbl:(ab p).length=64:=by rw [aj];exact HP.out
   by_cases z:p=av
   ·rw [if_pos z] at S
    have HZ:Hid (∀ W b',b'<W.heap.size→aD W b' p→Calls Tryz.prog 258 #[.slice (some ⟨b',0,none⟩) 1 1] W fun e w'=>e=.returned (.bool true)∧Below W.heap.size W w'):=Lib.hid (fun W b' hb' hp=>by
     have:=wW b' 0 1 1 [p] W rfl (by omega) hb' (fun i hi=>by obtain rfl:i=0:=(by omega);exact HP.out) (fun i hi=>by obtain rfl:i=0:=(by omega);exact hp.range)
     rw [sD,decide_eq_true z] at this
     exact this)
    clear z
    go_wp2_with (with_reducible refine wpList_load_mid rfl 87 (.tmp 10) rfl b10 0 rfl (ab p) _ (S.out.lo.aK 1 rfl HP.out).range Tryz.underlying87 rfl (by rw [aY,aj,HP.out]) ?_)
    rw [fh rfl HP.out]
    generalize hw:World.alloc _ _=w2
    replace S:Hid (Stp R B b n I [] w (fun (left:Bool) e _=>e=.returned (.bool left)) [(b9,ab was),(b10,ab p),(wr.heap.size,ab p)] s3 (Fs.ret false) w2):=Lib.hid (by rw [← hw];exact S.out.alloc _ rfl (ab p) _)
    clear hw
    replace HZ:=Lib.hid (HZ.out w2 wr.heap.size (S.out.lo.lt 2 _ rfl) (S.out.lo.aK 2 rfl HP.out))
    go_wp2_with (go_at_call 258;(with_reducible refine HZ.out.mono ?_);rintro e w3 ⟨rfl,hb⟩;replace S:=Lib.hid (S.out.below hb);clear hb HZ)
    exact S.out.done rfl
   ·rw [if_neg z] at S
    have HZ:Hid (∀ W b',b'<W.heap.size→aD W b' p→Calls Tryz.prog 258 #[.slice (some ⟨b',0,none⟩) 1 1] W fun e w'=>e=.returned (.bool false)∧Below W.heap.size W w'):=Lib.hid (fun W b' hb' hp=>by
     have:=wW b' 0 1 1 [p] W rfl (by omega) hb' (fun i hi=>by obtain rfl:i=0:=(by omega);exact HP.out) (fun i hi=>by obtain rfl:i=0:=(by omega);exact hp.range)
     rw [sD,decide_eq_false z] at this
     exact this)
    clear z
    by_cases e0:p=was
    ·rw [if_pos e0] at S
     have E1:∀ (w:World),(binOp .neq 87 (an p) (an was)).run Tryz.prog w=.ok (.bool false) w:=fun w=>by rw [e0];exact gA w was HL.out
     have E0:∀ (w:World) (x y:Operand),(eqGuard .neq 87 x y (an p) (an was)).run Tryz.prog w=.ok () w:=fun w x y=>bB w x y p was
     clear e0
     go_wp2_with (with_reducible refine wpList_load_mid rfl 87 (.tmp 10) rfl b10 0 rfl (ab p) _ (S.out.lo.aK 1 rfl HP.out).range Tryz.underlying87 rfl (by rw [aY,aj,HP.out]) ?_)
     rw [fh rfl HP.out]
     generalize hw:World.alloc _ _=w2
     replace S:Hid (Stp R B b n I [] w (fun (left:Bool) e _=>e=.returned (.bool left)) [(b9,ab was),(b10,ab p),(wr.heap.size,ab p)] s3 (Fs.ret true) w2):=Lib.hid (by rw [← hw];exact S.out.alloc _ rfl (ab p) _)
     clear hw
     replace HZ:=Lib.hid (HZ.out w2 wr.heap.size (S.out.lo.lt 2 _ rfl) (S.out.lo.aK 2 rfl HP.out))
     go_wp2_with (first
      | (go_at_call 258;(with_reducible refine HZ.out.mono ?_);rintro e w3 ⟨rfl,hb⟩;replace S:=Lib.hid (S.out.below hb);clear hb HZ)
      | (with_reducible refine ah (S.out.lo.aK 1 rfl HP.out) rfl (.tmp 10) rfl rfl ?_)
      | (with_reducible refine ah (S.out.lo.aK 0 rfl HL.out) rfl (.tmp 9) rfl rfl ?_))
     exact S.out.done rfl
    ·rw [if_neg e0] at S
     have E1:∀ (w:World),(binOp .neq 87 (an p) (an was)).run Tryz.prog w=.ok (.bool true) w:=fun w=>kp w p was HP.out HL.out e0
     have E0:∀ (w:World) (x y:Operand),(eqGuard .neq 87 x y (an p) (an was)).run Tryz.prog w=.ok () w:=fun w x y=>bB w x y p was
     clear e0
     go_wp2_with (with_reducible refine wpList_load_mid rfl 87 (.tmp 10) rfl b10 0 rfl (ab p) _ (S.out.lo.aK 1 rfl HP.out).range Tryz.underlying87 rfl (by rw [aY,aj,HP.out]) ?_)
     rw [fh rfl HP.out]
     generalize hw:World.alloc _ _=w2
     replace S:Hid (Stp R B b n I [] w (fun (left:Bool) e _=>e=.returned (.bool left)) [(b9,ab was),(b10,ab p),(wr.heap.size,ab p)] s3 (Fs.andThen (Fs.wr m.toNat p) fun _=>Fs.ret true) w2):=Lib.hid (by rw [← hw];exact S.out.alloc _ rfl (ab p) _)
     clear hw
     replace HZ:=Lib.hid (HZ.out w2 wr.heap.size (S.out.lo.lt 2 _ rfl) (S.out.lo.aK 2 rfl HP.out))
     go_wp2_with (first
      | (go_at_call 258;(with_reducible refine HZ.out.mono ?_);rintro e w3 ⟨rfl,hb⟩;replace S:=Lib.hid (S.out.below hb);clear hb HZ)
      | (with_reducible refine ah (S.out.lo.aK 1 rfl HP.out) rfl (.tmp 10) rfl rfl ?_)
      | (with_reducible refine ah (S.out.lo.aK 0 rfl HL.out) rfl (.tmp 9) rfl rfl ?_)
      | (go_at_call 121;(with_reducible refine (fR S.out.ctx m p HM.out HP.out).mono ?_);intro e w8 hE;rcases S.out.bind hE with ⟨rfl,hR⟩ | ⟨_,s6,L6,_,rfl,S2⟩;(exact ⟨rfl,hR⟩);clear S hE;have S:=Lib.hid S2;clear S2))
     exact S.out.done rfl
end

section
open Go.RowKit Go.Maps
open Dk (av aa)
open Ii (Ino)
theorem Ia {w:World} {B:Nat} {b:Blk} {s:Sto} {n I:Int} (h:Ctx w B b s n I) (m frm:Int) (h1:-2000000≤frm) (h2:frm≤1000000):Calls Tryz.prog 200 #[.pointer (some ⟨B,0,none⟩),.int .i64 m,.int .i64 32,.int .i64 frm] w (Ends B b n I [] w s (Fs.kE n I 1 m frm) fun y e _=>e=.returned (.int .i64 y)):=by
 refine aQ fun R H=>?_
 have S:=Lib.hid (Stp.start h (by simp) H)
 have HOK:=Lib.hid (kB h.vs).1
 have HDB:Hid (∀ w,Calls Tryz.prog 104 #[.agg (bc n I).toArray] w fun e w'=>e=.returned (.int .i64 42)∧Below w.heap.size w w'):=Lib.hid (fun w=>by
  have:=ed n I w
  rw [if_pos h.vs.pl] at this
  exact this)
 have HCN:Hid (∀ W,Ctx W B b s n I→okP n m→Calls Tryz.prog 238 #[.pointer (some ⟨B,0,none⟩),.int .i64 m,.int .i64 1,.int .i64 frm] W (Ends B b n I [] W s (Fs.mi (Fs.kE n I 0) ((32:Int) ^ 0) m frm) fun left e _=>e=.returned (.bool left))):=Lib.hid (fun W hc hm=>kS (Fs.kE n I 0) 1 (by decide) 2000000 (by decide) (fun W s' m frm hc _ _=>ti hc m frm) hc m frm hm ⟨h1,h2⟩)
 unfold Fs.kE at S
 by_cases c1:(32:Int) ^ (0+1)≤frm
 ·rw [if_pos c1] at S
  have c0:(32:Int)≤frm:=c1
  clear h H HCN c1
  go_enter Tryz.func200,Tryz.ntmps200
  go_wp2_with fail
  exact S.out.done rfl
 ·rw [if_neg c1] at S
  have c0:¬ (32:Int)≤frm:=c1
  clear c1
  by_cases c2:Fs.bZ n I m
  ·rw [if_pos c2] at S
   have HBI:Hid (∀ w,Calls Tryz.prog 225 #[.agg (bc n I).toArray,.int .i64 m] w fun e w'=>e=.returned (.int .i64 (m - Pl.aS I))∧Below w.heap.size w w'):=Lib.hid (fun w=>pC n I m w h.vs.pl c2.1 c2.2)
   have g2:decide (m - Pl.aS I<0)=false:=decide_eq_false (by have:=c2.1;omega)
   have HMO:=Lib.hid (gh h.vs c2).1
   clear h H c2
   go_enter Tryz.func200,Tryz.ntmps200
   go_wp2_with (first
    | (with_reducible refine aN (S.out.row).gR rfl (.tmp 16) rfl rfl ?_)
    | (go_at_call 225;refine (HBI.out _).mono ?_;rintro e w1 ⟨rfl,hb⟩;replace S:=Lib.hid (S.out.below hb);clear hb))
   refine (HCN.out _ S.out.ctx HMO.out).mono ?_
   intro e w8 hE
   rcases S.out.bind hE with ⟨rfl,hR⟩ | ⟨left,s,L6,_,rfl,S2⟩
   ·exact ⟨rfl,hR⟩
   clear S hE
   have S:=Lib.hid S2
   clear S2
   cases left with
   |
    true=>
    rw [if_pos rfl] at S
    go_wp2_with fail
    exact S.out.done rfl
   |
    false=>
    rw [if_neg (by decide)] at S
    go_wp2_with fail
    refine aO (fv R B b n I w (fun (y:Int) e _=>e=.returned (.int .i64 y)) s (Fs.lj 42 (m - Pl.aS I) false) (fun _=>Fs.ret (0:Int))) (fun ch W=>ch=[bn B]∧R (.panicked [bn B]) W) (fun i=>i == 14) (fun i=>[.pointer (some ⟨B,0,none⟩),.pointer (some ⟨B,0,none⟩),.pointer (some ⟨B,0,none⟩),.pointer (some ⟨B,0,none⟩),.pointer (some ⟨B,1,none⟩),.agg (bc n I).toArray,.int .i64 42,.pointer (some ⟨B,0,none⟩),.pointer (some ⟨B,0,none⟩),.pointer (some ⟨B,0,none⟩),.pointer (some ⟨B,1,none⟩),.agg (bc n I).toArray,.int .i64 m,.int .i64 (m - Pl.aS I)].getD i undef) false (by kernel_rfl) (by kernel_rfl) (fun ch a' W hd hh=>?_) S.out.drew ?_
    ·exact ⟨hd,by obtain ⟨rfl,hR⟩:=hh;exact hR⟩
    refine ag (i:=0) (d:=some 35) (v:=(.pointer (some ⟨B,0,none⟩))) rfl rfl (by kernel_rfl) (by kernel_rfl) rfl rfl (ae (by kernel_rfl) ?_) ?_
    ·((intro _ _ _;go_simp) <;> kernel_rfl)
    try simp only [Act.put,puA,puB,puC]
    refine ag (i:=1) (d:=some 36) (v:=(.pointer (some ⟨B,0,none⟩))) rfl rfl (by kernel_rfl) (by kernel_rfl) rfl rfl (ae (by kernel_rfl) ?_) ?_
    ·((intro _ _ _;go_simp) <;> kernel_rfl)
    try simp only [Act.put,puA,puB,puC]
    refine ag (i:=2) (d:=some 37) (v:=(.pointer (some ⟨B,0,none⟩))) rfl rfl (by kernel_rfl) (by kernel_rfl) rfl rfl (ae (by kernel_rfl) ?_) ?_
    ·((intro _ _ _;go_simp) <;> kernel_rfl)
    try simp only [Act.put,puA,puB,puC]
    refine ag (i:=3) (d:=some 38) (v:=(.pointer (some ⟨B,0,none⟩))) rfl rfl (by kernel_rfl) (by kernel_rfl) rfl rfl (ae (by kernel_rfl) ?_) ?_
    ·((intro _ _ _;go_simp) <;> kernel_rfl)
    try simp only [Act.put,puA,puB,puC]
    refine ag (i:=4) (d:=some 39) (v:=(.pointer (some ⟨B,1,none⟩))) rfl rfl (by kernel_rfl) (by kernel_rfl) rfl rfl (ae (by kernel_rfl) ?_) ?_
    ·((intro _ _ _;go_simp) <;> kernel_rfl)
    try simp only [Act.put,puA,puB,puC]
    refine ag (i:=5) (d:=some 40) (v:=(.agg (bc n I).toArray)) rfl rfl (by kernel_rfl) (by kernel_rfl) rfl rfl (bM eu (by kernel_rfl) (.tmp 39) rfl rfl (fun _ W hS=>fv.row hS)) ?_
    try simp only [Act.put,puA,puB,puC]
    refine ag (i:=6) (d:=some 41) (v:=(.int .i64 42)) rfl rfl (by kernel_rfl) (by kernel_rfl) rfl rfl (aR (f:=104) (args:=#[.agg (bc n I).toArray]) (by kernel_rfl) ?_ (fun _ W hS=>(HDB.out W).mono fun e w' hh=>⟨hh.1,fv.below hS hh.2⟩)) ?_
    ·(intro _;go_simp)
    try simp only [Act.put,puA,puB,puC]
    refine ag (i:=7) (d:=some 42) (v:=(.pointer (some ⟨B,0,none⟩))) rfl rfl (by kernel_rfl) (by kernel_rfl) rfl rfl (ae (by kernel_rfl) ?_) ?_
    ·((intro _ _ _;go_simp) <;> kernel_rfl)
    try simp only [Act.put,puA,puB,puC]
    refine ag (i:=8) (d:=some 43) (v:=(.pointer (some ⟨B,0,none⟩))) rfl rfl (by kernel_rfl) (by kernel_rfl) rfl rfl (ae (by kernel_rfl) ?_) ?_
    ·((intro _ _ _;go_simp) <;> kernel_rfl)
    try simp only [Act.put,puA,puB,puC]
    refine ag (i:=9) (d:=some 44) (v:=(.pointer (some ⟨B,0,none⟩))) rfl rfl (by kernel_rfl) (by kernel_rfl) rfl rfl (ae (by kernel_rfl) ?_) ?_
    ·((intro _ _ _;go_simp) <;> kernel_rfl)
    try simp only [Act.put,puA,puB,puC]
    refine ag (i:=10) (d:=some 45) (v:=(.pointer (some ⟨B,1,none⟩))) rfl rfl (by kernel_rfl) (by kernel_rfl) rfl rfl (ae (by kernel_rfl) ?_) ?_
    ·((intro _ _ _;go_simp) <;> kernel_rfl)
    try simp only [Act.put,puA,puB,puC]
    refine ag (i:=11) (d:=some 46) (v:=(.agg (bc n I).toArray)) rfl rfl (by kernel_rfl) (by kernel_rfl) rfl rfl (bM eu (by kernel_rfl) (.tmp 45) rfl rfl (fun _ W hS=>fv.row hS)) ?_
    try simp only [Act.put,puA,puB,puC]
    refine ag (i:=12) (d:=some 47) (v:=(.int .i64 m)) rfl rfl (by kernel_rfl) (by kernel_rfl) rfl rfl (ae (by kernel_rfl) ?_) ?_
    ·((intro _ _ _;go_simp) <;> kernel_rfl)
    try simp only [Act.put,puA,puB,puC]
    refine ag (i:=13) (d:=some 48) (v:=(.int .i64 (m - Pl.aS I))) rfl rfl (by kernel_rfl) (by kernel_rfl) rfl rfl (aR (f:=225) (args:=#[.agg (bc n I).toArray,.int .i64 m]) (by kernel_rfl) ?_ (fun _ W hS=>(HBI.out W).mono fun e w' hh=>⟨hh.1,fv.below hS hh.2⟩)) ?_
    ·(intro _;go_simp)
    try simp only [Act.put,puA,puB,puC]
    refine bw (i:=14) (d:=some 49) (fun u k=>u=.tuple #[]∧k=true) rfl rfl (by kernel_rfl) (by kernel_rfl) rfl (by kernel_rfl) ⟨_,_,rfl,rfl⟩ (by kernel_rfl) (bm (f:=150) (args:=#[.pointer (some ⟨B,0,none⟩),.int .i64 42,.int .i64 (m - Pl.aS I),.bool false]) ?_ (fun W hS=>(fJ (Stp.ctx hS) 42 (m - Pl.aS I) false HOK.out).mono fun e w' hE=>by
     rcases Stp.bind hS hE with ⟨rfl,hR⟩ | ⟨_,s',L',_,rfl,S2⟩
     ·exact Or.inr ⟨_,rfl,rfl,hR⟩
     ·exact Or.inl ⟨_,rfl,true,⟨rfl,rfl⟩,s',S2⟩)) ?_
    ·(intro _;go_simp)
    rintro _ _ ⟨rfl,rfl⟩
    try simp only [Act.put,puA,puB,puC]
    refine cH (by kernel_rfl) fun W hS=>?_
    obtain ⟨s5,S5⟩:=fv.done hS
    clear S
    have S:=Lib.hid S5
    clear S5 hS
    go_wp2_with fail
    exact S.out.done rfl
  ·rw [if_neg c2] at S
   have HBI:Hid (∀ w,Calls Tryz.prog 225 #[.agg (bc n I).toArray,.int .i64 m] w fun e w'=>e=.returned (.int .i64 (-1))∧Below w.heap.size w w'):=Lib.hid (fun w=>uH n I m w h.vs.pl (by unfold Fs.bZ at c2;omega))
   clear h H c2
   by_cases c3:0<frm
   ·rw [if_pos c3] at S
    go_enter Tryz.func200,Tryz.ntmps200
    go_wp2_with (first
     | (with_reducible refine aN (S.out.row).gR rfl (.tmp 16) rfl rfl ?_)
     | (go_at_call 225;refine (HBI.out _).mono ?_;rintro e w1 ⟨rfl,hb⟩;replace S:=Lib.hid (S.out.below hb);clear hb))
    exact S.out.done rfl
   ·rw [if_neg c3] at S
    go_enter Tryz.func200,Tryz.ntmps200
    go_wp2_with (first
     | (with_reducible refine aN (S.out.row).gR rfl (.tmp 16) rfl rfl ?_)
     | (go_at_call 225;refine (HBI.out _).mono ?_;rintro e w1 ⟨rfl,hb⟩;replace S:=Lib.hid (S.out.below hb);clear hb))
    exact S.out.done rfl
theorem KJ {w:World} {B:Nat} {b:Blk} {s:Sto} {n I:Int} (h:Ctx w B b s n I) (m frm:Int) (h1:-1000000≤frm) (h2:frm≤1000000):Calls Tryz.prog 200 #[.pointer (some ⟨B,0,none⟩),.int .i64 m,.int .i64 1024,.int .i64 frm] w (Ends B b n I [] w s (Fs.kE n I 2 m frm) fun y e _=>e=.returned (.int .i64 y)):=by
 refine aQ fun R H=>?_
 have S:=Lib.hid (Stp.start h (by simp) H)
 have HOK:=Lib.hid (kB h.vs).1
 have HDB:Hid (∀ w,Calls Tryz.prog 104 #[.agg (bc n I).toArray] w fun e w'=>e=.returned (.int .i64 42)∧Below w.heap.size w w'):=Lib.hid (fun w=>by
  have:=ed n I w
  rw [if_pos h.vs.pl] at this
  exact this)
 have HCN:Hid (∀ W,Ctx W B b s n I→okP n m→Calls Tryz.prog 238 #[.pointer (some ⟨B,0,none⟩),.int .i64 m,.int .i64 32,.int .i64 frm] W (Ends B b n I [] W s (Fs.mi (Fs.kE n I 1) ((32:Int) ^ 1) m frm) fun left e _=>e=.returned (.bool left))):=Lib.hid (fun W hc hm=>kS (Fs.kE n I 1) 32 (by decide) 1000000 (by decide) (fun W s' m frm hc q1 q2=>Ia hc m frm (by omega) q2) hc m frm hm ⟨h1,h2⟩)
 rw [show (2:Nat)=1+1 from rfl] at S
 rw [Fs.kE] at S
 by_cases c1:(32:Int) ^ (1+1)≤frm
 ·rw [if_pos c1] at S
  have c0:(1024:Int)≤frm:=c1
  clear h H HCN c1
  go_enter Tryz.func200,Tryz.ntmps200
  go_wp2_with fail
  exact S.out.done rfl
 ·rw [if_neg c1] at S
  have c0:¬ (1024:Int)≤frm:=c1
  clear c1
  by_cases c2:Fs.bZ n I m
  ·rw [if_pos c2] at S
   have HBI:Hid (∀ w,Calls Tryz.prog 225 #[.agg (bc n I).toArray,.int .i64 m] w fun e w'=>e=.returned (.int .i64 (m - Pl.aS I))∧Below w.heap.size w w'):=Lib.hid (fun w=>pC n I m w h.vs.pl c2.1 c2.2)
   have g2:decide (m - Pl.aS I<0)=false:=decide_eq_false (by have:=c2.1;omega)
   have HMO:=Lib.hid (gh h.vs c2).1
   clear h H c2
   go_enter Tryz.func200,Tryz.ntmps200
   go_wp2_with (first
    | (with_reducible refine aN (S.out.row).gR rfl (.tmp 16) rfl rfl ?_)
    | (go_at_call 225;refine (HBI.out _).mono ?_;rintro e w1 ⟨rfl,hb⟩;replace S:=Lib.hid (S.out.below hb);clear hb))
   refine (HCN.out _ S.out.ctx HMO.out).mono ?_
   intro e w8 hE
   rcases S.out.bind hE with ⟨rfl,hR⟩ | ⟨left,s,L6,_,rfl,S2⟩
   ·exact ⟨rfl,hR⟩
   clear S hE
   have S:=Lib.hid S2
   clear S2
   cases left with
   |
    true=>
    rw [if_pos rfl] at S
    go_wp2_with fail
    exact S.out.done rfl
   |
    false=>
    rw [if_neg (by decide)] at S
    go_wp2_with fail
    refine aO (fv R B b n I w (fun (y:Int) e _=>e=.returned (.int .i64 y)) s (Fs.lj 42 (m - Pl.aS I) false) (fun _=>Fs.ret (0:Int))) (fun ch W=>ch=[bn B]∧R (.panicked [bn B]) W) (fun i=>i == 14) (fun i=>[.pointer (some ⟨B,0,none⟩),.pointer (some ⟨B,0,none⟩),.pointer (some ⟨B,0,none⟩),.pointer (some ⟨B,0,none⟩),.pointer (some ⟨B,1,none⟩),.agg (bc n I).toArray,.int .i64 42,.pointer (some ⟨B,0,none⟩),.pointer (some ⟨B,0,none⟩),.pointer (some ⟨B,0,none⟩),.pointer (some ⟨B,1,none⟩),.agg (bc n I).toArray,.int .i64 m,.int .i64 (m - Pl.aS I)].getD i undef) false (by kernel_rfl) (by kernel_rfl) (fun ch a' W hd hh=>?_) S.out.drew ?_
    ·exact ⟨hd,by obtain ⟨rfl,hR⟩:=hh;exact hR⟩
    refine ag (i:=0) (d:=some 35) (v:=(.pointer (some ⟨B,0,none⟩))) rfl rfl (by kernel_rfl) (by kernel_rfl) rfl rfl (ae (by kernel_rfl) ?_) ?_
    ·((intro _ _ _;go_simp) <;> kernel_rfl)
    try simp only [Act.put,puA,puB,puC]
    refine ag (i:=1) (d:=some 36) (v:=(.pointer (some ⟨B,0,none⟩))) rfl rfl (by kernel_rfl) (by kernel_rfl) rfl rfl (ae (by kernel_rfl) ?_) ?_
    ·((intro _ _ _;go_simp) <;> kernel_rfl)
    try simp only [Act.put,puA,puB,puC]
    refine ag (i:=2) (d:=some 37) (v:=(.pointer (some ⟨B,0,none⟩))) rfl rfl (by kernel_rfl) (by kernel_rfl) rfl rfl (ae (by kernel_rfl) ?_) ?_
    ·((intro _ _ _;go_simp) <;> kernel_rfl)
    try simp only [Act.put,puA,puB,puC]
    refine ag (i:=3) (d:=some 38) (v:=(.pointer (some ⟨B,0,none⟩))) rfl rfl (by kernel_rfl) (by kernel_rfl) rfl rfl (ae (by kernel_rfl) ?_) ?_
    ·((intro _ _ _;go_simp) <;> kernel_rfl)
    try simp only [Act.put,puA,puB,puC]
    refine ag (i:=4) (d:=some 39) (v:=(.pointer (some ⟨B,1,none⟩))) rfl rfl (by kernel_rfl) (by kernel_rfl) rfl rfl (ae (by kernel_rfl) ?_) ?_
    ·((intro _ _ _;go_simp) <;> kernel_rfl)
    try simp only [Act.put,puA,puB,puC]
    refine ag (i:=5) (d:=some 40) (v:=(.agg (bc n I).toArray)) rfl rfl (by kernel_rfl) (by kernel_rfl) rfl rfl (bM eu (by kernel_rfl) (.tmp 39) rfl rfl (fun _ W hS=>fv.row hS)) ?_
    try simp only [Act.put,puA,puB,puC]
    refine ag (i:=6) (d:=some 41) (v:=(.int .i64 42)) rfl rfl (by kernel_rfl) (by kernel_rfl) rfl rfl (aR (f:=104) (args:=#[.agg (bc n I).toArray]) (by kernel_rfl) ?_ (fun _ W hS=>(HDB.out W).mono fun e w' hh=>⟨hh.1,fv.below hS hh.2⟩)) ?_
    ·(intro _;go_simp)
    try simp only [Act.put,puA,puB,puC]
    refine ag (i:=7) (d:=some 42) (v:=(.pointer (some ⟨B,0,none⟩))) rfl rfl (by kernel_rfl) (by kernel_rfl) rfl rfl (ae (by kernel_rfl) ?_) ?_
    ·((intro _ _ _;go_simp) <;> kernel_rfl)
    try simp only [Act.put,puA,puB,puC]
    refine ag (i:=8) (d:=some 43) (v:=(.pointer (some ⟨B,0,none⟩))) rfl rfl (by kernel_rfl) (by kernel_rfl) rfl rfl (ae (by kernel_rfl) ?_) ?_
    ·((intro _ _ _;go_simp) <;> kernel_rfl)
    try simp only [Act.put,puA,puB,puC]
    refine ag (i:=9) (d:=some 44) (v:=(.pointer (some ⟨B,0,none⟩))) rfl rfl (by kernel_rfl) (by kernel_rfl) rfl rfl (ae (by kernel_rfl) ?_) ?_
    ·((intro _ _ _;go_simp) <;> kernel_rfl)
    try simp only [Act.put,puA,puB,puC]
    refine ag (i:=10) (d:=some 45) (v:=(.pointer (some ⟨B,1,none⟩))) rfl rfl (by kernel_rfl) (by kernel_rfl) rfl rfl (ae (by kernel_rfl) ?_) ?_
    ·((intro _ _ _;go_simp) <;> kernel_rfl)
    try simp only [Act.put,puA,puB,puC]
    refine ag (i:=11) (d:=some 46) (v:=(.agg (bc n I).toArray)) rfl rfl (by kernel_rfl) (by kernel_rfl) rfl rfl (bM eu (by kernel_rfl) (.tmp 45) rfl rfl (fun _ W hS=>fv.row hS)) ?_
    try simp only [Act.put,puA,puB,puC]
    refine ag (i:=12) (d:=some 47) (v:=(.int .i64 m)) rfl rfl (by kernel_rfl) (by kernel_rfl) rfl rfl (ae (by kernel_rfl) ?_) ?_
    ·((intro _ _ _;go_simp) <;> kernel_rfl)
    try simp only [Act.put,puA,puB,puC]
    refine ag (i:=13) (d:=some 48) (v:=(.int .i64 (m - Pl.aS I))) rfl rfl (by kernel_rfl) (by kernel_rfl) rfl rfl (aR (f:=225) (args:=#[.agg (bc n I).toArray,.int .i64 m]) (by kernel_rfl) ?_ (fun _ W hS=>(HBI.out W).mono fun e w' hh=>⟨hh.1,fv.below hS hh.2⟩)) ?_
    ·(intro _;go_simp)
    try simp only [Act.put,puA,puB,puC]
    refine bw (i:=14) (d:=some 49) (fun u k=>u=.tuple #[]∧k=true) rfl rfl (by kernel_rfl) (by kernel_rfl) rfl (by kernel_rfl) ⟨_,_,rfl,rfl⟩ (by kernel_rfl) (bm (f:=150) (args:=#[.pointer (some ⟨B,0,none⟩),.int .i64 42,.int .i64 (m - Pl.aS I),.bool false]) ?_ (fun W hS=>(fJ (Stp.ctx hS) 42 (m - Pl.aS I) false HOK.out).mono fun e w' hE=>by
     rcases Stp.bind hS hE with ⟨rfl,hR⟩ | ⟨_,s',L',_,rfl,S2⟩
     ·exact Or.inr ⟨_,rfl,rfl,hR⟩
     ·exact Or.inl ⟨_,rfl,true,⟨rfl,rfl⟩,s',S2⟩)) ?_
    ·(intro _;go_simp)
    rintro _ _ ⟨rfl,rfl⟩
    try simp only [Act.put,puA,puB,puC]
    refine cH (by kernel_rfl) fun W hS=>?_
    obtain ⟨s5,S5⟩:=fv.done hS
    clear S
    have S:=Lib.hid S5
    clear S5 hS
    go_wp2_with fail
    exact S.out.done rfl
  ·rw [if_neg c2] at S
   have HBI:Hid (∀ w,Calls Tryz.prog 225 #[.agg (bc n I).toArray,.int .i64 m] w fun e w'=>e=.returned (.int .i64 (-1))∧Below w.heap.size w w'):=Lib.hid (fun w=>uH n I m w h.vs.pl (by unfold Fs.bZ at c2;omega))
   clear h H c2
   by_cases c3:0<frm
   ·rw [if_pos c3] at S
    go_enter Tryz.func200,Tryz.ntmps200
    go_wp2_with (first
     | (with_reducible refine aN (S.out.row).gR rfl (.tmp 16) rfl rfl ?_)
     | (go_at_call 225;refine (HBI.out _).mono ?_;rintro e w1 ⟨rfl,hb⟩;replace S:=Lib.hid (S.out.below hb);clear hb))
    exact S.out.done rfl
   ·rw [if_neg c3] at S
    go_enter Tryz.func200,Tryz.ntmps200
    go_wp2_with (first
     | (with_reducible refine aN (S.out.row).gR rfl (.tmp 16) rfl rfl ?_)
     | (go_at_call 225;refine (HBI.out _).mono ?_;rintro e w1 ⟨rfl,hb⟩;replace S:=Lib.hid (S.out.below hb);clear hb))
    exact S.out.done rfl
end

section
open Go.RowKit Go.Maps
open Dk (av aa)
open Ii (Ino)
theorem Stp.one {α:Type} {R:Ending→World→Prop} {B:Nat} {b:Blk} {n I:Int} {Ls:List Nat} {w0 w:World} {K:α→Ending→World→Prop} {l:List (Nat × List Value)} {s:Sto} {m:Fs.M α} (h:Stp R B b n I Ls w0 K l s m w) (k:Nat) (x:Nat × List Value) (hx:l[k]?=some x) (i:Nat) (v:Value) (us:List Value) (hi:i+1≤x.2.length) (hu:us=x.2.take i++[v]++x.2.drop (i+1)):Stp R B b n I Ls w0 K (l.set k (x.1,us)) s m (w.setCell ⟨x.1,i,none⟩ v):=by
 obtain ⟨h1,h2⟩:=h.lower (List.mem_of_getElem? hx)
 refine ⟨h.lo.putAt k x hx i [v] us hi hu,h.ctx.only ((aB.refl [x.1] w).setCell (p:=⟨x.1,i,none⟩) (by simp) v) ?_ ?_,h.low,h.left⟩
 ·simp;exact fun q=>h1 q.symm
 ·intro j hj q
  simp at q
  subst q
  exact h2 hj
namespace Fs
def cf4 (n I frm:Int) (y:Ino):M Ino:=andThen (kE n I 1 y.e (frm - 4)) fun e=>andThen (kE n I 2 y.f (frm - 36)) fun f=>ret { y with e:=e,f:=f }
def cf3 (n I frm:Int) (y:Ino):M Ino:=andThen (kE n I 0 y.d (frm - 3)) fun d=>cf4 n I frm { y with d:=d }
def cf2 (n I frm:Int) (y:Ino):M Ino:=andThen (kE n I 0 y.c (frm - 2)) fun c=>cf3 n I frm { y with c:=c }
def cf1 (n I frm:Int) (y:Ino):M Ino:=andThen (kE n I 0 y.b (frm - 1)) fun b=>cf2 n I frm { y with b:=b }
def cf0 (n I frm:Int) (y:Ino):M Ino:=andThen (kE n I 0 y.a frm) fun a=>cf1 n I frm { y with a:=a }
theorem Mv (n I frm:Int) (x:Ino):pt n I x frm=cf0 n I frm x:=rfl
def cf (n I frm:Int):Nat→Ino→M Ino
 | 0=>cf0 n I frm
 | 1=>cf1 n I frm
 | 2=>cf2 n I frm
 | 3=>cf3 n I frm
 | _=>cf4 n I frm
end Fs
theorem rk {w:World} {B:Nat} {b:Blk} {s:Sto} {n I:Int} (h:Ctx w B b s n I) (x:Ino) (frm:Int) (hf:0≤frm∧frm≤100000):Calls Tryz.prog 147 #[.pointer (some ⟨B,0,none⟩),bH x,.int .i64 frm] w (Ends B b n I [] w s (Fs.pt n I x frm) fun y e _=>e=.returned (bH y)):=by
 refine aQ fun R H=>?_
 have S0:=Lib.hid (Stp.start h (by simp) H)
 rw [Fs.Mv] at S0
 clear h H
 unfold bH
 go_enter Tryz.func147,Tryz.ntmps147
 go_wp2_with fail
 generalize hw:World.alloc _ _=w1
 have S:Hid (Stp R B b n I [] w (fun (y:Ino) e _=>e=.returned (bH y)) [(w.heap.size,aH x),(w.heap.size+1,aH Ii.zero)] s (Fs.cf0 n I frm x) w1):=Lib.hid (by
  rw [← hw]
  exact (S0.out.alloc w.heap.size rfl (aH x) _).alloc (w.heap.size+1) (by simp) (aH Ii.zero) _)
 clear hw S0
 go_loopw [11] (fun i wr=>∃ (k:Nat) (y:Ino) (s3:Sto),k≤4∧i=.int .i64 k∧Hid (Stp R B b n I [] w (fun (y:Ino) e _=>e=.returned (bH y)) [(w.heap.size,aH y),(w.heap.size+1,aH Ii.zero)] s3 (Fs.cf n I frm k y) wr)∧((k<1→y.a=x.a)∧(k<2→y.b=x.b)∧(k<3→y.c=x.c)∧(k<4→y.d=x.d))) (fun i _=>4 - (intOf i).toNat)
 case atStart=>exact ⟨0,x,s,by omega,rfl,S,⟨fun _=>rfl,fun _=>rfl,fun _=>rfl,fun _=>rfl⟩⟩
 case round=>
  clear S
  obtain ⟨k,y,s3,hk,rfl,S,hy⟩:=hrel
  have hk:k=0∨k=1∨k=2∨k=3∨k=4:=by omega
  rcases hk with rfl | rfl | rfl | rfl | rfl
  ·have S1:Hid (Stp R B b n I [] w (fun (y:Ino) e _=>e=.returned (bH y)) [(w.heap.size,aH y),(w.heap.size+1,aH Ii.zero)] s3 (Fs.andThen (Fs.kE n I 0 x.a (frm)) fun a=>Fs.cf n I frm 1 { y with a:=a }) wr):=Lib.hid (by rw [← hy.1 (by omega)];exact S.out)
   have ix:=fun w=>iH x w
   clear S
   go_wp2_with (go_at_call 200;(with_reducible refine (ti S1.out.ctx x.a (frm)).mono ?_);intro e w4 hE;rcases S1.out.bind hE with ⟨rfl,hR⟩ | ⟨v,s4,L4,_,rfl,S2⟩;(exact ⟨rfl,hR⟩);have S4:=Lib.hid S2;clear S2 hE;have cc:=(S4.out.get 0 _ rfl).cell 5 _ rfl;have ff:=(S4.out.get 0 _ rfl).frozen 5 (show 5<11 by decide))
   have S5:=Lib.hid (S4.out.one 0 _ rfl 5 (.int .i64 v) (aH { y with a:=v }) (show 5+1≤11 by decide) rfl)
   clear S4 S1 cc ff
   go_roundw
   case rel=>exact ⟨1,_,s4,by omega,rfl,S5,⟨fun q=>by omega,fun q=>hy.2.1 (by omega),fun q=>hy.2.2.1 (by omega),fun q=>hy.2.2.2 (by omega)⟩⟩
   case measure=>simp [intOf]
  ·have S1:Hid (Stp R B b n I [] w (fun (y:Ino) e _=>e=.returned (bH y)) [(w.heap.size,aH y),(w.heap.size+1,aH Ii.zero)] s3 (Fs.andThen (Fs.kE n I 0 x.b (frm - 1)) fun a=>Fs.cf n I frm 2 { y with b:=a }) wr):=Lib.hid (by rw [← hy.2.1 (by omega)];exact S.out)
   have ix:=fun w=>iG x w
   clear S
   go_wp2_with (go_at_call 200;(with_reducible refine (ti S1.out.ctx x.b (frm - 1)).mono ?_);intro e w4 hE;rcases S1.out.bind hE with ⟨rfl,hR⟩ | ⟨v,s4,L4,_,rfl,S2⟩;(exact ⟨rfl,hR⟩);have S4:=Lib.hid S2;clear S2 hE;have cc:=(S4.out.get 0 _ rfl).cell 6 _ rfl;have ff:=(S4.out.get 0 _ rfl).frozen 6 (show 6<11 by decide))
   have S5:=Lib.hid (S4.out.one 0 _ rfl 6 (.int .i64 v) (aH { y with b:=v }) (show 6+1≤11 by decide) rfl)
   clear S4 S1 cc ff
   go_roundw
   case rel=>exact ⟨2,_,s4,by omega,rfl,S5,⟨fun q=>by omega,fun q=>by omega,fun q=>hy.2.2.1 (by omega),fun q=>hy.2.2.2 (by omega)⟩⟩
   case measure=>simp [intOf]
  ·have S1:Hid (Stp R B b n I [] w (fun (y:Ino) e _=>e=.returned (bH y)) [(w.heap.size,aH y),(w.heap.size+1,aH Ii.zero)] s3 (Fs.andThen (Fs.kE n I 0 x.c (frm - 2)) fun a=>Fs.cf n I frm 3 { y with c:=a }) wr):=Lib.hid (by rw [← hy.2.2.1 (by omega)];exact S.out)
   have ix:=fun w=>iF x w
   clear S
   go_wp2_with (go_at_call 200;(with_reducible refine (ti S1.out.ctx x.c (frm - 2)).mono ?_);intro e w4 hE;rcases S1.out.bind hE with ⟨rfl,hR⟩ | ⟨v,s4,L4,_,rfl,S2⟩;(exact ⟨rfl,hR⟩);have S4:=Lib.hid S2;clear S2 hE;have cc:=(S4.out.get 0 _ rfl).cell 7 _ rfl;have ff:=(S4.out.get 0 _ rfl).frozen 7 (show 7<11 by decide))
   have S5:=Lib.hid (S4.out.one 0 _ rfl 7 (.int .i64 v) (aH { y with c:=v }) (show 7+1≤11 by decide) rfl)
   clear S4 S1 cc ff
   go_roundw
   case rel=>exact ⟨3,_,s4,by omega,rfl,S5,⟨fun q=>by omega,fun q=>by omega,fun q=>by omega,fun q=>hy.2.2.2 (by omega)⟩⟩
   case measure=>simp [intOf]
  ·have S1:Hid (Stp R B b n I [] w (fun (y:Ino) e _=>e=.returned (bH y)) [(w.heap.size,aH y),(w.heap.size+1,aH Ii.zero)] s3 (Fs.andThen (Fs.kE n I 0 x.d (frm - 3)) fun a=>Fs.cf n I frm 4 { y with d:=a }) wr):=Lib.hid (by rw [← hy.2.2.2 (by omega)];exact S.out)
   have ix:=fun w=>iE x w
   clear S
   go_wp2_with (go_at_call 200;(with_reducible refine (ti S1.out.ctx x.d (frm - 3)).mono ?_);intro e w4 hE;rcases S1.out.bind hE with ⟨rfl,hR⟩ | ⟨v,s4,L4,_,rfl,S2⟩;(exact ⟨rfl,hR⟩);have S4:=Lib.hid S2;clear S2 hE;have cc:=(S4.out.get 0 _ rfl).cell 8 _ rfl;have ff:=(S4.out.get 0 _ rfl).frozen 8 (show 8<11 by decide))
   have S5:=Lib.hid (S4.out.one 0 _ rfl 8 (.int .i64 v) (aH { y with d:=v }) (show 8+1≤11 by decide) rfl)
   clear S4 S1 cc ff
   go_roundw
   case rel=>exact ⟨4,_,s4,by omega,rfl,S5,⟨fun q=>by omega,fun q=>by omega,fun q=>by omega,fun q=>by omega⟩⟩
   case measure=>simp [intOf]
  ·have S1:Hid (Stp R B b n I [] w (fun (y:Ino) e _=>e=.returned (bH y)) [(w.heap.size,aH y),(w.heap.size+1,aH Ii.zero)] s3 (Fs.cf4 n I frm y) wr):=Lib.hid S.out
   clear S hy
   have c9:=(S1.out.get 0 _ rfl).cell 9 _ rfl
   have HE6:Hid (frm - 36=frm - 4 - 32):=Lib.hid (by omega)
   go_wp2_with fail
   refine (Ia S1.out.ctx y.e (frm - 4) (by omega) (by omega)).mono ?_
   intro e w4 hE
   rcases S1.out.bind hE with ⟨rfl,hR⟩ | ⟨v,s4,L4,_,rfl,S2⟩
   ·exact ⟨rfl,hR⟩
   rw [HE6.out] at S2
   have S4:=Lib.hid S2
   clear S1 S2 hE c9 HE6
   have cc:=(S4.out.get 0 _ rfl).cell 9 _ rfl
   have ff:=(S4.out.get 0 _ rfl).frozen 9 (show 9<11 by decide)
   have S5:=Lib.hid (S4.out.one 0 _ rfl 9 (.int .i64 v) (aH { y with e:=v }) (show 9+1≤11 by decide) rfl)
   have c10:=(S5.out.get 0 _ rfl).cell 10 _ rfl
   clear S4
   go_wp2_with fail
   refine (KJ S5.out.ctx y.f (frm - 4 - 32) (by omega) (by omega)).mono ?_
   intro e w6 hE
   rcases S5.out.bind hE with ⟨rfl,hR⟩ | ⟨v2,s6,L6,_,rfl,S2⟩
   ·exact ⟨rfl,hR⟩
   have S6:=Lib.hid S2
   clear S5 S2 hE c10 cc ff
   have cc:=(S6.out.get 0 _ rfl).cell 10 _ rfl
   have ff:=(S6.out.get 0 _ rfl).frozen 10 (show 10<11 by decide)
   have S7:Hid (Stp R B b n I [] w (fun (y:Ino) e _=>e=.returned (bH y)) [(w.heap.size,aH { y with e:=v,f:=v2 }),(w.heap.size+1,aH Ii.zero)] s6 (Fs.ret { y with e:=v,f:=v2 }) (w6.setCell ⟨w.heap.size,10,none⟩ (.int .i64 v2))):=Lib.hid (S6.out.one 0 _ rfl 10 (.int .i64 v2) (aH { y with e:=v,f:=v2 }) (show 10+1≤11 by decide) rfl)
   clear S6
   generalize { y with e:=v,f:=v2 }=z at S7
   go_wp2_with (first
    | (with_reducible refine af cz (S7.out.get 0 _ rfl) rfl rfl (.tmp 4) rfl rfl ?_)
    | ((with_reducible refine ak (vs:=aH z) cz (S7.out.get 1 _ rfl) ?_ ?_ (aJ _) rfl (.tmp 6) (.tmp 40) rfl ?_ ?_ ?_);(exact rfl);(exact rfl);(exact rfl);(exact rfl)))
   have S8:=Lib.hid (S7.out.put 1 _ rfl (aH z) rfl)
   exact bodyPost_ret (aC cz _ 6 rfl _ (S8.out.get 1 _ rfl) rfl rfl) rfl (S8.out.done rfl)
end

section
open Go.RowKit Go.Maps
open Dk (av aa)
open Ii (Ino)
section
variable {α:Type} {R:Ending→World→Prop} {B:Nat} {b:Blk} {n I:Int} {Ls:List Nat} {w0 w:World} {K:α→Ending→World→Prop} {l:List (Nat × List Value)} {s:Sto} {m:Fs.M α}
end
end

section
open Go.RowKit Go.Maps
open Dk (av aa)
open Ii (Ino)
theorem jy (i:Int) (w:World) (h:1≤i∧i≤1000):Calls Tryz.prog 152 #[.int .i64 i] w fun e w'=>e=.returned (.int .i64 (i - 1))∧w=w':=by
 go_enter Tryz.func152,Tryz.ntmps152
 go_wp2
 go_ret
 exact ⟨rfl,rfl⟩
theorem ra {I i:Int} {V:Fs.View} {x:Ino} (h:Fs.cV I i V=.ok x):1≤i∧i≤I:=by
 unfold Fs.cV at h
 split at h
 ·assumption
 ·cases h
theorem lJ {α:Type} {f:Fs.View→Except Int α} {V V':Fs.View} {a:α} {L:List Nat} (h:Fs.tell f V=(.ok a,V',L)):f V=.ok a:=by
 unfold Fs.tell at h
 injection h
theorem jx {n I:Int} (h:Pl.aA n I=true) (w:World):Calls Tryz.prog 151 #[bz n I] w fun e w'=>e=.returned (.int .i64 41)∧Below w.heap.size w w':=by
 have:=oz n I w
 rw [if_pos h] at this
 exact this
theorem By {w:World} {B:Nat} {b:Blk} {s:Sto} {n I:Int} (h:Ctx w B b s n I) (x:Ino):Calls Tryz.prog 114 #[.pointer (some ⟨B,0,none⟩),bH x] w (Ends B b n I [] w s (Fs.Ik n I x) fun i e _=>e=.returned (.int .i64 i)):=by
 refine aQ fun R H=>?_
 have S0:=Lib.hid (Stp.start h (by simp) H)
 have HI:=h.vs.bd
 have HIB:=Lib.hid (fun w=>jx h.vs.pl w)
 have HOK:=Lib.hid (kB h.vs).2
 have HW:Hid (∀ W,Calls Tryz.prog 146 #[.agg (aH x).toArray,.agg #[.int .i64 0,.int .i64 0,.int .i64 0,.int .i64 0,.int .i64 0,.int .i64 0,.int .i64 0,.int .i64 0,.int .i64 0,.int .i64 0,.int .i64 0]] W fun e w'=>e=.returned (bH (Fs.lH x Ii.zero))∧Below W.heap.size W w'):=Lib.hid (fun W=>sG x Ii.zero)
 unfold Fs.Ik at S0
 have hI2:=HI.2.1
 clear h H HI
 unfold bH
 go_enter Tryz.func114,Tryz.ntmps114
 have HGO:=Lib.hid (fun W (hc:Ctx W B b s n I)=>dT hc)
 go_wp2_with fail
 generalize hw:World.alloc _ _=w1
 have S:Hid (Stp R B b n I [] w (fun (i:Int) e _=>e=.returned (.int .i64 i)) [(w.heap.size,aH x)] s (Fs.andThen (Fs.kV n I (Fs.lH x Ii.zero)) fun y=>Fs.andThen (Fs.xV I) fun i=>Fs.andThen (Fs.sy i y) fun _=>Fs.andThen (Fs.lj 41 (i - 1) true) fun _=>Fs.ret i) w1):=Lib.hid (by
  rw [← hw]
  exact S0.out.alloc w.heap.size rfl (aH x) _)
 clear hw S0
 go_wp2_with (first
  | (go_at_call 117;(with_reducible refine (HGO.out _ S.out.ctx).mono ?_);rintro e w2 ⟨rfl,rfl⟩)
  | (with_reducible refine af cz (S.out.get 0 _ rfl) rfl rfl (.tmp 3) rfl rfl ?_)
  | (go_at_call 146;(with_reducible refine (HW.out _).mono ?_);rintro e w3 ⟨rfl,hb⟩;replace S:=Lib.hid (S.out.below hb);clear hb)
  | (go_at_call 145;(with_reducible refine (kc S.out.ctx (Fs.lH x Ii.zero)).mono ?_);intro e w4 hE;rcases S.out.bind hE with ⟨rfl,hR⟩ | ⟨y,s4,L4,_,rfl,S2⟩;(exact ⟨rfl,hR⟩);clear S hE;have S:=Lib.hid S2;clear S2)
  | ((with_reducible refine ak (vs:=aH y) cz (S.out.get 0 _ rfl) ?_ ?_ (aJ _) rfl (.tmp 3) (.tmp 13) rfl ?_ ?_ ?_);(exact rfl);(exact rfl);(exact rfl);(exact rfl);have S3:=Lib.hid (S.out.put 0 _ rfl (aH y) rfl);clear S;have S:=Lib.hid S3.out;clear S3)
  | (go_at_call 168;(with_reducible refine (yY S.out.ctx).mono ?_);intro e w5 hE;rcases S.out.bind hE with ⟨rfl,hR⟩ | ⟨i,s5,L5,hi,rfl,S2⟩;(exact ⟨rfl,hR⟩);have hib:=Fs.sb _ _ (lJ hi);clear S hE hi;have S:=Lib.hid S2;clear S2)
  | (go_at_call 124;refine (kM S.out.ctx i y hib.1 (by omega)).mono ?_;intro e w6 hE;rcases S.out.bind hE with ⟨rfl,hR⟩ | ⟨_,s6,L6,_,rfl,S2⟩;(exact ⟨rfl,hR⟩);clear S hE;have S:=Lib.hid S2;clear S2)
  | (with_reducible refine aN (S.out.row).gR rfl (.tmp 24) rfl rfl ?_)
  | (go_at_call 151;(with_reducible refine (HIB.out _).mono ?_);rintro e w7 ⟨rfl,hb⟩;replace S:=Lib.hid (S.out.below hb);clear hb)
  | (go_at_call 152;(with_reducible refine (jy i _ (by omega)).mono ?_);rintro e w8 ⟨rfl,rfl⟩)
  | (go_at_call 150;(with_reducible refine (fJ S.out.ctx 41 (i - 1) true HOK.out).mono ?_);intro e w9 hE;rcases S.out.bind hE with ⟨rfl,hR⟩ | ⟨_,s9,L9,_,rfl,S2⟩;(exact ⟨rfl,hR⟩);clear S hE;have S:=Lib.hid S2;clear S2))
 exact S.out.done rfl
theorem re {w:World} {B:Nat} {b:Blk} {s:Sto} {n I:Int} (h:Ctx w B b s n I) (i:Int):Calls Tryz.prog 93 #[.pointer (some ⟨B,0,none⟩),.int .i64 i] w (Ends B b n I [] w s (Fs.jN n I i) fun _ e _=>e=.returned (.tuple #[])):=by
 refine aQ fun R H=>?_
 have S:=Lib.hid (Stp.start h (by simp) H)
 have HI:=h.vs.bd
 have hI2:=HI.2.1
 have HIB:=Lib.hid (fun w=>jx h.vs.pl w)
 have HOK:=Lib.hid (kB h.vs).2
 have HSE:Hid (∀ W s',Ctx W B b s' n I→1≤i→i≤I→Calls Tryz.prog 124 #[.pointer (some ⟨B,0,none⟩),.int .i64 i,.agg #[.int .i64 0,.int .i64 0,.int .i64 0,.int .i64 0,.int .i64 0,.int .i64 0,.int .i64 0,.int .i64 0,.int .i64 0,.int .i64 0,.int .i64 0]] W (Ends B b n I [] W s' (Fs.sy i Ii.zero) fun _ e _=>e=.returned (.tuple #[]))):=Lib.hid (fun W s' hc h1 h2=>kM hc i Ii.zero h1 h2)
 have HGO:=Lib.hid (fun W (hc:Ctx W B b s n I)=>dT hc)
 unfold Fs.jN at S
 clear h H HI
 go_enter Tryz.func93,Tryz.ntmps93
 go_wp2_with (first
  | (go_at_call 117;(with_reducible refine (HGO.out _ S.out.ctx).mono ?_);rintro e w2 ⟨rfl,rfl⟩)
  | (go_at_call 118;(with_reducible refine (gG S.out.ctx i).mono ?_);intro e w4 hE;rcases S.out.bind hE with ⟨rfl,hR⟩ | ⟨was,s4,L4,hi,rfl,S2⟩;(exact ⟨rfl,hR⟩);have hib:=ra (lJ hi);clear S hE hi;have S:=Lib.hid S2;clear S2)
  | (go_at_call 147;(with_reducible refine (rk S.out.ctx was 0 (by decide)).mono ?_);intro e w5 hE;rcases S.out.bind hE with ⟨rfl,hR⟩ | ⟨y,s5,L5,_,rfl,S2⟩;(exact ⟨rfl,hR⟩);clear S hE;have S:=Lib.hid S2;clear S2)
  | (go_at_call 124;(with_reducible refine (HSE.out _ _ S.out.ctx hib.1 hib.2).mono ?_);intro e w6 hE;rcases S.out.bind hE with ⟨rfl,hR⟩ | ⟨_,s6,L6,_,rfl,S2⟩;(exact ⟨rfl,hR⟩);clear S hE;have S:=Lib.hid S2;clear S2)
  | (with_reducible refine aN (S.out.row).gR rfl (.tmp 20) rfl rfl ?_)
  | (go_at_call 151;(with_reducible refine (HIB.out _).mono ?_);rintro e w7 ⟨rfl,hb⟩;replace S:=Lib.hid (S.out.below hb);clear hb)
  | (go_at_call 152;(with_reducible refine (jy i _ (by omega)).mono ?_);rintro e w8 ⟨rfl,rfl⟩)
  | (go_at_call 150;(with_reducible refine (fJ S.out.ctx 41 (i - 1) false HOK.out).mono ?_);intro e w9 hE;rcases S.out.last hE with ⟨rfl,hR⟩ | ⟨_,s9,L9,_,rfl,S2⟩;(exact ⟨rfl,hR⟩);clear S hE;have S:=Lib.hid S2;clear S2))
 go_end0
 exact S.out.done rfl
end

section
open Go.RowKit Go.Maps
open Dk (av aa)
open Ii (Ino)
section
variable {γ α:Type} {R:Ending→World→Prop} {B:Nat} {b:Blk} {n I:Int} {Ls:List Nat} {w0:World} {K:α→Ending→World→Prop} {l:List (Nat × List Value)} {s:Sto} {m1:Fs.M γ} {f:γ→Fs.M α} {W W':World}
end
end

section
open Go.RowKit Go.Maps
open Dk (av aa)
open Ii (Ino)
section
variable {γ α:Type} {R:Ending→World→Prop} {B:Nat} {b:Blk} {n I:Int} {Ls:List Nat} {w0 w w':World} {K:α→Ending→World→Prop} {l:List (Nat × List Value)} {s:Sto}
theorem Stp.Mw {m1:Fs.M γ} {f:γ→Fs.M α} {K1:γ→Ending→World→Prop} {e:Ending} {X:Nat} {us:List Value} (h:Stp R B b n I Ls w0 K l s (Fs.andThen m1 f) w) (k:Nat) (hx:l[k]?=some (X,us)) (vs:γ→List Value) (hE:Ends B b n I [X] w s m1 K1 e w') (hK:∀ a,K1 a e w'→au w' X (vs a)):
  (e=.panicked [bn B]∧R (.panicked [bn B]) w')∨∃ a s' L,m1 (nv s)=(.ok a,nv s',L)∧K1 a e w'∧Stp R B b n I Ls w0 K (l.set k (X,vs a)) s' (f a) w'∧aB [b.t,X] w w':=by
 obtain ⟨hX1,hX2,hX3⟩:=h.lo.row (X,us) (List.mem_of_getElem? hx)
 have hX2:w0.heap.size≤X:=hX2
 rcases hE with ⟨a,s',L,E,G,C,hK1,O⟩ | ⟨er,F,h0,Br,rfl,O⟩
 ·refine Or.inr ⟨a,s',L,E,hK1,⟨⟨fun y hy=>?_,?_,?_,h.lo.low⟩,C,h.low,fun e' w'' hE=>h.left e' w'' (hE.next E G)⟩,O⟩
  ·obtain ⟨hk,hke⟩:=List.getElem?_eq_some_iff.1 hx
   obtain ⟨j,hj,rfl⟩:=List.getElem_of_mem hy
   rw [List.length_set] at hj
   rw [List.getElem_set]
   by_cases q:k=j
   ·rw [if_pos q]
    exact ⟨hK a hK1,hX2,Nat.lt_of_lt_of_le hX3 O.size⟩
   ·rw [if_neg q]
    obtain ⟨h1,h2,h3⟩:=h.lo.row l[j] (List.getElem_mem hj)
    refine ⟨h1.block (O.block _ h3 ?_),h2,Nat.lt_of_lt_of_le h3 O.size⟩
    have hn:=List.pairwise_iff_getElem.1 h.lo.ne
    have e1:(l.map (·.1))[k]'(by simpa using hk)=X:=by
     simp only [List.getElem_map]
     rw [hke]
    have e2:(l.map (·.1))[j]'(by simpa using hj)=l[j].1:=by simp only [List.getElem_map]
    simp only [List.mem_cons,List.not_mem_nil,or_false]
    rintro (q1 | q1)
    ·have:=h.low b.t (List.mem_cons_of_mem _ b.dX)
     omega
    ·rcases Nat.lt_or_ge k j with c | c
     ·exact hn k j _ _ c (by rw [e1,e2];exact q1.symm)
     ·exact hn j k _ _ (by omega) (by rw [e1,e2];exact q1)
  ·obtain ⟨hk,hke⟩:=List.getElem?_eq_some_iff.1 hx
   have:(l.set k (X,vs a)).map (·.1)=l.map (·.1):=by
    rw [List.map_set]
    apply List.ext_getElem
    ·simp
    ·intro j h1 h2
     rw [List.getElem_set]
     split
     ·rename_i e;subst e;simp [hke]
     ·rfl
   rw [this];exact h.lo.ne
  ·exact h.lo.only.via O (fun i hi=>by
    simp only [List.mem_cons,List.not_mem_nil,or_false] at hi
    rcases hi with rfl | rfl
    ·exact Or.inl (List.mem_cons_self ..)
    ·exact Or.inr hX2)
 ·refine Or.inl ⟨rfl,h.left _ _ (Ends.Kc F h0 Br (h.only O (fun i hi=>?_)))⟩
  simp only [List.mem_cons,List.not_mem_nil,or_false] at hi
  rcases hi with rfl | rfl | rfl
  ·exact Or.inl (List.mem_cons_self ..)
  ·exact Or.inl (List.mem_cons_of_mem _ (List.mem_cons_self ..))
  ·exact Or.inr hX2
end
namespace Fs
theorem dV {α β:Type} {m:M α} {f:α→M β} {V V':View} {L:List Nat} {b:β} (h:andThen m f V=(.ok b,V',L)):∃ a V1 L1 L2,m V=(.ok a,V1,L1)∧f a V1=(.ok b,V',L2)∧L=L1++L2:=by
 unfold andThen at h
 rcases hm:m V with ⟨r,V1,L1⟩
 rw [hm] at h
 cases r with
 | error e=>simp only at h;injection h with h _;cases h
 |
  ok a=>
  simp only at h
  injection h with h1 h2
  injection h2 with h2 h3
  refine ⟨a,V1,L1,(f a V1).2.2,rfl,?_,h3.symm⟩
  rw [← h1,← h2]
theorem Gp {n I:Int} (hD:∀ m,bZ n I m→m≠0):∀ (ks:List Int) (m:Int) {V V':View} {t:Int} {L:List Nat},m≠0→goR n I ks m V=(.ok t,V',L)→t≠0
 |
  [],m,V,V',t,L,hm,h=>by
  rw [goR] at h
  unfold ret at h
  injection h with h _
  injection h with h
  rw [← h];exact hm
 |
  k::ks,m,V,V',t,L,hm,h=>by
  rw [goR] at h
  obtain ⟨p,V1,L1,L2,_,h2,_⟩:=dV h
  split at h2
  ·obtain ⟨t1,V2,L3,L4,h3,h4,_⟩:=dV h2
   obtain ⟨_,V3,L5,L6,_,h6,_⟩:=dV h4
   exact Gp hD ks t1 (hD _ (nP h3)) h6
  ·exact Gp hD ks _ (by assumption) h2
theorem FB {n I:Int} (hD:∀ m,bZ n I m→m≠0) {x:Ino} {i:Int} {V V':View} {z:Ino × Int} {L:List Nat} (h:mC n I x i V=(.ok z,V',L)):z.2≠0:=by
 unfold mC at h
 split at h
 ·obtain ⟨m,V1,L1,L2,h1,h2,_⟩:=dV h
  obtain ⟨t,V2,L3,L4,h3,h4,_⟩:=dV h2
  unfold ret at h4
  injection h4 with h4 _
  injection h4 with h4
  rw [← h4]
  exact Gp hD _ m (hD _ (nP h1)) h3
 ·obtain ⟨t,V2,L3,L4,h3,h4,_⟩:=dV h
  unfold ret at h4
  injection h4 with h4 _
  injection h4 with h4
  rw [← h4]
  exact Gp hD _ _ (by assumption) h3
theorem Ce:∀ (n off:Nat),∀ c∈pieces off n,c.idx*64+c.at1+c.size≤off+n:=by
 intro n
 induction n using Nat.strongRecOn with
 |
  ind n ih=>
  intro off c hc
  by_cases h:n=0
  ·subst h;cases hc
  ·rw [kr off n h] at hc
   have h64:off % 64<64:=Nat.mod_lt _ (by omega)
   rcases List.mem_cons.1 hc with rfl | hc
   ·simp only;omega
   ·have:=ih (n - min n (64 - off % 64)) (by omega) _ c hc
    omega
end Fs
theorem KW {i:Int} (h1:0≤i) (h2:i<1060):Sp.okB i=true:=by
 rcases Sp.kinds i with c | ⟨c1,c2⟩ | ⟨c1,c2⟩ | ⟨c1,c2⟩
 ·omega
 ·exact (Sp.vO c1 c2).1
 ·exact (Sp.vN c1 c2).1
 ·exact (Sp.vM c1 c2).1
theorem Ff (t:List UInt8) (k:Nat):(strOf t).extract 0 k=strOf (t.take k):=by
 unfold strOf
 apply ByteArray.ext
 apply Array.ext'
 simp
theorem Fg (t:List UInt8) (k c:Nat) (hc:t.length≤c):(strOf t).extract k c=strOf (t.drop k):=by
 unfold strOf
 apply ByteArray.ext
 apply Array.ext'
 simp
 rw [List.take_of_length_le (by simp;omega)]
theorem Fs.yA (n I:Int) (c:Fs.Pc) (cs:List Fs.Pc) (x:Ino) (t:List UInt8) {β:Type} (g:Ino→Fs.M β):Fs.andThen (Fs.mS n I (c::cs) x t) g=Fs.andThen (Fs.mC n I x c.idx) fun z=>
  Fs.andThen (Fs.tell (Fs.dL n I z.2)) fun p=>Fs.andThen (Fs.wr z.2.toNat (Pg.br p c.at1 (t.take c.size))) fun _=>Fs.andThen (Fs.mS n I cs z.1 (t.drop c.size)) g:=by
 rw [Fs.mS,Fs.du]
 congr 1
 funext z
 rw [Fs.du]
 congr 1
 funext p
 rw [Fs.du]
end
end Go.Proofs.YtagfoogfpabdfaaGreat
