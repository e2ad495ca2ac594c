/- Texts of the proof. -/
import Derived.Test.YtagfoogfpabdfaaGreatTah
import Derived.Test.YtagfoogfpabdfaaGreatTaf
set_option maxRecDepth 100000
set_option maxHeartbeats 16000000
namespace Go.Proofs.YtagfoogfpabdfaaGreat
section
open Dk (av aa)
open Go.RowKit
open Ii (Ino)
theorem Lx (p:List UInt8) (w:World) (hp:p.length=64):
  Calls Tryz.prog 208 #[an p,.int .i64 0] w fun e w'=>e=.returned (bH (Ii.sB p 0))∧Below w.heap.size w w':=by
 have HS:=Lib.hid (Ed w p 103 hp)
 have Hgk:=Lib.hid (fun (w:World)=>bx p 0 1 w hp (by decide) (by decide))
 have Hgp:=Lib.hid (fun (w:World)=>bx p 2 2 w hp (by decide) (by decide))
 have Hgu:=Lib.hid (fun (w:World)=>bx p 4 2 w hp (by decide) (by decide))
 have Hgl:=Lib.hid (fun (w:World)=>bx p 6 2 w hp (by decide) (by decide))
 have Hgs:=Lib.hid (fun (w:World)=>bx p 8 4 w hp (by decide) (by decide))
 have Hga:=Lib.hid (fun (w:World)=>bx p 12 2 w hp (by decide) (by decide))
 have Hgb:=Lib.hid (fun (w:World)=>bx p 14 2 w hp (by decide) (by decide))
 have Hgc:=Lib.hid (fun (w:World)=>bx p 16 2 w hp (by decide) (by decide))
 have Hgd:=Lib.hid (fun (w:World)=>bx p 18 2 w hp (by decide) (by decide))
 have Hge:=Lib.hid (fun (w:World)=>bx p 20 2 w hp (by decide) (by decide))
 have Hgf:=Lib.hid (fun (w:World)=>bx p 22 2 w hp (by decide) (by decide))
 have HE:Hid (Ii.sB p 0=⟨Pg.ba p 0 1,Pg.ba p 2 2,Pg.ba p 4 2,Pg.ba p 6 2,Pg.ba p 8 4,Pg.ba p 12 2,Pg.ba p 14 2,Pg.ba p 16 2,Pg.ba p 18 2,Pg.ba p 20 2,Pg.ba p 22 2⟩):=Lib.hid rfl
 rw [HE.out]
 clear HE hp
 generalize Pg.ba p 0 1=gk at Hgk ⊢
 generalize Pg.ba p 2 2=gp at Hgp ⊢
 generalize Pg.ba p 4 2=gu at Hgu ⊢
 generalize Pg.ba p 6 2=gl at Hgl ⊢
 generalize Pg.ba p 8 4=gs at Hgs ⊢
 generalize Pg.ba p 12 2=ga at Hga ⊢
 generalize Pg.ba p 14 2=gb at Hgb ⊢
 generalize Pg.ba p 16 2=gc at Hgc ⊢
 generalize Pg.ba p 18 2=gd at Hgd ⊢
 generalize Pg.ba p 20 2=ge at Hge ⊢
 generalize Pg.ba p 22 2=gf at Hgf ⊢
 obtain ⟨y0,HY⟩:∃ y0:Ino,Hid (y0=⟨gk,gp,gu,gl,gs,0,0,0,0,ge,gf⟩):=⟨_,Lib.hid rfl⟩
 unfold an
 go_enter Tryz.func208,Tryz.ntmps208
 go_wp2_with fail
 refine (iD _ _ (by decide) (by decide)).mono ?_
 rintro e w1 ⟨rfl,hw⟩
 have S:Hid (BxS w p w1):=Lib.hid (by rw [← hw];exact HS.out)
 clear hw HS
 go_wp2_with fail
 refine cq (GtS w p y0) (fun i=>i == 29 || i == 30) (fun i=>[an p,.int .i64 0,.int .i64 0,.int .i64 gk,an p,.int .i64 0,.int .i64 2,.int .i64 gp,an p,.int .i64 0,.int .i64 4,.int .i64 gu,an p,.int .i64 0,.int .i64 6,.int .i64 gl,an p,.int .i64 0,.int .i64 8,.int .i64 gs,an p,.int .i64 0,.int .i64 20,.int .i64 ge,an p,.int .i64 0,.int .i64 22,.int .i64 gf,bH y0].getD i undef) (none) (by kernel_rfl) (by kernel_rfl) (⟨BxS.drew S.out,trivial⟩) ?_
 refine ar (i:=0) (d:=some 14) (v:=an p) rfl rfl (by kernel_rfl) (by kernel_rfl) rfl rfl (bf (by kernel_rfl) (.tmp 2) rfl rfl (fun _ _ hS=>hS.1.aK)) ?_
 (try simp only [Act.put,puA,puB,puC])
 refine ar (i:=1) (d:=some 15) (v:=.int .i64 0) rfl rfl (by kernel_rfl) (by kernel_rfl) rfl rfl (ae (by kernel_rfl) ?_) ?_
 ·(intro _ _ _;go_simp) <;> kernel_rfl
 (try simp only [Act.put,puA,puB,puC])
 refine ar (i:=2) (d:=some 16) (v:=.int .i64 0) rfl rfl (by kernel_rfl) (by kernel_rfl) rfl rfl (ae (by kernel_rfl) ?_) ?_
 ·(intro _ _ _;go_simp) <;> kernel_rfl
 (try simp only [Act.put,puA,puB,puC])
 refine ar (i:=3) (d:=some 17) (v:=.int .i64 gk) rfl rfl (by kernel_rfl) (by kernel_rfl) rfl rfl (aR (f:=205) (args:=#[an p,.int .i64 0,.int .i64 1]) (by kernel_rfl) ?_ (fun _ W hS=>(Hgk.out W).mono fun _ _ h=>⟨h.1,GtS.call hS h.2⟩)) ?_
 ·intro _;go_simp
 (try simp only [Act.put,puA,puB,puC])
 refine ar (i:=4) (d:=some 18) (v:=an p) rfl rfl (by kernel_rfl) (by kernel_rfl) rfl rfl (bf (by kernel_rfl) (.tmp 2) rfl rfl (fun _ _ hS=>hS.1.aK)) ?_
 (try simp only [Act.put,puA,puB,puC])
 refine ar (i:=5) (d:=some 19) (v:=.int .i64 0) rfl rfl (by kernel_rfl) (by kernel_rfl) rfl rfl (ae (by kernel_rfl) ?_) ?_
 ·(intro _ _ _;go_simp) <;> kernel_rfl
 (try simp only [Act.put,puA,puB,puC])
 refine ar (i:=6) (d:=some 20) (v:=.int .i64 2) rfl rfl (by kernel_rfl) (by kernel_rfl) rfl rfl (ae (by kernel_rfl) ?_) ?_
 ·(intro _ _ _;go_simp) <;> kernel_rfl
 (try simp only [Act.put,puA,puB,puC])
 refine ar (i:=7) (d:=some 21) (v:=.int .i64 gp) rfl rfl (by kernel_rfl) (by kernel_rfl) rfl rfl (aR (f:=205) (args:=#[an p,.int .i64 2,.int .i64 2]) (by kernel_rfl) ?_ (fun _ W hS=>(Hgp.out W).mono fun _ _ h=>⟨h.1,GtS.call hS h.2⟩)) ?_
 ·intro _;go_simp
 (try simp only [Act.put,puA,puB,puC])
 refine ar (i:=8) (d:=some 22) (v:=an p) rfl rfl (by kernel_rfl) (by kernel_rfl) rfl rfl (bf (by kernel_rfl) (.tmp 2) rfl rfl (fun _ _ hS=>hS.1.aK)) ?_
 (try simp only [Act.put,puA,puB,puC])
 refine ar (i:=9) (d:=some 23) (v:=.int .i64 0) rfl rfl (by kernel_rfl) (by kernel_rfl) rfl rfl (ae (by kernel_rfl) ?_) ?_
 ·(intro _ _ _;go_simp) <;> kernel_rfl
 (try simp only [Act.put,puA,puB,puC])
 refine ar (i:=10) (d:=some 24) (v:=.int .i64 4) rfl rfl (by kernel_rfl) (by kernel_rfl) rfl rfl (ae (by kernel_rfl) ?_) ?_
 ·(intro _ _ _;go_simp) <;> kernel_rfl
 (try simp only [Act.put,puA,puB,puC])
 refine ar (i:=11) (d:=some 25) (v:=.int .i64 gu) rfl rfl (by kernel_rfl) (by kernel_rfl) rfl rfl (aR (f:=205) (args:=#[an p,.int .i64 4,.int .i64 2]) (by kernel_rfl) ?_ (fun _ W hS=>(Hgu.out W).mono fun _ _ h=>⟨h.1,GtS.call hS h.2⟩)) ?_
 ·intro _;go_simp
 (try simp only [Act.put,puA,puB,puC])
 refine ar (i:=12) (d:=some 26) (v:=an p) rfl rfl (by kernel_rfl) (by kernel_rfl) rfl rfl (bf (by kernel_rfl) (.tmp 2) rfl rfl (fun _ _ hS=>hS.1.aK)) ?_
 (try simp only [Act.put,puA,puB,puC])
 refine ar (i:=13) (d:=some 27) (v:=.int .i64 0) rfl rfl (by kernel_rfl) (by kernel_rfl) rfl rfl (ae (by kernel_rfl) ?_) ?_
 ·(intro _ _ _;go_simp) <;> kernel_rfl
 (try simp only [Act.put,puA,puB,puC])
 refine ar (i:=14) (d:=some 28) (v:=.int .i64 6) rfl rfl (by kernel_rfl) (by kernel_rfl) rfl rfl (ae (by kernel_rfl) ?_) ?_
 ·(intro _ _ _;go_simp) <;> kernel_rfl
 (try simp only [Act.put,puA,puB,puC])
 refine ar (i:=15) (d:=some 29) (v:=.int .i64 gl) rfl rfl (by kernel_rfl) (by kernel_rfl) rfl rfl (aR (f:=205) (args:=#[an p,.int .i64 6,.int .i64 2]) (by kernel_rfl) ?_ (fun _ W hS=>(Hgl.out W).mono fun _ _ h=>⟨h.1,GtS.call hS h.2⟩)) ?_
 ·intro _;go_simp
 (try simp only [Act.put,puA,puB,puC])
 refine ar (i:=16) (d:=some 30) (v:=an p) rfl rfl (by kernel_rfl) (by kernel_rfl) rfl rfl (bf (by kernel_rfl) (.tmp 2) rfl rfl (fun _ _ hS=>hS.1.aK)) ?_
 (try simp only [Act.put,puA,puB,puC])
 refine ar (i:=17) (d:=some 31) (v:=.int .i64 0) rfl rfl (by kernel_rfl) (by kernel_rfl) rfl rfl (ae (by kernel_rfl) ?_) ?_
 ·(intro _ _ _;go_simp) <;> kernel_rfl
 (try simp only [Act.put,puA,puB,puC])
 refine ar (i:=18) (d:=some 32) (v:=.int .i64 8) rfl rfl (by kernel_rfl) (by kernel_rfl) rfl rfl (ae (by kernel_rfl) ?_) ?_
 ·(intro _ _ _;go_simp) <;> kernel_rfl
 (try simp only [Act.put,puA,puB,puC])
 refine ar (i:=19) (d:=some 33) (v:=.int .i64 gs) rfl rfl (by kernel_rfl) (by kernel_rfl) rfl rfl (aR (f:=205) (args:=#[an p,.int .i64 8,.int .i64 4]) (by kernel_rfl) ?_ (fun _ W hS=>(Hgs.out W).mono fun _ _ h=>⟨h.1,GtS.call hS h.2⟩)) ?_
 ·intro _;go_simp
 (try simp only [Act.put,puA,puB,puC])
 refine ar (i:=20) (d:=some 34) (v:=an p) rfl rfl (by kernel_rfl) (by kernel_rfl) rfl rfl (bf (by kernel_rfl) (.tmp 2) rfl rfl (fun _ _ hS=>hS.1.aK)) ?_
 (try simp only [Act.put,puA,puB,puC])
 refine ar (i:=21) (d:=some 35) (v:=.int .i64 0) rfl rfl (by kernel_rfl) (by kernel_rfl) rfl rfl (ae (by kernel_rfl) ?_) ?_
 ·(intro _ _ _;go_simp) <;> kernel_rfl
 (try simp only [Act.put,puA,puB,puC])
 refine ar (i:=22) (d:=some 36) (v:=.int .i64 20) rfl rfl (by kernel_rfl) (by kernel_rfl) rfl rfl (ae (by kernel_rfl) ?_) ?_
 ·(intro _ _ _;go_simp) <;> kernel_rfl
 (try simp only [Act.put,puA,puB,puC])
 refine ar (i:=23) (d:=some 37) (v:=.int .i64 ge) rfl rfl (by kernel_rfl) (by kernel_rfl) rfl rfl (aR (f:=205) (args:=#[an p,.int .i64 20,.int .i64 2]) (by kernel_rfl) ?_ (fun _ W hS=>(Hge.out W).mono fun _ _ h=>⟨h.1,GtS.call hS h.2⟩)) ?_
 ·intro _;go_simp
 (try simp only [Act.put,puA,puB,puC])
 refine ar (i:=24) (d:=some 38) (v:=an p) rfl rfl (by kernel_rfl) (by kernel_rfl) rfl rfl (bf (by kernel_rfl) (.tmp 2) rfl rfl (fun _ _ hS=>hS.1.aK)) ?_
 (try simp only [Act.put,puA,puB,puC])
 refine ar (i:=25) (d:=some 39) (v:=.int .i64 0) rfl rfl (by kernel_rfl) (by kernel_rfl) rfl rfl (ae (by kernel_rfl) ?_) ?_
 ·(intro _ _ _;go_simp) <;> kernel_rfl
 (try simp only [Act.put,puA,puB,puC])
 refine ar (i:=26) (d:=some 40) (v:=.int .i64 22) rfl rfl (by kernel_rfl) (by kernel_rfl) rfl rfl (ae (by kernel_rfl) ?_) ?_
 ·(intro _ _ _;go_simp) <;> kernel_rfl
 (try simp only [Act.put,puA,puB,puC])
 refine ar (i:=27) (d:=some 41) (v:=.int .i64 gf) rfl rfl (by kernel_rfl) (by kernel_rfl) rfl rfl (aR (f:=205) (args:=#[an p,.int .i64 22,.int .i64 2]) (by kernel_rfl) ?_ (fun _ W hS=>(Hgf.out W).mono fun _ _ h=>⟨h.1,GtS.call hS h.2⟩)) ?_
 ·intro _;go_simp
 (try simp only [Act.put,puA,puB,puC])
 refine ar (i:=28) (d:=some 42) (v:=bH y0) rfl rfl (by kernel_rfl) (by kernel_rfl) rfl rfl (ae (by kernel_rfl) ?_) ?_
 ·(intro _ _ _;rw [HY.out];go_simp) <;> rfl
 (try simp only [Act.put,puA,puB,puC])
 refine dS (i:=29) (d:=some 6) (fun u s=>∃ g,w.heap.size+1<g∧u=.pointer (some ⟨g,0,none⟩)∧s=some (g,false)) rfl rfl (by kernel_rfl) (by kernel_rfl) rfl (by kernel_rfl) (⟨_,_,w.heap.size+2,by omega,rfl,rfl⟩) (by kernel_rfl) (fun W hS=>eX (v:=.pointer (some ⟨W.heap.size,0,none⟩)) (w':=W.alloc (.cells (aH Ii.zero).toArray 103)) (by go_simp;rfl) ⟨some (W.heap.size,false),⟨W.heap.size,hS.1.out.lt,rfl,rfl⟩,GtS.alloc hS.1⟩) ?_
 rintro _ _ ⟨g,hg,rfl,rfl⟩
 (try simp only [Act.put,puA,puB,puC])
 refine dS (i:=30) (d:=none) (fun u s=>u=undef∧s=some (g,true)) rfl rfl (by kernel_rfl) (by kernel_rfl) rfl (by kernel_rfl) (⟨_,_,rfl,rfl⟩) (by kernel_rfl) (fun W hS=>bA cz hS.2.2 rfl rfl (aJ y0) (.tmp 6) (.tmp 42) rfl rfl rfl ⟨some (g,true),⟨rfl,rfl⟩,GtS.put hS⟩) ?_
 rintro _ _ ⟨rfl,rfl⟩
 (try simp only [Act.put,puA,puB,puC])
 refine fz (by kernel_rfl) ?_
 intro W2 hS
 have S2:Hid (BxS w p W2):=Lib.hid hS.1
 have R2:Hid (au W2 g (aH ⟨gk,gp,gu,gl,gs,0,0,0,0,ge,gf⟩)):=Lib.hid (by rw [← HY.out];exact hS.2.2)
 have HG:=Lib.hid hg
 clear hS S hg HY
 go_wp2_with fail
 go_loopw [43] (fun i wr=>∃ k:Nat,k≤4∧i=.int .i64 (k:Int)∧BxS w p wr∧au wr g (aH ⟨gk,gp,gu,gl,gs,if k<1 then 0 else ga,if k<2 then 0 else gb,if k<3 then 0 else gc,if k<4 then 0 else gd,ge,gf⟩)) (fun i _=>4 - (intOf i).toNat)
 case atStart=>exact ⟨0,by omega,rfl,S2.out,R2.out⟩
 case round=>
  clear S2 R2
  obtain ⟨k,hk,rfl,hS,hR⟩:=hrel
  have hk:k=0∨k=1∨k=2∨k=3∨k=4:=by omega
  rcases hk with rfl | rfl | rfl | rfl | rfl
  ·have S2:=Lib.hid hS
   have R2:Hid (au wr g (aH ⟨gk,gp,gu,gl,gs,0,0,0,0,ge,gf⟩)):=Lib.hid hR
   clear hS hR
   go_wp2_with (first
    | (with_reducible refine ah S2.out.aK rfl (.tmp 2) rfl rfl ?_)
    | (go_at_call 205;refine (Hga.out _).mono ?_;rintro e w' ⟨rfl,hb⟩;replace R2:=Lib.hid (au.step R2.out hb);replace S2:=Lib.hid (S2.out.call hb);clear hb;have hcc:=R2.out.cell 5 _ rfl;have hff:=R2.out.frozen 5 (show 5<11 by decide)))
   have R3:Hid (au (w'.setCell ⟨g,5,none⟩ (.int .i64 ga)) g (aH ⟨gk,gp,gu,gl,gs,ga,0,0,0,ge,gf⟩)):=Lib.hid (au.dH R2.out 5 (.int .i64 ga) (show 5<11 by decide))
   have S3:=Lib.hid (S2.out.mB g 5 (.int .i64 ga) HG.out)
   clear S2 R2
   go_roundw
   case rel=>exact ⟨1,by omega,rfl,S3.out,R3.out⟩
   case measure=>simp [intOf]
  ·have S2:=Lib.hid hS
   have R2:Hid (au wr g (aH ⟨gk,gp,gu,gl,gs,ga,0,0,0,ge,gf⟩)):=Lib.hid hR
   clear hS hR
   go_wp2_with (first
    | (with_reducible refine ah S2.out.aK rfl (.tmp 2) rfl rfl ?_)
    | (go_at_call 205;refine (Hgb.out _).mono ?_;rintro e w' ⟨rfl,hb⟩;replace R2:=Lib.hid (au.step R2.out hb);replace S2:=Lib.hid (S2.out.call hb);clear hb;have hcc:=R2.out.cell 6 _ rfl;have hff:=R2.out.frozen 6 (show 6<11 by decide)))
   have R3:Hid (au (w'.setCell ⟨g,6,none⟩ (.int .i64 gb)) g (aH ⟨gk,gp,gu,gl,gs,ga,gb,0,0,ge,gf⟩)):=Lib.hid (au.dH R2.out 6 (.int .i64 gb) (show 6<11 by decide))
   have S3:=Lib.hid (S2.out.mB g 6 (.int .i64 gb) HG.out)
   clear S2 R2
   go_roundw
   case rel=>exact ⟨2,by omega,rfl,S3.out,R3.out⟩
   case measure=>simp [intOf]
  ·have S2:=Lib.hid hS
   have R2:Hid (au wr g (aH ⟨gk,gp,gu,gl,gs,ga,gb,0,0,ge,gf⟩)):=Lib.hid hR
   clear hS hR
   go_wp2_with (first
    | (with_reducible refine ah S2.out.aK rfl (.tmp 2) rfl rfl ?_)
    | (go_at_call 205;refine (Hgc.out _).mono ?_;rintro e w' ⟨rfl,hb⟩;replace R2:=Lib.hid (au.step R2.out hb);replace S2:=Lib.hid (S2.out.call hb);clear hb;have hcc:=R2.out.cell 7 _ rfl;have hff:=R2.out.frozen 7 (show 7<11 by decide)))
   have R3:Hid (au (w'.setCell ⟨g,7,none⟩ (.int .i64 gc)) g (aH ⟨gk,gp,gu,gl,gs,ga,gb,gc,0,ge,gf⟩)):=Lib.hid (au.dH R2.out 7 (.int .i64 gc) (show 7<11 by decide))
   have S3:=Lib.hid (S2.out.mB g 7 (.int .i64 gc) HG.out)
   clear S2 R2
   go_roundw
   case rel=>exact ⟨3,by omega,rfl,S3.out,R3.out⟩
   case measure=>simp [intOf]
  ·have S2:=Lib.hid hS
   have R2:Hid (au wr g (aH ⟨gk,gp,gu,gl,gs,ga,gb,gc,0,ge,gf⟩)):=Lib.hid hR
   clear hS hR
   go_wp2_with (first
    | (with_reducible refine ah S2.out.aK rfl (.tmp 2) rfl rfl ?_)
    | (go_at_call 205;refine (Hgd.out _).mono ?_;rintro e w' ⟨rfl,hb⟩;replace R2:=Lib.hid (au.step R2.out hb);replace S2:=Lib.hid (S2.out.call hb);clear hb;have hcc:=R2.out.cell 8 _ rfl;have hff:=R2.out.frozen 8 (show 8<11 by decide)))
   have R3:Hid (au (w'.setCell ⟨g,8,none⟩ (.int .i64 gd)) g (aH ⟨gk,gp,gu,gl,gs,ga,gb,gc,gd,ge,gf⟩)):=Lib.hid (au.dH R2.out 8 (.int .i64 gd) (show 8<11 by decide))
   have S3:=Lib.hid (S2.out.mB g 8 (.int .i64 gd) HG.out)
   clear S2 R2
   go_roundw
   case rel=>exact ⟨4,by omega,rfl,S3.out,R3.out⟩
   case measure=>simp [intOf]
  ·have S2:=Lib.hid hS
   have R2:Hid (au wr g (aH ⟨gk,gp,gu,gl,gs,ga,gb,gc,gd,ge,gf⟩)):=Lib.hid hR
   clear hS hR
   go_wp2_with (first
    | (with_reducible refine af cz R2.out rfl rfl (.tmp 6) rfl rfl ?_)
    | ((with_reducible refine ak cz (vs:=aH ⟨gk,gp,gu,gl,gs,ga,gb,gc,gd,ge,gf⟩) S2.out.out rfl rfl (aJ _) rfl (.tmp 4) (.tmp 57) rfl rfl ?_ ?_);(exact rfl)))
   exact bodyPost_ret (aC cz _ 4 rfl _ (S2.out.back _).1 rfl rfl) rfl ⟨rfl,(S2.out.back _).2⟩
theorem Lw (p:List UInt8) (w:World) (hp:p.length=64):
  Calls Tryz.prog 208 #[an p,.int .i64 1] w fun e w'=>e=.returned (bH (Ii.sB p 32))∧Below w.heap.size w w':=by
 have HS:=Lib.hid (Ed w p 103 hp)
 have Hgk:=Lib.hid (fun (w:World)=>bx p 32 1 w hp (by decide) (by decide))
 have Hgp:=Lib.hid (fun (w:World)=>bx p 34 2 w hp (by decide) (by decide))
 have Hgu:=Lib.hid (fun (w:World)=>bx p 36 2 w hp (by decide) (by decide))
 have Hgl:=Lib.hid (fun (w:World)=>bx p 38 2 w hp (by decide) (by decide))
 have Hgs:=Lib.hid (fun (w:World)=>bx p 40 4 w hp (by decide) (by decide))
 have Hga:=Lib.hid (fun (w:World)=>bx p 44 2 w hp (by decide) (by decide))
 have Hgb:=Lib.hid (fun (w:World)=>bx p 46 2 w hp (by decide) (by decide))
 have Hgc:=Lib.hid (fun (w:World)=>bx p 48 2 w hp (by decide) (by decide))
 have Hgd:=Lib.hid (fun (w:World)=>bx p 50 2 w hp (by decide) (by decide))
 have Hge:=Lib.hid (fun (w:World)=>bx p 52 2 w hp (by decide) (by decide))
 have Hgf:=Lib.hid (fun (w:World)=>bx p 54 2 w hp (by decide) (by decide))
 have HE:Hid (Ii.sB p 32=⟨Pg.ba p 32 1,Pg.ba p 34 2,Pg.ba p 36 2,Pg.ba p 38 2,Pg.ba p 40 4,Pg.ba p 44 2,Pg.ba p 46 2,Pg.ba p 48 2,Pg.ba p 50 2,Pg.ba p 52 2,Pg.ba p 54 2⟩):=Lib.hid rfl
 rw [HE.out]
 clear HE hp
 generalize Pg.ba p 32 1=gk at Hgk ⊢
 generalize Pg.ba p 34 2=gp at Hgp ⊢
 generalize Pg.ba p 36 2=gu at Hgu ⊢
 generalize Pg.ba p 38 2=gl at Hgl ⊢
 generalize Pg.ba p 40 4=gs at Hgs ⊢
 generalize Pg.ba p 44 2=ga at Hga ⊢
 generalize Pg.ba p 46 2=gb at Hgb ⊢
 generalize Pg.ba p 48 2=gc at Hgc ⊢
 generalize Pg.ba p 50 2=gd at Hgd ⊢
 generalize Pg.ba p 52 2=ge at Hge ⊢
 generalize Pg.ba p 54 2=gf at Hgf ⊢
 obtain ⟨y0,HY⟩:∃ y0:Ino,Hid (y0=⟨gk,gp,gu,gl,gs,0,0,0,0,ge,gf⟩):=⟨_,Lib.hid rfl⟩
 unfold an
 go_enter Tryz.func208,Tryz.ntmps208
 go_wp2_with fail
 refine (iD _ _ (by decide) (by decide)).mono ?_
 rintro e w1 ⟨rfl,hw⟩
 have S:Hid (BxS w p w1):=Lib.hid (by rw [← hw];exact HS.out)
 clear hw HS
 go_wp2_with fail
 refine cq (GtS w p y0) (fun i=>i == 29 || i == 30) (fun i=>[an p,.int .i64 32,.int .i64 32,.int .i64 gk,an p,.int .i64 32,.int .i64 34,.int .i64 gp,an p,.int .i64 32,.int .i64 36,.int .i64 gu,an p,.int .i64 32,.int .i64 38,.int .i64 gl,an p,.int .i64 32,.int .i64 40,.int .i64 gs,an p,.int .i64 32,.int .i64 52,.int .i64 ge,an p,.int .i64 32,.int .i64 54,.int .i64 gf,bH y0].getD i undef) (none) (by kernel_rfl) (by kernel_rfl) (⟨BxS.drew S.out,trivial⟩) ?_
 refine ar (i:=0) (d:=some 14) (v:=an p) rfl rfl (by kernel_rfl) (by kernel_rfl) rfl rfl (bf (by kernel_rfl) (.tmp 2) rfl rfl (fun _ _ hS=>hS.1.aK)) ?_
 (try simp only [Act.put,puA,puB,puC])
 refine ar (i:=1) (d:=some 15) (v:=.int .i64 32) rfl rfl (by kernel_rfl) (by kernel_rfl) rfl rfl (ae (by kernel_rfl) ?_) ?_
 ·(intro _ _ _;go_simp) <;> kernel_rfl
 (try simp only [Act.put,puA,puB,puC])
 refine ar (i:=2) (d:=some 16) (v:=.int .i64 32) rfl rfl (by kernel_rfl) (by kernel_rfl) rfl rfl (ae (by kernel_rfl) ?_) ?_
 ·(intro _ _ _;go_simp) <;> kernel_rfl
 (try simp only [Act.put,puA,puB,puC])
 refine ar (i:=3) (d:=some 17) (v:=.int .i64 gk) rfl rfl (by kernel_rfl) (by kernel_rfl) rfl rfl (aR (f:=205) (args:=#[an p,.int .i64 32,.int .i64 1]) (by kernel_rfl) ?_ (fun _ W hS=>(Hgk.out W).mono fun _ _ h=>⟨h.1,GtS.call hS h.2⟩)) ?_
 ·intro _;go_simp
 (try simp only [Act.put,puA,puB,puC])
 refine ar (i:=4) (d:=some 18) (v:=an p) rfl rfl (by kernel_rfl) (by kernel_rfl) rfl rfl (bf (by kernel_rfl) (.tmp 2) rfl rfl (fun _ _ hS=>hS.1.aK)) ?_
 (try simp only [Act.put,puA,puB,puC])
 refine ar (i:=5) (d:=some 19) (v:=.int .i64 32) rfl rfl (by kernel_rfl) (by kernel_rfl) rfl rfl (ae (by kernel_rfl) ?_) ?_
 ·(intro _ _ _;go_simp) <;> kernel_rfl
 (try simp only [Act.put,puA,puB,puC])
 refine ar (i:=6) (d:=some 20) (v:=.int .i64 34) rfl rfl (by kernel_rfl) (by kernel_rfl) rfl rfl (ae (by kernel_rfl) ?_) ?_
 ·(intro _ _ _;go_simp) <;> kernel_rfl
 (try simp only [Act.put,puA,puB,puC])
 refine ar (i:=7) (d:=some 21) (v:=.int .i64 gp) rfl rfl (by kernel_rfl) (by kernel_rfl) rfl rfl (aR (f:=205) (args:=#[an p,.int .i64 34,.int .i64 2]) (by kernel_rfl) ?_ (fun _ W hS=>(Hgp.out W).mono fun _ _ h=>⟨h.1,GtS.call hS h.2⟩)) ?_
 ·intro _;go_simp
 (try simp only [Act.put,puA,puB,puC])
 refine ar (i:=8) (d:=some 22) (v:=an p) rfl rfl (by kernel_rfl) (by kernel_rfl) rfl rfl (bf (by kernel_rfl) (.tmp 2) rfl rfl (fun _ _ hS=>hS.1.aK)) ?_
 (try simp only [Act.put,puA,puB,puC])
 refine ar (i:=9) (d:=some 23) (v:=.int .i64 32) rfl rfl (by kernel_rfl) (by kernel_rfl) rfl rfl (ae (by kernel_rfl) ?_) ?_
 ·(intro _ _ _;go_simp) <;> kernel_rfl
 (try simp only [Act.put,puA,puB,puC])
 refine ar (i:=10) (d:=some 24) (v:=.int .i64 36) rfl rfl (by kernel_rfl) (by kernel_rfl) rfl rfl (ae (by kernel_rfl) ?_) ?_
 ·(intro _ _ _;go_simp) <;> kernel_rfl
 (try simp only [Act.put,puA,puB,puC])
 refine ar (i:=11) (d:=some 25) (v:=.int .i64 gu) rfl rfl (by kernel_rfl) (by kernel_rfl) rfl rfl (aR (f:=205) (args:=#[an p,.int .i64 36,.int .i64 2]) (by kernel_rfl) ?_ (fun _ W hS=>(Hgu.out W).mono fun _ _ h=>⟨h.1,GtS.call hS h.2⟩)) ?_
 ·intro _;go_simp
 (try simp only [Act.put,puA,puB,puC])
 refine ar (i:=12) (d:=some 26) (v:=an p) rfl rfl (by kernel_rfl) (by kernel_rfl) rfl rfl (bf (by kernel_rfl) (.tmp 2) rfl rfl (fun _ _ hS=>hS.1.aK)) ?_
 (try simp only [Act.put,puA,puB,puC])
 refine ar (i:=13) (d:=some 27) (v:=.int .i64 32) rfl rfl (by kernel_rfl) (by kernel_rfl) rfl rfl (ae (by kernel_rfl) ?_) ?_
 ·(intro _ _ _;go_simp) <;> kernel_rfl
 (try simp only [Act.put,puA,puB,puC])
 refine ar (i:=14) (d:=some 28) (v:=.int .i64 38) rfl rfl (by kernel_rfl) (by kernel_rfl) rfl rfl (ae (by kernel_rfl) ?_) ?_
 ·(intro _ _ _;go_simp) <;> kernel_rfl
 (try simp only [Act.put,puA,puB,puC])
 refine ar (i:=15) (d:=some 29) (v:=.int .i64 gl) rfl rfl (by kernel_rfl) (by kernel_rfl) rfl rfl (aR (f:=205) (args:=#[an p,.int .i64 38,.int .i64 2]) (by kernel_rfl) ?_ (fun _ W hS=>(Hgl.out W).mono fun _ _ h=>⟨h.1,GtS.call hS h.2⟩)) ?_
 ·intro _;go_simp
 (try simp only [Act.put,puA,puB,puC])
 refine ar (i:=16) (d:=some 30) (v:=an p) rfl rfl (by kernel_rfl) (by kernel_rfl) rfl rfl (bf (by kernel_rfl) (.tmp 2) rfl rfl (fun _ _ hS=>hS.1.aK)) ?_
 (try simp only [Act.put,puA,puB,puC])
 refine ar (i:=17) (d:=some 31) (v:=.int .i64 32) rfl rfl (by kernel_rfl) (by kernel_rfl) rfl rfl (ae (by kernel_rfl) ?_) ?_
 ·(intro _ _ _;go_simp) <;> kernel_rfl
 (try simp only [Act.put,puA,puB,puC])
 refine ar (i:=18) (d:=some 32) (v:=.int .i64 40) rfl rfl (by kernel_rfl) (by kernel_rfl) rfl rfl (ae (by kernel_rfl) ?_) ?_
 ·(intro _ _ _;go_simp) <;> kernel_rfl
 (try simp only [Act.put,puA,puB,puC])
 refine ar (i:=19) (d:=some 33) (v:=.int .i64 gs) rfl rfl (by kernel_rfl) (by kernel_rfl) rfl rfl (aR (f:=205) (args:=#[an p,.int .i64 40,.int .i64 4]) (by kernel_rfl) ?_ (fun _ W hS=>(Hgs.out W).mono fun _ _ h=>⟨h.1,GtS.call hS h.2⟩)) ?_
 ·intro _;go_simp
 (try simp only [Act.put,puA,puB,puC])
 refine ar (i:=20) (d:=some 34) (v:=an p) rfl rfl (by kernel_rfl) (by kernel_rfl) rfl rfl (bf (by kernel_rfl) (.tmp 2) rfl rfl (fun _ _ hS=>hS.1.aK)) ?_
 (try simp only [Act.put,puA,puB,puC])
 refine ar (i:=21) (d:=some 35) (v:=.int .i64 32) rfl rfl (by kernel_rfl) (by kernel_rfl) rfl rfl (ae (by kernel_rfl) ?_) ?_
 ·(intro _ _ _;go_simp) <;> kernel_rfl
 (try simp only [Act.put,puA,puB,puC])
 refine ar (i:=22) (d:=some 36) (v:=.int .i64 52) rfl rfl (by kernel_rfl) (by kernel_rfl) rfl rfl (ae (by kernel_rfl) ?_) ?_
 ·(intro _ _ _;go_simp) <;> kernel_rfl
 (try simp only [Act.put,puA,puB,puC])
 refine ar (i:=23) (d:=some 37) (v:=.int .i64 ge) rfl rfl (by kernel_rfl) (by kernel_rfl) rfl rfl (aR (f:=205) (args:=#[an p,.int .i64 52,.int .i64 2]) (by kernel_rfl) ?_ (fun _ W hS=>(Hge.out W).mono fun _ _ h=>⟨h.1,GtS.call hS h.2⟩)) ?_
 ·intro _;go_simp
 (try simp only [Act.put,puA,puB,puC])
 refine ar (i:=24) (d:=some 38) (v:=an p) rfl rfl (by kernel_rfl) (by kernel_rfl) rfl rfl (bf (by kernel_rfl) (.tmp 2) rfl rfl (fun _ _ hS=>hS.1.aK)) ?_
 (try simp only [Act.put,puA,puB,puC])
 refine ar (i:=25) (d:=some 39) (v:=.int .i64 32) rfl rfl (by kernel_rfl) (by kernel_rfl) rfl rfl (ae (by kernel_rfl) ?_) ?_
 ·(intro _ _ _;go_simp) <;> kernel_rfl
 (try simp only [Act.put,puA,puB,puC])
 refine ar (i:=26) (d:=some 40) (v:=.int .i64 54) rfl rfl (by kernel_rfl) (by kernel_rfl) rfl rfl (ae (by kernel_rfl) ?_) ?_
 ·(intro _ _ _;go_simp) <;> kernel_rfl
 (try simp only [Act.put,puA,puB,puC])
 refine ar (i:=27) (d:=some 41) (v:=.int .i64 gf) rfl rfl (by kernel_rfl) (by kernel_rfl) rfl rfl (aR (f:=205) (args:=#[an p,.int .i64 54,.int .i64 2]) (by kernel_rfl) ?_ (fun _ W hS=>(Hgf.out W).mono fun _ _ h=>⟨h.1,GtS.call hS h.2⟩)) ?_
 ·intro _;go_simp
 (try simp only [Act.put,puA,puB,puC])
 refine ar (i:=28) (d:=some 42) (v:=bH y0) rfl rfl (by kernel_rfl) (by kernel_rfl) rfl rfl (ae (by kernel_rfl) ?_) ?_
 ·(intro _ _ _;rw [HY.out];go_simp) <;> rfl
 (try simp only [Act.put,puA,puB,puC])
 refine dS (i:=29) (d:=some 6) (fun u s=>∃ g,w.heap.size+1<g∧u=.pointer (some ⟨g,0,none⟩)∧s=some (g,false)) rfl rfl (by kernel_rfl) (by kernel_rfl) rfl (by kernel_rfl) (⟨_,_,w.heap.size+2,by omega,rfl,rfl⟩) (by kernel_rfl) (fun W hS=>eX (v:=.pointer (some ⟨W.heap.size,0,none⟩)) (w':=W.alloc (.cells (aH Ii.zero).toArray 103)) (by go_simp;rfl) ⟨some (W.heap.size,false),⟨W.heap.size,hS.1.out.lt,rfl,rfl⟩,GtS.alloc hS.1⟩) ?_
 rintro _ _ ⟨g,hg,rfl,rfl⟩
 (try simp only [Act.put,puA,puB,puC])
 refine dS (i:=30) (d:=none) (fun u s=>u=undef∧s=some (g,true)) rfl rfl (by kernel_rfl) (by kernel_rfl) rfl (by kernel_rfl) (⟨_,_,rfl,rfl⟩) (by kernel_rfl) (fun W hS=>bA cz hS.2.2 rfl rfl (aJ y0) (.tmp 6) (.tmp 42) rfl rfl rfl ⟨some (g,true),⟨rfl,rfl⟩,GtS.put hS⟩) ?_
 rintro _ _ ⟨rfl,rfl⟩
 (try simp only [Act.put,puA,puB,puC])
 refine fz (by kernel_rfl) ?_
 intro W2 hS
 have S2:Hid (BxS w p W2):=Lib.hid hS.1
 have R2:Hid (au W2 g (aH ⟨gk,gp,gu,gl,gs,0,0,0,0,ge,gf⟩)):=Lib.hid (by rw [← HY.out];exact hS.2.2)
 have HG:=Lib.hid hg
 clear hS S hg HY
 go_wp2_with fail
 go_loopw [43] (fun i wr=>∃ k:Nat,k≤4∧i=.int .i64 (k:Int)∧BxS w p wr∧au wr g (aH ⟨gk,gp,gu,gl,gs,if k<1 then 0 else ga,if k<2 then 0 else gb,if k<3 then 0 else gc,if k<4 then 0 else gd,ge,gf⟩)) (fun i _=>4 - (intOf i).toNat)
 case atStart=>exact ⟨0,by omega,rfl,S2.out,R2.out⟩
 case round=>
  clear S2 R2
  obtain ⟨k,hk,rfl,hS,hR⟩:=hrel
  have hk:k=0∨k=1∨k=2∨k=3∨k=4:=by omega
  rcases hk with rfl | rfl | rfl | rfl | rfl
  ·have S2:=Lib.hid hS
   have R2:Hid (au wr g (aH ⟨gk,gp,gu,gl,gs,0,0,0,0,ge,gf⟩)):=Lib.hid hR
   clear hS hR
   go_wp2_with (first
    | (with_reducible refine ah S2.out.aK rfl (.tmp 2) rfl rfl ?_)
    | (go_at_call 205;refine (Hga.out _).mono ?_;rintro e w' ⟨rfl,hb⟩;replace R2:=Lib.hid (au.step R2.out hb);replace S2:=Lib.hid (S2.out.call hb);clear hb;have hcc:=R2.out.cell 5 _ rfl;have hff:=R2.out.frozen 5 (show 5<11 by decide)))
   have R3:Hid (au (w'.setCell ⟨g,5,none⟩ (.int .i64 ga)) g (aH ⟨gk,gp,gu,gl,gs,ga,0,0,0,ge,gf⟩)):=Lib.hid (au.dH R2.out 5 (.int .i64 ga) (show 5<11 by decide))
   have S3:=Lib.hid (S2.out.mB g 5 (.int .i64 ga) HG.out)
   clear S2 R2
   go_roundw
   case rel=>exact ⟨1,by omega,rfl,S3.out,R3.out⟩
   case measure=>simp [intOf]
  ·have S2:=Lib.hid hS
   have R2:Hid (au wr g (aH ⟨gk,gp,gu,gl,gs,ga,0,0,0,ge,gf⟩)):=Lib.hid hR
   clear hS hR
   go_wp2_with (first
    | (with_reducible refine ah S2.out.aK rfl (.tmp 2) rfl rfl ?_)
    | (go_at_call 205;refine (Hgb.out _).mono ?_;rintro e w' ⟨rfl,hb⟩;replace R2:=Lib.hid (au.step R2.out hb);replace S2:=Lib.hid (S2.out.call hb);clear hb;have hcc:=R2.out.cell 6 _ rfl;have hff:=R2.out.frozen 6 (show 6<11 by decide)))
   have R3:Hid (au (w'.setCell ⟨g,6,none⟩ (.int .i64 gb)) g (aH ⟨gk,gp,gu,gl,gs,ga,gb,0,0,ge,gf⟩)):=Lib.hid (au.dH R2.out 6 (.int .i64 gb) (show 6<11 by decide))
   have S3:=Lib.hid (S2.out.mB g 6 (.int .i64 gb) HG.out)
   clear S2 R2
   go_roundw
   case rel=>exact ⟨2,by omega,rfl,S3.out,R3.out⟩
   case measure=>simp [intOf]
  ·have S2:=Lib.hid hS
   have R2:Hid (au wr g (aH ⟨gk,gp,gu,gl,gs,ga,gb,0,0,ge,gf⟩)):=Lib.hid hR
   clear hS hR
   go_wp2_with (first
    | (with_reducible refine ah S2.out.aK rfl (.tmp 2) rfl rfl ?_)
    | (go_at_call 205;refine (Hgc.out _).mono ?_;rintro e w' ⟨rfl,hb⟩;replace R2:=Lib.hid (au.step R2.out hb);replace S2:=Lib.hid (S2.out.call hb);clear hb;have hcc:=R2.out.cell 7 _ rfl;have hff:=R2.out.frozen 7 (show 7<11 by decide)))
   have R3:Hid (au (w'.setCell ⟨g,7,none⟩ (.int .i64 gc)) g (aH ⟨gk,gp,gu,gl,gs,ga,gb,gc,0,ge,gf⟩)):=Lib.hid (au.dH R2.out 7 (.int .i64 gc) (show 7<11 by decide))
   have S3:=Lib.hid (S2.out.mB g 7 (.int .i64 gc) HG.out)
   clear S2 R2
   go_roundw
   case rel=>exact ⟨3,by omega,rfl,S3.out,R3.out⟩
   case measure=>simp [intOf]
  ·have S2:=Lib.hid hS
   have R2:Hid (au wr g (aH ⟨gk,gp,gu,gl,gs,ga,gb,gc,0,ge,gf⟩)):=Lib.hid hR
   clear hS hR
   go_wp2_with (first
    | (with_reducible refine ah S2.out.aK rfl (.tmp 2) rfl rfl ?_)
    | (go_at_call 205;refine (Hgd.out _).mono ?_;rintro e w' ⟨rfl,hb⟩;replace R2:=Lib.hid (au.step R2.out hb);replace S2:=Lib.hid (S2.out.call hb);clear hb;have hcc:=R2.out.cell 8 _ rfl;have hff:=R2.out.frozen 8 (show 8<11 by decide)))
   have R3:Hid (au (w'.setCell ⟨g,8,none⟩ (.int .i64 gd)) g (aH ⟨gk,gp,gu,gl,gs,ga,gb,gc,gd,ge,gf⟩)):=Lib.hid (au.dH R2.out 8 (.int .i64 gd) (show 8<11 by decide))
   have S3:=Lib.hid (S2.out.mB g 8 (.int .i64 gd) HG.out)
   clear S2 R2
   go_roundw
   case rel=>exact ⟨4,by omega,rfl,S3.out,R3.out⟩
   case measure=>simp [intOf]
  ·have S2:=Lib.hid hS
   have R2:Hid (au wr g (aH ⟨gk,gp,gu,gl,gs,ga,gb,gc,gd,ge,gf⟩)):=Lib.hid hR
   clear hS hR
   go_wp2_with (first
    | (with_reducible refine af cz R2.out rfl rfl (.tmp 6) rfl rfl ?_)
    | ((with_reducible refine ak cz (vs:=aH ⟨gk,gp,gu,gl,gs,ga,gb,gc,gd,ge,gf⟩) S2.out.out rfl rfl (aJ _) rfl (.tmp 4) (.tmp 57) rfl rfl ?_ ?_);(exact rfl)))
   exact bodyPost_ret (aC cz _ 4 rfl _ (S2.out.back _).1 rfl rfl) rfl ⟨rfl,(S2.out.back _).2⟩
end

section
open Dk (av aa)
open Go.RowKit
open Ii (Ino)
theorem An (x:Ino) (w:World):
  Calls Tryz.prog 165 #[bH x] w fun e w'=>e=.returned (.bool (Ii.JZ x))∧Below w.heap.size w w':=by
 have HE:Ii.JZ x=(decide (0≤x.p∧x.p≤511) && (decide (0≤x.u∧x.u≤65535) && (decide (0≤x.l∧x.l≤40) && decide (0≤x.s∧x.s≤67840)))):=by
  unfold Ii.JZ
  simp only [Bool.decide_and,Bool.and_assoc]
 rw [HE]
 clear HE
 have H1:=Lib.hid (fun w=>nk 511 x.p w)
 have H2:=Lib.hid (fun w=>nk 65535 x.u w)
 have H3:=Lib.hid (fun w=>nk 40 x.l w)
 have H4:=Lib.hid (fun w=>nk 67840 x.s w)
 generalize decide (0≤x.p∧x.p≤511)=b1 at H1 ⊢
 generalize decide (0≤x.u∧x.u≤65535)=b2 at H2 ⊢
 generalize decide (0≤x.l∧x.l≤40)=b3 at H3 ⊢
 generalize decide (0≤x.s∧x.s≤67840)=b4 at H4 ⊢
 have hrow:=bh w (aH x) 103
 have hbel:Below w.heap.size w (w.alloc (.cells (aH x).toArray 103)):=(Below.refl _ _).alloc (Nat.le_refl _) _
 rcases (by cases b1 <;> cases b2 <;> cases b3 <;> simp:b1=false∨(b1=true∧b2=false)∨(b1=true∧b2=true∧b3=false)∨(b1=true∧b2=true∧b3=true)) with rfl | ⟨rfl,rfl⟩ | ⟨rfl,rfl,rfl⟩ | ⟨rfl,rfl,rfl⟩
 all_goals
  simp only [Bool.false_and,Bool.true_and]
  unfold bH
  go_enter Tryz.func165,Tryz.ntmps165
  go_wp2_with fail
  generalize hw:w.alloc _=w1
  have HB:Hid (Below w.heap.size w w1):=Lib.hid (by rw [← hw];exact hbel)
  have hr:au w1 w.heap.size (aH x):=by rw [← hw];exact hrow
  have hc1:=hr.cell 1 _ rfl
  have hc2:=hr.cell 2 _ rfl
  have hc3:=hr.cell 3 _ rfl
  have hc4:=hr.cell 4 _ rfl
  clear hw hrow hbel hr
  go_wp2_with (first
   | (go_at_call 212;(with_reducible refine (H1.out _).mono ?_);rintro e w' ⟨rfl,rfl⟩)
   | (go_at_call 212;(with_reducible refine (H2.out _).mono ?_);rintro e w' ⟨rfl,rfl⟩)
   | (go_at_call 212;(with_reducible refine (H3.out _).mono ?_);rintro e w' ⟨rfl,rfl⟩)
   | (go_at_call 212;(with_reducible refine (H4.out _).mono ?_);rintro e w' ⟨rfl,rfl⟩))
  go_ret
  exact ⟨rfl,HB.out⟩
def ee (p i:Int) (x:Ino):Nat→Bool
 | 0=>true
 | k+1=>ee p i x k && Ii.gN p i (x.dir k)
theorem xK (p i:Int) (x:Ino):Ii.rN p i x=(ee p i x 4 && (Ii.gN p i x.e && Ii.gN p i x.f)):=by
 unfold Ii.rN ee ee ee ee ee
 simp only [Ii.Ino.dir,Bool.true_and,Bool.and_assoc]
theorem nB (p i:Int) (x:Ino) (k:Nat) (hk:k<4) (h:Ii.gN p i (x.dir k)=false):Ii.rN p i x=false:=by
 rw [xK]
 have:k=0∨k=1∨k=2∨k=3:=by omega
 rcases this with rfl | rfl | rfl | rfl <;> (unfold ee ee ee ee ee;rw [h];simp)
structure NrS (w0:World) (x:Ino) (vs:List Value) (W:World):Prop where
 ino:au W w0.heap.size (aH x)
 gR:au W (w0.heap.size+1) vs
 below:Below w0.heap.size w0 W
theorem NrS.call {w0:World} {x:Ino} {v:Value} {vs:List Value} {W W':World} (k:NrS w0 x (v::vs) W) (hb:Below W.heap.size W W'):NrS w0 x (v::vs) W':=
 ⟨au.step k.ino hb,au.step k.gR hb,k.below.trans (hb.mono k.below.size)⟩
theorem oK (w:World) (x:Ino) (vs:List Value) (t u:TypeId):NrS w x vs ((w.alloc (.cells (aH x).toArray t)).alloc (.cells vs.toArray u)) where
 ino:=(bh w (aH x) t).alloc _
 gR:=by
  have h:=bh (w.alloc (.cells (aH x).toArray t)) vs u
  rw [World.size_alloc] at h
  exact h
 below:=((Below.refl _ _).alloc (Nat.le_refl _) _).alloc (by simp) _
theorem vQ (p i:Int) (x:Ino) (w:World) (h:Pl.aA p i=true):
  Calls Tryz.prog 166 #[bH x,bz p i] w fun e w'=>e=.returned (.bool (Ii.rN p i x))∧Below w.heap.size w w':=by
 have HN:Hid (∀ n w,Calls Tryz.prog 213 #[.int .i64 n,.agg (bc p i).toArray] w fun e w'=>e=.returned (.bool (Ii.gN p i n))∧Below w.heap.size w w'):=Lib.hid (fun n w=>oI p i n w h)
 have HS:=Lib.hid (oK w x (bc p i) 103 132)
 clear h
 unfold bH bz
 go_enter Tryz.func166,Tryz.ntmps166
 go_wp2_with fail
 generalize hw:(w.alloc _).alloc _=w1
 have S:Hid (NrS w x (bc p i) w1):=Lib.hid (by rw [← hw];exact HS.out)
 clear hw HS
 go_wp2_with (with_reducible refine fm S.out.ino rfl (.tmp 7) rfl rfl ?_)
 go_loopw [9] (fun n wr=>∃ k:Nat,k≤4∧n=.int .i64 (k:Int)∧Hid (ee p i x k=true)∧NrS w x (bc p i) wr) (fun n _=>4 - (intOf n).toNat)
 case atStart=>exact ⟨0,by omega,rfl,Lib.hid rfl,S.out⟩
 case round=>
  clear S
  obtain ⟨k,hk,rfl,HF,hS⟩:=hrel
  have S:=Lib.hid hS
  clear hS
  have hk:k=0∨k=1∨k=2∨k=3∨k=4:=by omega
  rcases hk with rfl | rfl | rfl | rfl | rfl
  ·have hix:=fun W=>iH x W
   have H5:=Lib.hid (fun w=>HN.out x.a w)
   cases hb5:Ii.gN p i x.a with
   |
    false=>
    have HE:=Lib.hid (nB p i x 0 (by omega) hb5)
    rw [hb5] at H5
    clear hb5 HN HF
    go_wp2_with (first
     | (with_reducible refine af fc S.out.gR rfl rfl (.tmp 3) rfl rfl ?_)
     | (go_at_call 213;(with_reducible refine (H5.out _).mono ?_);rintro e w' ⟨rfl,hb⟩;replace S:=Lib.hid (S.out.call hb);clear hb))
    go_ret
    exact ⟨by rw [HE.out];rfl,S.out.below⟩
   |
    true=>
    have HF2:Hid (ee p i x 1=true):=Lib.hid (by
     unfold ee
     rw [HF.out]
     exact hb5)
    rw [hb5] at H5
    clear hb5 HN HF
    go_wp2_with (first
     | (with_reducible refine af fc S.out.gR rfl rfl (.tmp 3) rfl rfl ?_)
     | (go_at_call 213;(with_reducible refine (H5.out _).mono ?_);rintro e w' ⟨rfl,hb⟩;replace S:=Lib.hid (S.out.call hb);clear hb))
    go_roundw
    case rel=>exact ⟨1,by omega,rfl,HF2,S.out⟩
    case measure=>simp [intOf]
  ·have hix:=fun W=>iG x W
   have H5:=Lib.hid (fun w=>HN.out x.b w)
   cases hb5:Ii.gN p i x.b with
   |
    false=>
    have HE:=Lib.hid (nB p i x 1 (by omega) hb5)
    rw [hb5] at H5
    clear hb5 HN HF
    go_wp2_with (first
     | (with_reducible refine af fc S.out.gR rfl rfl (.tmp 3) rfl rfl ?_)
     | (go_at_call 213;(with_reducible refine (H5.out _).mono ?_);rintro e w' ⟨rfl,hb⟩;replace S:=Lib.hid (S.out.call hb);clear hb))
    go_ret
    exact ⟨by rw [HE.out];rfl,S.out.below⟩
   |
    true=>
    have HF2:Hid (ee p i x 2=true):=Lib.hid (by
     unfold ee
     rw [HF.out]
     exact hb5)
    rw [hb5] at H5
    clear hb5 HN HF
    go_wp2_with (first
     | (with_reducible refine af fc S.out.gR rfl rfl (.tmp 3) rfl rfl ?_)
     | (go_at_call 213;(with_reducible refine (H5.out _).mono ?_);rintro e w' ⟨rfl,hb⟩;replace S:=Lib.hid (S.out.call hb);clear hb))
    go_roundw
    case rel=>exact ⟨2,by omega,rfl,HF2,S.out⟩
    case measure=>simp [intOf]
  ·have hix:=fun W=>iF x W
   have H5:=Lib.hid (fun w=>HN.out x.c w)
   cases hb5:Ii.gN p i x.c with
   |
    false=>
    have HE:=Lib.hid (nB p i x 2 (by omega) hb5)
    rw [hb5] at H5
    clear hb5 HN HF
    go_wp2_with (first
     | (with_reducible refine af fc S.out.gR rfl rfl (.tmp 3) rfl rfl ?_)
     | (go_at_call 213;(with_reducible refine (H5.out _).mono ?_);rintro e w' ⟨rfl,hb⟩;replace S:=Lib.hid (S.out.call hb);clear hb))
    go_ret
    exact ⟨by rw [HE.out];rfl,S.out.below⟩
   |
    true=>
    have HF2:Hid (ee p i x 3=true):=Lib.hid (by
     unfold ee
     rw [HF.out]
     exact hb5)
    rw [hb5] at H5
    clear hb5 HN HF
    go_wp2_with (first
     | (with_reducible refine af fc S.out.gR rfl rfl (.tmp 3) rfl rfl ?_)
     | (go_at_call 213;(with_reducible refine (H5.out _).mono ?_);rintro e w' ⟨rfl,hb⟩;replace S:=Lib.hid (S.out.call hb);clear hb))
    go_roundw
    case rel=>exact ⟨3,by omega,rfl,HF2,S.out⟩
    case measure=>simp [intOf]
  ·have hix:=fun W=>iE x W
   have H5:=Lib.hid (fun w=>HN.out x.d w)
   cases hb5:Ii.gN p i x.d with
   |
    false=>
    have HE:=Lib.hid (nB p i x 3 (by omega) hb5)
    rw [hb5] at H5
    clear hb5 HN HF
    go_wp2_with (first
     | (with_reducible refine af fc S.out.gR rfl rfl (.tmp 3) rfl rfl ?_)
     | (go_at_call 213;(with_reducible refine (H5.out _).mono ?_);rintro e w' ⟨rfl,hb⟩;replace S:=Lib.hid (S.out.call hb);clear hb))
    go_ret
    exact ⟨by rw [HE.out];rfl,S.out.below⟩
   |
    true=>
    have HF2:Hid (ee p i x 4=true):=Lib.hid (by
     unfold ee
     rw [HF.out]
     exact hb5)
    rw [hb5] at H5
    clear hb5 HN HF
    go_wp2_with (first
     | (with_reducible refine af fc S.out.gR rfl rfl (.tmp 3) rfl rfl ?_)
     | (go_at_call 213;(with_reducible refine (H5.out _).mono ?_);rintro e w' ⟨rfl,hb⟩;replace S:=Lib.hid (S.out.call hb);clear hb))
    go_roundw
    case rel=>exact ⟨4,by omega,rfl,HF2,S.out⟩
    case measure=>simp [intOf]
  ·have HE:Hid (Ii.rN p i x=(Ii.gN p i x.e && Ii.gN p i x.f)):=Lib.hid (by rw [xK,HF.out,Bool.true_and])
   have H5:=Lib.hid (fun w=>HN.out x.e w)
   have H6:Hid (∀ w,Calls Tryz.prog 213 #[.int .i64 x.f,.agg #[.int .i64 p,.int .i64 i]] w fun e w'=>e=.returned (.bool (Ii.gN p i x.f))∧Below w.heap.size w w'):=Lib.hid (fun w=>HN.out x.f w)
   generalize Ii.gN p i x.e=b5 at H5 HE
   generalize Ii.gN p i x.f=b6 at H6 HE
   clear HN HF
   have hc9:=S.out.ino.cell 9 _ rfl
   cases b5
   all_goals
    go_wp2_with (first
     | (with_reducible refine af fc S.out.gR rfl rfl (.tmp 3) rfl rfl ?_)
     | ((with_reducible refine mQ fc S.out.gR rfl (.tmp 3) rfl rfl ?_ ?_);(exact rfl))
     | (go_at_call 213;(with_reducible refine (H5.out _).mono ?_);rintro e w' ⟨rfl,hb⟩;clear hc9;replace S:=Lib.hid (S.out.call hb);have hc10:=S.out.ino.cell 10 _ rfl;clear hb)
     | (go_at_call 213;(with_reducible refine (H6.out _).mono ?_);rintro e w' ⟨rfl,hb⟩;replace S:=Lib.hid (S.out.call hb);clear hb))
    go_ret
    exact ⟨by rw [HE.out];rfl,S.out.below⟩
end

section
open Go.RowKit Go.Maps
open Dk (av aa)
open Ii (Ino)
structure Lo (L:List Nat) (w0:World) (l:List (Nat × List Value)) (w:World):Prop where
 row:∀ x∈l,au w x.1 x.2∧w0.heap.size≤x.1∧x.1<w.heap.size
 ne:(l.map (·.1)).Nodup
 only:aB L w0 w
 low:∀ k∈L,k<w0.heap.size
theorem Lo.get {L:List Nat} {w0 w:World} {l:List (Nat × List Value)} (h:Lo L w0 l w) (k:Nat) (x:Nat × List Value) (hx:l[k]?=some x):au w x.1 x.2:=(h.row x (List.mem_of_getElem? hx)).1
theorem Lo.lt {L:List Nat} {w0 w:World} {l:List (Nat × List Value)} (h:Lo L w0 l w) (k:Nat) (x:Nat × List Value) (hx:l[k]?=some x):x.1<w.heap.size:=(h.row x (List.mem_of_getElem? hx)).2.2
theorem Lo.start {L:List Nat} (w:World) (hL:∀ k∈L,k<w.heap.size):Lo L w [] w:=⟨fun x hx=>(by cases hx),List.nodup_nil,aB.refl L w,hL⟩
theorem Lo.none {L:List Nat} {w0 w:World} (h:aB L w0 w) (hL:∀ k∈L,k<w0.heap.size):Lo L w0 [] w:=⟨fun x hx=>(by cases hx),List.nodup_nil,h,hL⟩
theorem Lo.fresh {L:List Nat} {w0 w:World} {l:List (Nat × List Value)} (h:Lo L w0 l w) {B:Nat} (hB:w.heap.size≤B):((l++[(B,([]:List Value))]).map (·.1)).Nodup:=by
 rw [List.map_append,List.nodup_append]
 refine ⟨h.ne,by simp,fun a ha c hc=>?_⟩
 obtain ⟨x,hx,rfl⟩:=List.mem_map.1 ha
 simp at hc
 have:=(h.row x hx).2.2
 omega
theorem Lo.alloc {L:List Nat} {w0 w:World} {l:List (Nat × List Value)} (h:Lo L w0 l w) (B:Nat) (hB:w.heap.size=B) (vs:List Value) (t:TypeId):Lo L w0 (l++[(B,vs)]) (w.alloc (.cells vs.toArray t)):=by
 subst hB
 exact {
  row:=fun x hx=>by
    rcases List.mem_append.1 hx with hx | hx
    · obtain ⟨h1,h2,h3⟩:=h.row x hx
      exact ⟨h1.alloc _,h2,by simp;omega⟩
    · rw [List.mem_singleton] at hx
      subst hx
      exact ⟨bh w vs t,h.only.size,by simp⟩
  ne:=by
    have:=h.fresh (Nat.le_refl w.heap.size)
    simpa using this
  only:=h.only.alloc _
  low:=h.low }
theorem Lo.skip {L:List Nat} {w0 w:World} {l:List (Nat × List Value)} (h:Lo L w0 l w) (o:Obj):Lo L w0 l (w.alloc o) where
 row:=fun x hx=>by
  obtain ⟨h1,h2,h3⟩:=h.row x hx
  exact ⟨h1.alloc _,h2,by simp;omega⟩
 ne:=h.ne
 only:=h.only.alloc _
 low:=h.low
theorem Lo.call {L L':List Nat} {w0 w w':World} {l:List (Nat × List Value)} (h:Lo L w0 l w) (ho:aB L' w w') (hL:∀ k∈L',k∈L):Lo L w0 l w' where
 row:=fun x hx=>by
  obtain ⟨h1,h2,h3⟩:=h.row x hx
  refine ⟨h1.block (ho.block _ h3 (fun q=>?_)),h2,Nat.lt_of_lt_of_le h3 ho.size⟩
  have:=h.low _ (hL _ q)
  omega
 ne:=h.ne
 only:=h.only.via ho (fun i hi=>Or.inl (hL i hi))
 low:=h.low
theorem Lo.below {L:List Nat} {w0 w w':World} {l:List (Nat × List Value)} (h:Lo L w0 l w) (hb:Below w.heap.size w w'):Lo L w0 l w':=
 h.call (L':=[]) (aB.below hb) (fun k hk=>by cases hk)
theorem Lo.drewN {L:List Nat} {w0 w:World} {l:List (Nat × List Value)} (h:Lo L w0 l w) (n:Nat):Lo L w0 l (w.drewN n):=h.below (below_drewN _ _)
theorem Lo.drew {L:List Nat} {w0 w:World} {l:List (Nat × List Value)} (h:Lo L w0 l w):Lo L w0 l w.drew:=h.below ((Below.refl _ _).drew)
theorem Lo.made {L:List Nat} {w0 w W2:World} {l:List (Nat × List Value)} {vs:List Value} (h:Lo L w0 l w) (hR:au W2 w.heap.size vs) (hb:Below w.heap.size w W2) (hz:W2.heap.size=w.heap.size+1):Lo L w0 (l++[(w.heap.size,vs)]) W2 where
 row:=fun x hx=>by
  rcases List.mem_append.1 hx with hx | hx
  ·exact (h.below hb).row x hx
  ·rw [List.mem_singleton] at hx
   subst hx
   exact ⟨hR,h.only.size,by rw [hz];exact Nat.lt_succ_self _⟩
 ne:=by
  have:=h.fresh (Nat.le_refl w.heap.size)
  simpa using this
 only:=(h.below hb).only
 low:=h.low
theorem Lo.Ml {L:List Nat} {w0 w W2:World} {l:List (Nat × List Value)} {vs:List Value} (h:Lo L w0 l w) (B:Nat) (hB:w.heap.size=B) (hR:au W2 w.heap.size vs) (hb:Below w.heap.size w W2) (hz:W2.heap.size=w.heap.size+1):Lo L w0 (l++[(B,vs)]) W2:=by
 subst hB
 exact h.made hR hb hz
theorem Lo.put {L:List Nat} {w0 w:World} {l:List (Nat × List Value)} (h:Lo L w0 l w) (k:Nat) (x:Nat × List Value) (hx:l[k]?=some x) (us:List Value) (hl:us.length=x.2.length):Lo L w0 (l.set k (x.1,us)) (w.setCells x.1 0 us) where
 row:=fun y hy=>by
  obtain ⟨hk,hke⟩:=List.getElem?_eq_some_iff.1 hx
  obtain ⟨j,hj,rfl⟩:=List.getElem_of_mem hy
  rw [List.length_set] at hj
  rw [List.getElem_set,bC]
  by_cases e:k=j
  ·subst e
   rw [if_pos rfl]
   obtain ⟨h1,h2,h3⟩:=h.row x (List.mem_of_getElem? hx)
   exact ⟨h1.put us hl,h2,h3⟩
  ·rw [if_neg e]
   obtain ⟨h1,h2,h3⟩:=h.row l[j] (List.getElem_mem hj)
   refine ⟨h1.bl _ _ _ (fun q=>?_),h2,h3⟩
   have hn:=List.pairwise_iff_getElem.1 h.ne
   have e1:(l.map (·.1))[k]'(by simpa using hk)=(l.map (·.1))[j]'(by simpa using hj):=by
    simp only [List.getElem_map]
    rw [hke];exact q.symm
   rcases Nat.lt_or_ge k j with c | c
   ·exact absurd e1 (hn k j _ _ c)
   ·exact absurd e1.symm (hn j k _ _ (by omega))
 ne:=by
  obtain ⟨hk,hke⟩:=List.getElem?_eq_some_iff.1 hx
  have:(l.set k (x.1,us)).map (·.1)=l.map (·.1):=by
   rw [List.map_set]
   apply List.ext_getElem
   ·simp
   ·intro j h1 h2
    rw [List.getElem_set]
    split
    ·rename_i e;subst e;simp [hke]
    ·rfl
  rw [this];exact h.ne
 only:=by
  obtain ⟨h1,h2,h3⟩:=h.row x (List.mem_of_getElem? hx)
  exact h.only.via ((aB.refl [x.1] w).setCells x.1 (by simp) us 0 w) (fun i hi=>by rw [List.mem_singleton] at hi;subst hi;exact Or.inr h2)
 low:=h.low
theorem Lo.cut {L:List Nat} {w0 w:World} {l:List (Nat × List Value)} (h:Lo L w0 l w) (k:Nat):Lo L w0 (l.take k) w where
 row:=fun x hx=>h.row x (List.mem_of_mem_take hx)
 ne:=by
  rw [List.map_take]
  exact h.ne.sublist (List.take_sublist _ _)
 only:=h.only
 low:=h.low
theorem au.aK {w:World} {b:Nat} {p:List UInt8} (h:au w b (ab p)) (hp:p.length=64):aD w b p:=⟨hp,h.range,by have:=h.free;rwa [aj,hp] at this⟩
theorem aD.rowAt {w:World} {b:Nat} {p:List UInt8} (h:aD w b p):au w b (ab p):=⟨h.range,by rw [aj,h.len];exact h.free⟩
theorem Lo.ctx {L:List Nat} {w0 w:World} {l:List (Nat × List Value)} {B:Nat} {b:Blk} {s:Sto} {n I:Int} (h:Lo [] w0 l w) (c:Ctx w0 B b s n I):Ctx w B b s n I:=c.only h.only (by simp) (by simp)
theorem Lo.bel {w0 w:World} {l:List (Nat × List Value)} (h:Lo [] w0 l w):Below w0.heap.size w0 w:=⟨h.only.os,h.only.tape,h.only.output,h.only.size,fun k hk=>h.only.block k hk (by simp)⟩
theorem Lo.store {w0 w:World} {l:List (Nat × List Value)} {b:Blk} {s:Sto} (h:Lo [] w0 l w) (c:ay w0 b s):ay w b s:=c.only h.only (by simp)
theorem au.gR {w:World} {B st:Nat} {n I:Int} {vs:List Value} (h:au w B (.pointer (some ⟨st,0,none⟩)::.int .i64 n::.int .i64 I::vs)):w.rangeAt B 1 (bc n I):=by
 intro j v hv
 have h2:(Value.pointer (some ⟨st,0,none⟩)::Value.int .i64 n::Value.int .i64 I::vs)[1+j]?=some v:=by
  match j,hv with
  | 0,hv=>exact hv
  | 1,hv=>exact hv
  | n+2,hv=>simp [bc] at hv
 have:=h.range (1+j) v h2
 rwa [Nat.zero_add] at this
theorem au.base {w:World} {B st:Nat} {n I:Int} {vs:List Value} (h:au w B (.pointer (some ⟨st,0,none⟩)::.int .i64 n::.int .i64 I::vs)):w.rangeAt B 0 (eN st n I):=by
 intro j v hv
 have h2:(Value.pointer (some ⟨st,0,none⟩)::Value.int .i64 n::Value.int .i64 I::vs)[j]?=some v:=by
  match j,hv with
  | 0,hv=>exact hv
  | 1,hv=>exact hv
  | 2,hv=>exact hv
  | n+3,hv=>simp [eN] at hv
 have:=h.range j v h2
 rwa [Nat.zero_add] at this ⊢
theorem aN {ops:Array Oper} {rest:List Oper} {op:Oper} {a:Act} {Q:Exit→Act→World→Prop} {w:World} {B o:Nat} {n I:Int} (k:w.rangeAt B o (bc n I)) (hgd:op.guard=none) (u:Operand) (ho:op.op=.load 132 u)
  (hx:a.eval u=.pointer (some ⟨B,o,none⟩)) (hn:wpList Tryz.prog ops Q rest (a.put op.dst (bz n I)) w):wpList Tryz.prog ops Q (op::rest) a w:=
 wpList_load_mid hgd 132 u ho B o hx _ _ k Tryz.underlying132 rfl (by kernel_rfl) hn
theorem aE {ops:Array Oper} {rest:List Oper} {op:Oper} {a:Act} {Q:Exit→Act→World→Prop} {w:World} {B o st:Nat} {n I:Int} (k:w.rangeAt B o (eN st n I)) (hgd:op.guard=none) (u:Operand) (ho:op.op=.load 134 u)
  (hx:a.eval u=.pointer (some ⟨B,o,none⟩)) (hn:wpList Tryz.prog ops Q rest (a.put op.dst (bW st n I)) w):wpList Tryz.prog ops Q (op::rest) a w:=
 wpList_load_mid hgd 134 u ho B o hx _ _ k Tryz.underlying134 rfl (by kernel_rfl) hn
def exV {α:Type} (f:α→Value) (z:Value):Except Int α→Value
 | .ok a=>.tuple #[f a,.int .i64 0]
 | .error e=>.tuple #[z,.int .i64 e]
theorem Gm (p:List UInt8) (i:Int) (w:World) (hp:p.length=64):Calls Tryz.prog 208 #[an p,.int .i64 ((i - 1) % 2)] w fun e w'=>e=.returned (bH (Ii.sB p (Fs.dd i)))∧Below w.heap.size w w':=by
 unfold Fs.dd
 have:(i - 1) % 2=0∨(i - 1) % 2=1:=by omega
 rcases this with e | e <;> rw [e]
 ·exact Lx p w hp
 ·exact Lw p w hp
theorem xW (p:List UInt8) (i:Int) (x:Ino) (w:World) (hp:p.length=64):Calls Tryz.prog 183 #[an p,.int .i64 ((i - 1) % 2),bH x] w fun e w'=>e=.returned (an (Ii.uW p (Fs.dd i) x))∧Below w.heap.size w w':=by
 unfold Fs.dd
 have:(i - 1) % 2=0∨(i - 1) % 2=1:=by omega
 rcases this with e | e <;> rw [e]
 ·exact Mi p x w hp
 ·exact Mh p x w hp
end

section
open Go.RowKit Go.Maps
open Dk (av aa)
open Ii (Ino)
theorem fG (w:World) (st:Nat) (n I:Int):Lo [] w [(w.heap.size,eN st n I)] (w.alloc (.cells #[.pointer (some ⟨st,0,none⟩),.int .i64 n,.int .i64 I] 134)):=
 (Lo.start w (by simp)).alloc _ rfl (eN st n I) _
theorem Hx {s:Sto} {n I i:Int} (h:Vs s n I) (h1:1≤i) (h2:i≤I):okP n (43+(i - 1) / 2)∧(43+(i - 1) / 2).toNat=Fs.tbl i:=by
 obtain ⟨b1,b2,b3,b4,b5,b6⟩:=h.bd
 unfold Pl.aS at b4
 exact ⟨⟨by omega,by omega,by omega⟩,rfl⟩
theorem uI {w:World} {b:Blk} {s:Sto} {n I:Int} (v:Vs s n I) (i:Int) (h0:i<1∨I<i):Calls Tryz.prog 159 #[bW b.s n I,.int .i64 i] w fun e w'=>e=.returned (.tuple #[bH Ii.zero,.int .i64 22])∧Below w.heap.size w w':=by
 have S:=Lib.hid ((fG w b.s n I).alloc (w.heap.size+1) (by simp) (aH Ii.zero) 103)
 have HP:Hid (∀ w,Calls Tryz.prog 181 #[.agg #[.int .i64 n,.int .i64 I],.int .i64 i] w fun e w'=>e=.returned (.tuple #[.int .i64 0,.int .i64 0])∧Below w.heap.size w w'):=Lib.hid (fun w=>FE n I i w v.pl h0)
 clear v h0
 unfold bW
 go_enter Tryz.func159,Tryz.ntmps159
 go_wp2_with (first
  | (go_at_call 181;(with_reducible refine (HP.out _).mono ?_);rintro e w1 ⟨rfl,hb⟩;replace S:=Lib.hid (S.out.below hb);clear hb)
  | ((with_reducible refine ak (vs:=aH Ii.zero) cz (S.out.get 1 _ rfl) ?_ ?_ (aJ _) rfl (.tmp 4) (.tmp 20) rfl ?_ ?_ ?_);(exact rfl);(exact rfl);(exact rfl);(exact rfl)))
 have S2:=Lib.hid (S.out.put 1 _ rfl (aH Ii.zero) rfl)
 exact bodyPost_ret (aL cz _ 4 5 rfl _ (S2.out.get 1 _ rfl) rfl rfl rfl) rfl ⟨rfl,S2.out.bel⟩
theorem fM {w:World} {b:Blk} {s:Sto} {n I:Int} (hst:ay w b s) (v:Vs s n I) (i:Int) (h1:1≤i) (h2:i≤I):Calls Tryz.prog 159 #[bW b.s n I,.int .i64 i] w fun e w'=>e=.returned (.tuple #[bH (Fs.bJ (nv s) i),.int .i64 0])∧Below w.heap.size w w':=by
 have S:=Lib.hid ((fG w b.s n I).alloc (w.heap.size+1) (by simp) (aH Ii.zero) 103)
 have HP:Hid (∀ w,Calls Tryz.prog 181 #[.agg #[.int .i64 n,.int .i64 I],.int .i64 i] w fun e w'=>e=.returned (.tuple #[.int .i64 (43+(i - 1) / 2),.int .i64 ((i - 1) % 2)])∧Below w.heap.size w w'):=Lib.hid (fun w=>ox n I i w v.pl h1 h2)
 obtain ⟨k1,k2⟩:=Hx v h1 h2
 obtain ⟨r1,r2,r3⟩:=v.read k1
 rw [k2] at r1 r3
 have HR:Hid (∀ W l,Lo [] w l W→Calls Tryz.prog 161 #[.pointer (some ⟨b.s,0,none⟩),.int .i64 (43+(i - 1) / 2)] W fun e w'=>e=.returned (.tuple #[an (nv s (Fs.tbl i)),.int .i64 0])∧Below W.heap.size W w'):=Lib.hid (fun W l hl=>by
  have:=nV (hl.store hst) (43+(i - 1) / 2)
  rw [r1,r2] at this
  exact this)
 have HL:=Lib.hid r3
 have HG:Hid (∀ w,Calls Tryz.prog 208 #[an (nv s (Fs.tbl i)),.int .i64 ((i - 1) % 2)] w fun e w'=>e=.returned (bH (Ii.sB (nv s (Fs.tbl i)) (Fs.dd i)))∧Below w.heap.size w w'):=Lib.hid (fun w=>Gm _ i w r3)
 unfold Fs.bJ
 have hat:((43+(i - 1) / 2:Int) == 0)=false:=by rw [beq_eq_false_iff_ne];omega
 clear v hst h1 h2 k1 k2 r1 r2 r3
 generalize (43+(i - 1) / 2:Int)=at1 at HP HR hat
 generalize (i - 1) % 2=hf at HP HG
 generalize nv s (Fs.tbl i)=p at HR HL HG ⊢
 generalize Ii.sB p (Fs.dd i)=x at HG ⊢
 unfold bW
 by_cases hk:x.k=0
 ·rw [if_pos hk]
  have gk:(x.k == 0)=true:=by rw [hk];rfl
  clear hk
  go_enter Tryz.func159,Tryz.ntmps159
  go_wp2_with (first
   | (go_at_call 181;(with_reducible refine (HP.out _).mono ?_);rintro e w1 ⟨rfl,hb⟩;replace S:=Lib.hid (S.out.below hb);have c0:=(S.out.get 0 _ rfl).cell 0 _ rfl;clear hb)
   | (go_at_call 161;(with_reducible refine (HR.out _ _ S.out).mono ?_);rintro e w2 ⟨rfl,hb⟩;clear c0;replace S:=Lib.hid (S.out.below hb);clear hb)
   | ((with_reducible refine aq rfl (.tmp 8) (.tmp 26) rfl rfl ?_ ?_ HL.out ?_);(exact rfl);(exact rfl);intro W2 hP hB2 hz2;replace S:=Lib.hid (S.out.made hP.rowAt hB2 hz2);clear hP hB2 hz2)
   | (with_reducible refine ah ((S.out.get 2 _ rfl).aK HL.out) rfl (.tmp 8) rfl rfl ?_)
   | (go_at_call 208;(with_reducible refine (HG.out _).mono ?_);rintro e w3 ⟨rfl,hb⟩;replace S:=Lib.hid (S.out.below hb);clear hb)
   | ((with_reducible refine ai (vs:=aH x) cz ?_ (aJ _) rfl (.tmp 10) (.tmp 34) rfl rfl ?_ ?_ ?_);(exact rfl);(exact rfl);(exact rfl);intro W4 hP hB2 hz2;replace S:=Lib.hid (S.out.made hP hB2 hz2);clear hP hB2 hz2;have i0:=(S.out.get 3 _ rfl).cell 0 _ rfl)
   | ((with_reducible refine ak (vs:=aH Ii.zero) cz (S.out.get 1 _ rfl) ?_ ?_ (aJ _) rfl (.tmp 4) (.tmp 38) rfl ?_ ?_ ?_);(exact rfl);(exact rfl);(exact rfl);(exact rfl)))
  have S2:=Lib.hid (S.out.put 1 _ rfl (aH Ii.zero) rfl)
  exact bodyPost_ret (aL cz _ 4 5 rfl _ (S2.out.get 1 _ rfl) rfl rfl rfl) rfl ⟨rfl,S2.out.bel⟩
 ·rw [if_neg hk]
  have gk:(x.k == 0)=false:=by rw [beq_eq_false_iff_ne];exact hk
  clear hk
  go_enter Tryz.func159,Tryz.ntmps159
  go_wp2_with (first
   | (go_at_call 181;(with_reducible refine (HP.out _).mono ?_);rintro e w1 ⟨rfl,hb⟩;replace S:=Lib.hid (S.out.below hb);have c0:=(S.out.get 0 _ rfl).cell 0 _ rfl;clear hb)
   | (go_at_call 161;(with_reducible refine (HR.out _ _ S.out).mono ?_);rintro e w2 ⟨rfl,hb⟩;clear c0;replace S:=Lib.hid (S.out.below hb);clear hb)
   | ((with_reducible refine aq rfl (.tmp 8) (.tmp 26) rfl rfl ?_ ?_ HL.out ?_);(exact rfl);(exact rfl);intro W2 hP hB2 hz2;replace S:=Lib.hid (S.out.made hP.rowAt hB2 hz2);clear hP hB2 hz2)
   | (with_reducible refine ah ((S.out.get 2 _ rfl).aK HL.out) rfl (.tmp 8) rfl rfl ?_)
   | (go_at_call 208;(with_reducible refine (HG.out _).mono ?_);rintro e w3 ⟨rfl,hb⟩;replace S:=Lib.hid (S.out.below hb);clear hb)
   | ((with_reducible refine ai (vs:=aH x) cz ?_ (aJ _) rfl (.tmp 10) (.tmp 34) rfl rfl ?_ ?_ ?_);(exact rfl);(exact rfl);(exact rfl);intro W4 hP hB2 hz2;replace S:=Lib.hid (S.out.made hP hB2 hz2);clear hP hB2 hz2;have i0:=(S.out.get 3 _ rfl).cell 0 _ rfl)
   | (with_reducible refine af cz (S.out.get 3 _ rfl) rfl rfl (.tmp 10) rfl rfl ?_)
   | ((with_reducible refine ak (vs:=aH x) cz (S.out.get 1 _ rfl) ?_ ?_ (aJ _) rfl (.tmp 4) (.tmp 39) rfl ?_ ?_ ?_);(exact rfl);(exact rfl);(exact rfl);(exact rfl)))
  have S2:=Lib.hid (S.out.put 1 _ rfl (aH x) rfl)
  exact bodyPost_ret (aL cz _ 4 5 rfl _ (S2.out.get 1 _ rfl) rfl rfl rfl) rfl ⟨rfl,S2.out.bel⟩
theorem EY {I i:Int} {V:Fs.View} (h:Fs.cV I i V=.error 22):(i<1∨I<i)∨(1≤i∧i≤I∧(Fs.bJ V i).k=0):=by
 unfold Fs.cV at h
 by_cases c:1≤i∧i≤I
 ·rw [if_pos c] at h
  right
  refine ⟨c.1,c.2,?_⟩
  by_cases d:(Fs.bJ V i).k=0
  ·exact d
  ·rw [if_neg d] at h;cases h
 ·left;omega
theorem sS {I i:Int} {V:Fs.View} {x:Ino} (h:Fs.cV I i V=.ok x):1≤i∧i≤I∧x=Fs.bJ V i∧x.k≠0:=by
 unfold Fs.cV at h
 by_cases c:1≤i∧i≤I
 ·rw [if_pos c] at h
  by_cases d:(Fs.bJ V i).k=0
  ·rw [if_pos d] at h;cases h
  ·rw [if_neg d] at h
   injection h with h
   subst h
   exact ⟨c.1,c.2,rfl,d⟩
 ·rw [if_neg c] at h;cases h
theorem xg (I i:Int) (V:Fs.View):Fs.cV I i V=.error 22∨∃ x,Fs.cV I i V=.ok x:=by
 unfold Fs.cV
 split
 ·split
  ·exact Or.inl rfl
  ·exact Or.inr ⟨_,rfl⟩
 ·exact Or.inl rfl
theorem uJ (w:World) (st:Nat) (n I:Int):Lo [] w [(w.heap.size,eN st n I),(w.heap.size+1,aH Ii.zero)] ((w.alloc (.cells #[.pointer (some ⟨st,0,none⟩),.int .i64 n,.int .i64 I] 134)).alloc (.cells (aH Ii.zero).toArray 103)):=
 (fG w st n I).alloc (w.heap.size+1) (by simp) (aH Ii.zero) 103
theorem uE {w:World} {b:Blk} {s:Sto} {n I:Int} (hst:ay w b s) (v:Vs s n I) (i:Int) (h:Fs.cV I i (nv s)=.error 22):Calls Tryz.prog 173 #[bW b.s n I,.int .i64 i] w fun e w'=>e=.returned (.tuple #[bH Ii.zero,.int .i64 22])∧Below w.heap.size w w':=by
 have S:=Lib.hid (uJ w b.s n I)
 have HI:∃ E:Int,Hid (∀ W l,Lo [] w l W→Calls Tryz.prog 159 #[bW b.s n I,.int .i64 i] W fun e w'=>e=.returned (.tuple #[bH Ii.zero,.int .i64 E])∧Below W.heap.size W w')∧(E=0∨E=22):=by
  rcases EY h with c | ⟨c1,c2,c3⟩
  ·exact ⟨22,Lib.hid (fun W l _=>uI v i c),Or.inr rfl⟩
  ·refine ⟨0,Lib.hid (fun W l hl=>?_),Or.inl rfl⟩
   have:=fM (hl.store hst) v i c1 c2
   have e:Fs.bJ (nv s) i=Ii.zero:=by
    unfold Fs.bJ at c3 ⊢
    split
    ·rfl
    ·rename_i q;rw [if_neg q] at c3;exact absurd c3 q
   rw [e] at this
   exact this
 obtain ⟨E,HI,hE⟩:=HI
 clear v hst h
 rcases hE with rfl | rfl
 all_goals
  unfold bW at HI ⊢
  go_enter Tryz.func173,Tryz.ntmps173
  go_wp2_with (first
   | (with_reducible refine aE (S.out.get 0 _ rfl).base rfl (.tmp 2) rfl rfl ?_)
   | (go_at_call 159;refine (HI.out _ _ S.out).mono ?_;rintro e w1 ⟨rfl,hb⟩;replace S:=Lib.hid (S.out.below hb);clear hb)
   | ((with_reducible refine ai (vs:=aH Ii.zero) cz ?_ (aJ _) rfl (.tmp 6) (.tmp 12) rfl rfl ?_ ?_ ?_);(exact rfl);(exact rfl);(exact rfl);intro W4 hP hB2 hz2;replace S:=Lib.hid (S.out.made hP hB2 hz2);clear hP hB2 hz2;have i0:=(S.out.get 2 _ rfl).cell 0 _ rfl)
   | (with_reducible refine af cz (S.out.get 2 _ rfl) rfl rfl (.tmp 6) rfl rfl ?_)
   | ((with_reducible refine ak (vs:=aH Ii.zero) cz (S.out.get 1 _ rfl) ?_ ?_ (aJ _) rfl (.tmp 4) (.tmp 21) rfl ?_ ?_ ?_);(exact rfl);(exact rfl);(exact rfl);(exact rfl))
   | ((with_reducible refine ak (vs:=aH Ii.zero) cz (S.out.get 1 _ rfl) ?_ ?_ (aJ _) rfl (.tmp 4) (.tmp 22) rfl ?_ ?_ ?_);(exact rfl);(exact rfl);(exact rfl);(exact rfl)))
  have S2:=Lib.hid (S.out.put 1 _ rfl (aH Ii.zero) rfl)
  exact bodyPost_ret (aL cz _ 4 5 rfl _ (S2.out.get 1 _ rfl) rfl rfl rfl) rfl ⟨rfl,S2.out.bel⟩
theorem mr {w:World} {b:Blk} {s:Sto} {n I:Int} (hst:ay w b s) (v:Vs s n I) (i:Int) {x:Ino} (h:Fs.cV I i (nv s)=.ok x):Calls Tryz.prog 173 #[bW b.s n I,.int .i64 i] w fun e w'=>e=.returned (.tuple #[bH x,.int .i64 0])∧Below w.heap.size w w':=by
 have S:=Lib.hid (uJ w b.s n I)
 obtain ⟨c1,c2,c3,c4⟩:=sS h
 have HI:Hid (∀ W l,Lo [] w l W→Calls Tryz.prog 159 #[bW b.s n I,.int .i64 i] W fun e w'=>e=.returned (.tuple #[bH x,.int .i64 0])∧Below W.heap.size W w'):=Lib.hid (fun W l hl=>by
  have:=fM (hl.store hst) v i c1 c2
  rw [← c3] at this
  exact this)
 have gk:(x.k == 0)=false:=by rw [beq_eq_false_iff_ne];exact c4
 clear v hst h c1 c2 c3 c4
 unfold bW at HI ⊢
 go_enter Tryz.func173,Tryz.ntmps173
 go_wp2_with (first
  | (with_reducible refine aE (S.out.get 0 _ rfl).base rfl (.tmp 2) rfl rfl ?_)
  | (go_at_call 159;refine (HI.out _ _ S.out).mono ?_;rintro e w1 ⟨rfl,hb⟩;replace S:=Lib.hid (S.out.below hb);clear hb)
  | ((with_reducible refine ai (vs:=aH x) cz ?_ (aJ _) rfl (.tmp 6) (.tmp 12) rfl rfl ?_ ?_ ?_);(exact rfl);(exact rfl);(exact rfl);intro W4 hP hB2 hz2;replace S:=Lib.hid (S.out.made hP hB2 hz2);clear hP hB2 hz2;have i0:=(S.out.get 2 _ rfl).cell 0 _ rfl)
  | (with_reducible refine af cz (S.out.get 2 _ rfl) rfl rfl (.tmp 6) rfl rfl ?_)
  | ((with_reducible refine ak (vs:=aH x) cz (S.out.get 1 _ rfl) ?_ ?_ (aJ _) rfl (.tmp 4) (.tmp 22) rfl ?_ ?_ ?_);(exact rfl);(exact rfl);(exact rfl);(exact rfl)))
 have S2:=Lib.hid (S.out.put 1 _ rfl (aH x) rfl)
 exact bodyPost_ret (aL cz _ 4 5 rfl _ (S2.out.get 1 _ rfl) rfl rfl rfl) rfl ⟨rfl,S2.out.bel⟩
theorem uK (w:World) (st:Nat) (n I:Int):Lo [] w [(w.heap.size,eN st n I),(w.heap.size+1,ab av)] ((w.alloc (.cells #[.pointer (some ⟨st,0,none⟩),.int .i64 n,.int .i64 I] 134)).alloc (.cells zeroCells 87)):=
 (fG w st n I).alloc (w.heap.size+1) (by simp) (ab av) 87
theorem Lo.aK {L:List Nat} {w0 w:World} {l:List (Nat × List Value)} (h:Lo L w0 l w) (k:Nat) {B:Nat} {p:List UInt8} (hx:l[k]?=some (B,ab p)) (hp:p.length=64):aD w B p:=(h.get k _ hx).aK hp
theorem Lo.Ig {L:List Nat} {w0 w:World} {l:List (Nat × List Value)} (h:Lo L w0 l w) (k:Nat) {B:Nat} {p:List UInt8} (hx:l[k]?=some (B,ab p)) (hp:p.length=64) (q:List UInt8) (hq:q.length=64):Lo L w0 (l.set k (B,ab q)) (w.setCells B 0 (ab q)):=
 h.put k (B,ab p) hx _ (by simp only [aj];omega)
theorem Az {w:World} (b:Blk) (n I:Int):Calls Tryz.prog 180 #[bW b.s n I,.int .i64 0] w fun e w'=>e=.returned (.tuple #[an av,.int .i64 0])∧Below w.heap.size w w':=by
 have S0:=Lib.hid (fG w b.s n I)
 unfold bW
 go_enter Tryz.func180,Tryz.ntmps180
 go_wp2_with ((with_reducible refine aq rfl (.tmp 4) (.tmp 8) rfl ?_ ?_ ?_ aa ?_);(simp [Act.eval]);(exact rfl);(exact rfl);intro W2 hP hB2 hz2;have S:=Lib.hid (S0.out.Ml (w.heap.size+1) (by simp) hP.rowAt hB2 hz2);clear hP hB2 hz2)
 exact bodyPost_ret (aU _ 4 5 rfl _ (S.out.aK 1 rfl aa) rfl) rfl ⟨rfl,S.out.bel⟩
theorem He {w:World} {b:Blk} {s:Sto} {n I:Int} (v:Vs s n I) (m:Int) (h0:m≠0) (h1:¬ Fs.bZ n I m):Calls Tryz.prog 180 #[bW b.s n I,.int .i64 m] w fun e w'=>e=.returned (.tuple #[an av,.int .i64 5])∧Below w.heap.size w w':=by
 have S0:=Lib.hid (uK w b.s n I)
 have HB:Hid (∀ w,Calls Tryz.prog 225 #[.agg #[.int .i64 n,.int .i64 I],.int .i64 m] w fun e w'=>e=.returned (.int .i64 (-1))∧Below w.heap.size w w'):=Lib.hid (fun w=>uH n I m w v.pl (by unfold Fs.bZ at h1;omega))
 have g0:(m == 0)=false:=by rw [beq_eq_false_iff_ne];exact h0
 clear v h0 h1
 unfold bW
 go_enter Tryz.func180,Tryz.ntmps180
 go_wp2_with fail
 rw [← az]
 generalize hw:(w.alloc _).alloc _=w1
 have S:Hid (Lo [] w [(w.heap.size,eN b.s n I),(w.heap.size+1,ab av)] w1):=Lib.hid (by rw [← hw];exact S0.out)
 clear hw S0
 go_wp2_with (first
  | (go_at_call 225;(with_reducible refine (HB.out _).mono ?_);rintro e w2 ⟨rfl,hb⟩;replace S:=Lib.hid (S.out.below hb);clear hb)
  | ((with_reducible refine ax (S.out.aK 1 rfl aa) aa rfl (.tmp 4) (.tmp 14) rfl rfl ?_ ?_);(exact rfl)))
 have S2:=Lib.hid (S.out.Ig 1 rfl aa av aa)
 exact bodyPost_ret (aU _ 4 5 rfl _ (S2.out.aK 1 rfl aa) rfl) rfl ⟨rfl,S2.out.bel⟩
theorem gh {s:Sto} {n I m:Int} (v:Vs s n I) (h:Fs.bZ n I m):okP n m∧m≠0:=by
 obtain ⟨b1,b2,b3,b4,b5,b6⟩:=v.bd
 unfold Fs.bZ at h
 exact ⟨⟨by omega,by omega,by omega⟩,by omega⟩
theorem El {w:World} {b:Blk} {s:Sto} {n I:Int} (hst:ay w b s) (v:Vs s n I) (m:Int) (h1:Fs.bZ n I m):Calls Tryz.prog 180 #[bW b.s n I,.int .i64 m] w fun e w'=>e=.returned (.tuple #[an (nv s m.toNat),.int .i64 0])∧Below w.heap.size w w':=by
 have S0:=Lib.hid (uK w b.s n I)
 obtain ⟨k1,k2⟩:=gh v h1
 obtain ⟨r1,r2,r3⟩:=v.read k1
 have HB:Hid (∀ w,Calls Tryz.prog 225 #[.agg #[.int .i64 n,.int .i64 I],.int .i64 m] w fun e w'=>e=.returned (.int .i64 (m - Pl.aS I))∧Below w.heap.size w w'):=Lib.hid (fun w=>pC n I m w v.pl h1.1 h1.2)
 have HR:Hid (∀ W l,Lo [] w l W→Calls Tryz.prog 161 #[.pointer (some ⟨b.s,0,none⟩),.int .i64 m] W fun e w'=>e=.returned (.tuple #[an (nv s m.toNat),.int .i64 0])∧Below W.heap.size W w'):=Lib.hid (fun W l hl=>by
  have:=nV (hl.store hst) m
  rw [r1,r2] at this
  exact this)
 have HL:=Lib.hid r3
 have g0:(m == 0)=false:=by rw [beq_eq_false_iff_ne];exact k2
 have gb:0≤m - Pl.aS I:=by have:=h1.1;omega
 clear v h1 k1 k2 r1 r2 r3 hst
 generalize nv s m.toNat=p at HR HL ⊢
 generalize m - Pl.aS I=x at HB gb
 unfold bW
 go_enter Tryz.func180,Tryz.ntmps180
 go_wp2_with fail
 rw [← az]
 generalize hw:(w.alloc _).alloc _=w1
 have S:Hid (Lo [] w [(w.heap.size,eN b.s n I),(w.heap.size+1,ab av)] w1):=Lib.hid (by rw [← hw];exact S0.out)
 clear hw S0
 go_wp2_with (first
  | (go_at_call 225;(with_reducible refine (HB.out _).mono ?_);rintro e w2 ⟨rfl,hb⟩;replace S:=Lib.hid (S.out.below hb);clear hb;have c0:=(S.out.get 0 _ rfl).cell 0 _ rfl)
  | (go_at_call 161;(with_reducible refine (HR.out _ _ S.out).mono ?_);rintro e w2 ⟨rfl,hb⟩;clear c0;replace S:=Lib.hid (S.out.below hb);clear hb)
  | ((with_reducible refine ax (S.out.aK 1 rfl aa) HL.out rfl (.tmp 4) (.tmp 19) rfl rfl ?_ ?_);(exact rfl)))
 have S2:=Lib.hid (S.out.Ig 1 rfl aa p HL.out)
 exact bodyPost_ret (aU _ 4 5 rfl _ (S2.out.aK 1 rfl HL.out) rfl) rfl ⟨rfl,S2.out.bel⟩
theorem wJ (n I m:Int) (V:Fs.View):(m=0∧Fs.dL n I m V=.ok av)∨(m≠0∧Fs.bZ n I m∧Fs.dL n I m V=.ok (V m.toNat))∨(m≠0∧¬ Fs.bZ n I m∧Fs.dL n I m V=.error 5):=by
 unfold Fs.dL
 by_cases c:m=0
 ·left;exact ⟨c,by rw [if_pos c]⟩
 ·by_cases d:Fs.bZ n I m
  ·right;left;exact ⟨c,d,by rw [if_neg c,if_pos d]⟩
  ·right;right;exact ⟨c,d,by rw [if_neg c,if_neg d]⟩
theorem lB {s:Sto} {n I m:Int} {p:List UInt8} (v:Vs s n I) (h:Fs.dL n I m (nv s)=.ok p):p.length=64:=by
 rcases wJ n I m (nv s) with ⟨_,e⟩ | ⟨_,d,e⟩ | ⟨_,_,e⟩
 ·rw [e] at h;injection h with h;subst h;exact aa
 ·rw [e] at h;injection h with h;subst h;exact (v.read (gh v d).1).2.2
 ·rw [e] at h;cases h
theorem lC {n I m e:Int} {V:Fs.View} (h:Fs.dL n I m V=.error e):e=5:=by
 rcases wJ n I m V with ⟨_,q⟩ | ⟨_,d,q⟩ | ⟨_,_,q⟩
 ·rw [q] at h;cases h
 ·rw [q] at h;cases h
 ·rw [q] at h;injection h with h;exact h.symm
theorem pE {w:World} {b:Blk} {s:Sto} {n I:Int} (hst:ay w b s) (v:Vs s n I) (m:Int):Calls Tryz.prog 180 #[bW b.s n I,.int .i64 m] w fun e w'=>e=.returned (exV an (an av) (Fs.dL n I m (nv s)))∧Below w.heap.size w w':=by
 rcases wJ n I m (nv s) with ⟨h,e⟩ | ⟨h,d,e⟩ | ⟨h,d,e⟩
 ·subst h;rw [e];exact Az b n I
 ·rw [e];exact El hst v m d
 ·rw [e];exact He v m h d
end
end Go.Proofs.YtagfoogfpabdfaaGreat
