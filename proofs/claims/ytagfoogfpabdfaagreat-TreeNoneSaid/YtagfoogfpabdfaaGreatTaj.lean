/- Texts of the proof. -/
import Derived.Test.YtagfoogfpabdfaaGreatTai
import Derived.Test.YtagfoogfpabdfaaGreatTae
import Derived.RegionTactic
import Derived.IntWalk
import Derived.Test.YtagfoogfpabdfaaGreatTag
import Derived.Maps.AppendAt
import Derived.Test.YtagfoogfpabdfaaGreatTah
import Derived.Lib.Builder
import Derived.Lib.UnsafeStr
import Derived.Lib.MakeNoZero
import Derived.Lib.Walk
import Derived.Laws.Externs
import Derived.Laws.AppendOwn
import Derived.Lib.AppendStr
set_option maxRecDepth 100000
set_option maxHeartbeats 16000000
namespace Go.Proofs.YtagfoogfpabdfaaGreat
section
open Go.RowKit Go.Maps
open Dk (av aa)
open Ii (Ino)
def vP (i:Int):Nat:=if Sp.dep i=0 then 5+(Sp.inn i).toNat else if Sp.dep i=1 then 9 else 10
def iY (X:Nat) (i:Int) (w:World) (e:Ending) (w':World):Prop:=∃ A c,e=.returned (.tuple #[.pointer (some ⟨X,vP i,none⟩),.slice A (Fs.dI i).length c])∧fk w' A (Fs.dI i).length (Fs.dI i)∧Below w.heap.size w w'∧∀ b o,A=some ⟨b,o,none⟩→w.heap.size≤b
def Mz (w:World) (e:Ending) (w':World):Prop:=∃ F,e=.returned (.tuple #[.pointer (some ⟨F,0,none⟩),.slice none 0 0])∧w'.cell? ⟨F,0,none⟩=some (.int .i64 0)∧w.heap.size≤F∧F<w'.heap.size∧Below w.heap.size w w'
theorem Ac (w:World):fk w none 0 []:=⟨rfl,by unfold maxLen;omega,fun h=>absurd h (by omega)⟩
theorem Kv (X:Nat) (i:Int) (w:World) (h:Sp.okB i=false):Calls Tryz.prog 174 #[.pointer (some ⟨X,0,none⟩),.int .i64 i] w (Mz w):=by
 have HW:Hid (∀ w,Calls Tryz.prog 220 #[.int .i64 i] w fun e w'=>e=.returned (.tuple #[Kw (Sp.dep i) (Sp.out i) (Sp.inn i),.bool false])∧Below w.heap.size w w'):=Lib.hid (fun w=>by
  have:=kH i w
  unfold cy at this
  rw [h] at this
  exact this)
 have S:=Lib.hid (Lo.start (L:=[]) w (by simp))
 generalize Sp.dep i=d at HW
 generalize Sp.out i=o at HW
 generalize Sp.inn i=k at HW
 clear h
 go_enter Tryz.func174,Tryz.ntmps174
 go_wp2_with (first
  | (go_at_call 220;(with_reducible refine (HW.out _).mono ?_);rintro e w2 ⟨rfl,hb⟩;replace S:=Lib.hid (S.out.below hb);clear hb)
  | ((with_reducible refine ai (vs:=Ht d o k) Hs ?_ (nj _ _ _) rfl (.tmp 6) (.tmp 11) rfl rfl ?_ ?_ ?_);(exact rfl);(exact rfl);(exact rfl);intro W4 hP hB2 hz2;replace S:=Lib.hid (S.out.made hP hB2 hz2);clear hP hB2 hz2))
 go_ret2
 exact ⟨W4.heap.size,rfl,by simp,S.out.only.size,by simp,(S.out.skip _).bel⟩
theorem qJ (w:World) (zs:List Int) (t:TypeId) (hl:zs.length≤1000):fk ((w.alloc (.cells (kv zs).toArray t)).drew) (some ⟨w.heap.size,0,none⟩) zs.length zs where
 len:=rfl
 small:=by unfold maxLen;omega
 cells:=fun _=>⟨w.heap.size,0,rfl,by simp,fun i x hx=>by
  rw [Nat.zero_add,World.cell?_drew,World.cell?_alloc_mark]
  unfold kv
  simp [hx]⟩
theorem Mc (X:Nat) (i:Int) (w:World) (h0:0≤i) (h1:i<4):Calls Tryz.prog 174 #[.pointer (some ⟨X,0,none⟩),.int .i64 i] w (iY X i w):=by
 obtain ⟨p1,p2,p3,p4⟩:=Sp.vO h0 h1
 have HW:Hid (∀ w,Calls Tryz.prog 220 #[.int .i64 i] w fun e w'=>e=.returned (.tuple #[Kw 0 0 i,.bool true])∧Below w.heap.size w w'):=Lib.hid (fun w=>by
  have:=kH i w
  unfold cy at this
  rw [p1,p2,p3,p4] at this
  exact this)
 have HE:Hid (∀ e w',(e=.returned (.tuple #[.pointer (some ⟨X,5+i.toNat,none⟩),.slice none 0 0])∧Below w.heap.size w w')→iY X i w e w'):=Lib.hid (fun e w' ⟨h1,h2⟩=>by
  have e1:Fs.dI i=[]:=by unfold Fs.dI;rw [p1,if_pos rfl,p2,if_pos rfl]
  have e2:vP i=5+i.toNat:=by unfold vP;rw [p2,if_pos rfl,p4]
  unfold iY
  rw [e1,e2]
  exact ⟨none,0,h1,Ac _,h2,fun b o h=>by cases h⟩)
 have S:=Lib.hid (Lo.start (L:=[]) w (by simp))
 obtain ⟨k,rfl⟩:=Int.eq_ofNat_of_zero_le h0
 have hk:k<4:=by omega
 rw [Int.toNat_natCast] at HE
 clear p1 p2 p3 p4
 go_enter Tryz.func174,Tryz.ntmps174
 go_wp2_with (first
  | (go_at_call 220;(with_reducible refine (HW.out _).mono ?_);rintro e w2 ⟨rfl,hb⟩;replace S:=Lib.hid (S.out.below hb);clear hb)
  | ((with_reducible refine ai (vs:=Ht 0 0 (k:Int)) Hs ?_ (nj _ _ _) rfl (.tmp 6) (.tmp 11) rfl rfl ?_ ?_ ?_);(exact rfl);(exact rfl);(exact rfl);intro W4 hP hB2 hz2;replace S:=Lib.hid (S.out.made hP hB2 hz2);clear hP hB2 hz2;have c0:=(S.out.get 0 _ rfl).cell 0 _ rfl;have c1:=(S.out.get 0 _ rfl).cell 1 _ rfl;have c2:=(S.out.get 0 _ rfl).cell 2 _ rfl))
 go_quiet (fail)
 go_wp2
 go_ret2
 exact HE.out _ _ ⟨rfl,(S.out.drewN _).bel⟩
theorem Mb (X:Nat) (i:Int) (w:World) (h0:4≤i) (h1:i<36):Calls Tryz.prog 174 #[.pointer (some ⟨X,0,none⟩),.int .i64 i] w (iY X i w):=by
 obtain ⟨p1,p2,p3,p4⟩:=Sp.vN h0 h1
 have HW:Hid (∀ w,Calls Tryz.prog 220 #[.int .i64 i] w fun e w'=>e=.returned (.tuple #[Kw 1 0 (i - 4),.bool true])∧Below w.heap.size w w'):=Lib.hid (fun w=>by
  have:=kH i w
  unfold cy at this
  rw [p1,p2,p3,p4] at this
  exact this)
 have HE:Hid (∀ e w',(∃ A c,e=.returned (.tuple #[.pointer (some ⟨X,9,none⟩),.slice A 1 c])∧fk w' A 1 [i - 4]∧Below w.heap.size w w'∧∀ b o,A=some ⟨b,o,none⟩→w.heap.size≤b)→iY X i w e w'):=Lib.hid (fun e w' ⟨A,c,h1,h2,h3⟩=>by
  have e1:Fs.dI i=[i - 4]:=by unfold Fs.dI;rw [p1,if_pos rfl,p2,if_neg (by decide),if_pos rfl,p4]
  have e2:vP i=9:=by unfold vP;rw [p2,if_neg (by decide),if_pos rfl]
  unfold iY
  rw [e1,e2]
  exact ⟨A,c,h1,h2,h3⟩)
 have S:=Lib.hid (Lo.start (L:=[]) w (by simp))
 clear p1 p2 p3 p4
 generalize i - 4=k at HW HE
 go_enter Tryz.func174,Tryz.ntmps174
 go_wp2_with (first
  | (go_at_call 220;(with_reducible refine (HW.out _).mono ?_);rintro e w2 ⟨rfl,hb⟩;replace S:=Lib.hid (S.out.below hb);clear hb)
  | ((with_reducible refine ai (vs:=Ht 1 0 k) Hs ?_ (nj _ _ _) rfl (.tmp 6) (.tmp 11) rfl rfl ?_ ?_ ?_);(exact rfl);(exact rfl);(exact rfl);intro W4 hP hB2 hz2;replace S:=Lib.hid (S.out.made hP hB2 hz2);clear hP hB2 hz2;have c0:=(S.out.get 0 _ rfl).cell 0 _ rfl;have c1:=(S.out.get 0 _ rfl).cell 1 _ rfl;have c2:=(S.out.get 0 _ rfl).cell 2 _ rfl))
 go_region
 all_goals
  go_wp2
  go_ret2
  exact HE.out _ _ ⟨_,_,rfl,qJ W4 [k] _ (by simp),((S.out.skip _).drew).bel,fun b o h=>by injection h with h;injection h with h;subst h;exact S.out.only.size⟩
theorem Ma (X:Nat) (i:Int) (w:World) (h0:36≤i) (h1:i<1060):Calls Tryz.prog 174 #[.pointer (some ⟨X,0,none⟩),.int .i64 i] w (iY X i w):=by
 obtain ⟨p1,p2,p3,p4⟩:=Sp.vM h0 h1
 have HW:Hid (∀ w,Calls Tryz.prog 220 #[.int .i64 i] w fun e w'=>e=.returned (.tuple #[Kw 2 (Sp.out i) (Sp.inn i),.bool true])∧Below w.heap.size w w'):=Lib.hid (fun w=>by
  have:=kH i w
  unfold cy at this
  rw [p1,p2] at this
  exact this)
 have HE:Hid (∀ e w',(∃ A c,e=.returned (.tuple #[.pointer (some ⟨X,10,none⟩),.slice A 2 c])∧fk w' A 2 [Sp.out i,Sp.inn i]∧Below w.heap.size w w'∧∀ b o,A=some ⟨b,o,none⟩→w.heap.size≤b)→iY X i w e w'):=Lib.hid (fun e w' ⟨A,c,h1,h2,h3⟩=>by
  have e1:Fs.dI i=[Sp.out i,Sp.inn i]:=by unfold Fs.dI;rw [p1,if_pos rfl,p2,if_neg (by decide),if_neg (by decide)]
  have e2:vP i=10:=by unfold vP;rw [p2,if_neg (by decide),if_neg (by decide)]
  unfold iY
  rw [e1,e2]
  exact ⟨A,c,h1,h2,h3⟩)
 have S:=Lib.hid (Lo.start (L:=[]) w (by simp))
 clear p1 p2 p3 p4
 generalize Sp.inn i=k at HW HE
 generalize Sp.out i=o at HW HE
 go_enter Tryz.func174,Tryz.ntmps174
 go_wp2_with (first
  | (go_at_call 220;(with_reducible refine (HW.out _).mono ?_);rintro e w2 ⟨rfl,hb⟩;replace S:=Lib.hid (S.out.below hb);clear hb)
  | ((with_reducible refine ai (vs:=Ht 2 o k) Hs ?_ (nj _ _ _) rfl (.tmp 6) (.tmp 11) rfl rfl ?_ ?_ ?_);(exact rfl);(exact rfl);(exact rfl);intro W4 hP hB2 hz2;replace S:=Lib.hid (S.out.made hP hB2 hz2);clear hP hB2 hz2;have c0:=(S.out.get 0 _ rfl).cell 0 _ rfl;have c1:=(S.out.get 0 _ rfl).cell 1 _ rfl;have c2:=(S.out.get 0 _ rfl).cell 2 _ rfl))
 go_region
 all_goals
  go_wp2
  go_ret2
  exact HE.out _ _ ⟨_,_,rfl,qJ W4 [o,k] _ (by simp),((S.out.skip _).drew).bel,fun b o h=>by injection h with h;injection h with h;subst h;exact S.out.only.size⟩
theorem AL (X:Nat) (i:Int) (w:World) (h:Sp.okB i=true):Calls Tryz.prog 174 #[.pointer (some ⟨X,0,none⟩),.int .i64 i] w (iY X i w):=by
 rcases Sp.kinds i with c | ⟨c1,c2⟩ | ⟨c1,c2⟩ | ⟨c1,c2⟩
 ·rw [(Sp.lV c).1] at h;cases h
 ·exact Mc X i w c1 c2
 ·exact Mb X i w c1 c2
 ·exact Ma X i w c1 c2
theorem qP {w:World} {X:Nat} {x:Ino} (h:au w X (aH x)) (i:Int) (hi:Sp.okB i=true):w.cell? ⟨X,vP i,none⟩=some (.int .i64 (Fs.iW x i)):=by
 refine h.cell _ _ ?_
 unfold vP Fs.iW
 rw [if_pos hi]
 rcases Sp.kinds i with c | ⟨c1,c2⟩ | ⟨c1,c2⟩ | ⟨c1,c2⟩
 ·rw [(Sp.lV c).1] at hi;cases hi
 ·obtain ⟨_,p2,_,p4⟩:=Sp.vO c1 c2
  rw [p2,if_pos rfl,if_pos rfl,p4]
  obtain ⟨k,rfl⟩:=Int.eq_ofNat_of_zero_le c1
  rw [Int.toNat_natCast]
  have:k=0∨k=1∨k=2∨k=3:=by omega
  rcases this with rfl | rfl | rfl | rfl <;> rfl
 ·obtain ⟨_,p2,_,_⟩:=Sp.vN c1 c2
  rw [p2,if_neg (by decide),if_pos rfl,if_neg (by decide),if_pos rfl];rfl
 ·obtain ⟨_,p2,_,_⟩:=Sp.vM c1 c2
  rw [p2,if_neg (by decide),if_neg (by decide),if_neg (by decide),if_neg (by decide)];rfl
theorem sh (w:World) (st:Nat) (n I:Int) (x:Ino):Lo [] w [(w.heap.size,eN st n I),(w.heap.size+1,aH x)] ((w.alloc (.cells #[.pointer (some ⟨st,0,none⟩),.int .i64 n,.int .i64 I] 134)).alloc (.cells (aH x).toArray 103)):=
 (fG w st n I).alloc (w.heap.size+1) (by simp) (aH x) 103
theorem qu (i:Int):(Fs.dI i).length≤2:=by
 unfold Fs.dI
 split
 ·split
  ·simp
  ·split <;> simp
 ·simp
theorem Hc {w:World} {b:Blk} (n I:Int) (x:Ino) (i:Int) (h:Sp.okB i=false):Calls Tryz.prog 201 #[bW b.s n I,bH x,.int .i64 i] w fun e w'=>e=.returned (.tuple #[.int .i64 0,.int .i64 0])∧Below w.heap.size w w':=by
 have S:=Lib.hid (sh w b.s n I x)
 have HW:=Lib.hid (fun X w=>Kv X i w h)
 clear h
 unfold bW bH
 go_enter Tryz.func201,Tryz.ntmps201
 go_wp2_with (go_at_call 174;(with_reducible refine (HW.out _ _).mono ?_);rintro e w2 ⟨F,rfl,cF,_,_,hb⟩;replace S:=Lib.hid (S.out.below hb);clear hb)
 go_loop [10,25] (fun m i=>m=.int .i64 0∧i=.int .i64 0) (fun _ _=>0)
 case atStart=>exact ⟨rfl,rfl⟩
 case round=>
  obtain ⟨rfl,rfl⟩:=hrel
  go_wp2
  go_ret2
  exact ⟨rfl,S.out.bel⟩
theorem Ei {w:World} {b:Blk} {s:Sto} {n I:Int} (hst:ay w b s) (v:Vs s n I) (x:Ino) (i:Int) (h:Sp.okB i=true):Calls Tryz.prog 201 #[bW b.s n I,bH x,.int .i64 i] w fun e w'=>e=.returned (exV (fun m=>.int .i64 m) (.int .i64 0) (Fs.findF n I x i (nv s)))∧Below w.heap.size w w':=by
 have S:=Lib.hid (sh w b.s n I x)
 have HW:=Lib.hid (fun X w=>AL X i w h)
 have HF:=Lib.hid (fun (W:World) (l:List (Nat × List Value)) (hW:Lo [] w [(w.heap.size,eN b.s n I),(w.heap.size+1,aH x)] W)=>qP (hW.get 1 _ rfl) i h)
 have HD:Hid (∀ W l m,Lo [] w l W→Calls Tryz.prog 180 #[bW b.s n I,.int .i64 m] W fun e w'=>e=.returned (exV an (an av) (Fs.dL n I m (nv s)))∧Below W.heap.size W w'):=Lib.hid (fun W l m hl=>pE (hl.store hst) v m)
 have HLN:=Lib.hid (fun (m:Int) (p:List UInt8) (hd:Fs.dL n I m (nv s)=.ok p)=>lB v hd)
 have HER:=Lib.hid (fun (m e:Int) (hd:Fs.dL n I m (nv s)=.error e)=>lC hd)
 unfold Fs.findF
 have hl2:=qu i
 unfold iY at HW
 clear h v hst
 generalize Fs.dI i=ks at HW hl2 ⊢
 generalize Fs.iW x i=m0 at HF ⊢
 generalize vP i=off0 at HW HF
 generalize hR0:Fs.goF n I (nv s) ks m0=R
 have HR0:=Lib.hid hR0
 clear hR0
 unfold bW bH
 unfold bW at HD
 go_enter Tryz.func201,Tryz.ntmps201
 go_wp2_with (go_at_call 174;(with_reducible refine (HW.out _ _).mono ?_);rintro e w2 ⟨A,c,rfl,hR,hb,_⟩;replace S:=Lib.hid (S.out.below hb);have HRW:=Lib.hid hR;have hF0:=HF.out _ [] S.out;clear hR hb)
 clear hF0 HW HF
 obtain ⟨len,hlen⟩:∃ len,ks.length=len:=⟨_,rfl⟩
 have HLE:=Lib.hid hlen
 rw [hlen] at hl2 HRW ⊢
 clear hlen
 go_loopw [10,25] (fun m i wr=>∃ (k:Nat) (y:Int),k≤len∧i=.int .i64 k∧m=.int .i64 y∧Hid (Fs.goF n I (nv s) (ks.drop k) y=R)∧Lo [] w [(w.heap.size,eN b.s n I),(w.heap.size+1,aH x)] wr∧fk wr A len ks) (fun _ i _=>len - (intOf i).toNat)
 case atStart=>exact ⟨0,m0,Nat.zero_le _,rfl,rfl,HR0,S.out,HRW.out⟩
 case round=>
  obtain ⟨k,y,hk,rfl,rfl,HG,hS,hR⟩:=hrel
  replace S:=Lib.hid hS
  replace HRW:=Lib.hid hR
  clear hS hR
  by_cases hlt:k<len
  ·obtain ⟨bb,off,rfl,hbb,hcc⟩:=HRW.out.cells (by omega)
   obtain ⟨kk,hkk⟩:∃ kk,ks[k]?=some kk:=⟨_,List.getElem?_eq_getElem (by rw [HLE.out];exact hlt)⟩
   have ck:=hcc k kk hkk
   have HDR:Hid (ks.drop k=kk::ks.drop (k+1)):=Lib.hid (by
    obtain ⟨q1,q2⟩:=List.getElem?_eq_some_iff.1 hkk
    rw [List.drop_eq_getElem_cons q1,q2])
   clear hcc hkk hbb
   rw [HDR.out] at HG
   unfold Fs.goF at HG
   cases hd:Fs.dL n I y (nv s) with
   |
    ok p=>
    have HP:=Lib.hid (HLN.out y p hd)
    have HDD:=Lib.hid (fun (W:World) (l:List (Nat × List Value)) (hl:Lo [] w l W)=>HD.out W l y hl)
    rw [hd] at HG HDD
    simp only [exV] at HDD
    clear hd
    have HN:Hid (∀ W,Calls Tryz.prog 176 #[an p,.int .i64 kk] W fun e w'=>e=.returned (.int .i64 (nt p kk))∧Below W.heap.size W w'):=Lib.hid (fun W=>jR p kk W HP.out)
    go_wp2_with (first
     | (with_reducible refine aE (S.out.get 0 _ rfl).base rfl (.tmp 3) rfl rfl ?_)
     | (go_at_call 180;refine (HDD.out _ _ S.out).mono ?_;rintro e w3 ⟨rfl,hb⟩;replace S:=Lib.hid (S.out.below hb);replace HRW:=Lib.hid (HRW.out.step hb);clear hb ck)
     | ((with_reducible refine aq rfl (.tmp 13) (.tmp 33) rfl rfl ?_ ?_ HP.out ?_);(exact rfl);(exact rfl);intro W2 hP hB2 hz2;replace S:=Lib.hid (S.out.made hP.rowAt hB2 hz2);replace HRW:=Lib.hid (HRW.out.step hB2);clear hP hB2 hz2)
     | (with_reducible refine ah (S.out.aK 2 rfl HP.out) rfl (.tmp 13) rfl rfl ?_)
     | (go_at_call 176;(with_reducible refine (HN.out _).mono ?_);rintro e w4 ⟨rfl,hb⟩;replace S:=Lib.hid (S.out.below hb);replace HRW:=Lib.hid (HRW.out.step hb);clear hb))
    go_roundw
    case rel=>exact ⟨k+1,_,by omega,by go_num,rfl,HG,S.out.cut 2,HRW.out⟩
    case measure=>simp [intOf];omega
   |
    error er=>
    have he5:=HER.out y er hd
    subst he5
    have HDD:=Lib.hid (fun (W:World) (l:List (Nat × List Value)) (hl:Lo [] w l W)=>HD.out W l y hl)
    rw [hd] at HG HDD
    simp only [exV] at HDD
    clear hd
    go_wp2_with (first
     | (with_reducible refine aE (S.out.get 0 _ rfl).base rfl (.tmp 3) rfl rfl ?_)
     | (go_at_call 180;refine (HDD.out _ _ S.out).mono ?_;rintro e w3 ⟨rfl,hb⟩;replace S:=Lib.hid (S.out.below hb);replace HRW:=Lib.hid (HRW.out.step hb);clear hb ck)
     | ((with_reducible refine aq rfl (.tmp 13) (.tmp 33) rfl rfl ?_ ?_ aa ?_);(exact rfl);(exact rfl);intro W2 hP hB2 hz2;replace S:=Lib.hid (S.out.made hP.rowAt hB2 hz2);clear hP hB2 hz2))
    go_ret2
    rw [← HG.out]
    exact ⟨rfl,S.out.bel⟩
  ·obtain rfl:k=len:=by omega
   have HZ:Hid (ks.drop k=[]):=Lib.hid (List.drop_of_length_le (by rw [HLE.out];omega))
   rw [HZ.out] at HG
   go_wp2_with fail
   go_ret2
   rw [← HG.out]
   exact ⟨rfl,S.out.bel⟩
theorem Ej {w:World} {b:Blk} {s:Sto} {n I:Int} (hst:ay w b s) (v:Vs s n I) (x:Ino) (i:Int):Calls Tryz.prog 201 #[bW b.s n I,bH x,.int .i64 i] w fun e w'=>e=.returned (exV (fun m=>.int .i64 m) (.int .i64 0) (Fs.findF n I x i (nv s)))∧Below w.heap.size w w':=by
 cases h:Sp.okB i with
 |
  false=>
  have e:Fs.findF n I x i (nv s)=.ok 0:=by
   unfold Fs.findF Fs.dI Fs.iW
   rw [h,if_neg (by decide),if_neg (by decide)];rfl
  rw [e]
  exact Hc n I x i h
 | true=>exact Ei hst v x i h
theorem Ip {n I:Int} {V:Fs.View}:∀ (ks:List Int) (m:Int) {e:Int},Fs.goF n I V ks m=.error e→e=5
 | [],m,e,h=>by cases h
 |
  k::ks,m,e,h=>by
  rw [Fs.goF] at h
  cases hd:Fs.dL n I m V with
  | ok p=>rw [hd] at h;exact Ip ks _ h
  | error er=>rw [hd] at h;injection h with h;rw [← h];exact lC hd
theorem yh {n I:Int} {V:Fs.View} {x:Ino} {i e:Int} (h:Fs.findF n I x i V=.error e):e=5:=Ip _ _ h
theorem xF {n I:Int} {V:Fs.View} {x:Ino} {i e:Int} (h:Fs.gK n I x i V=.error e):e=5:=by
 unfold Fs.gK at h
 cases hd:Fs.findF n I x i V with
 | ok m=>rw [hd] at h;exact lC h
 | error er=>rw [hd] at h;injection h with h;rw [← h];exact yh hd
theorem FH {s:Sto} {n I:Int} {x:Ino} {i:Int} {p:List UInt8} (v:Vs s n I) (h:Fs.gK n I x i (nv s)=.ok p):p.length=64:=by
 unfold Fs.gK at h
 cases hd:Fs.findF n I x i (nv s) with
 | ok m=>rw [hd] at h;exact lB v h
 | error er=>rw [hd] at h;cases h
theorem FI (w:World) (st:Nat) (n I:Int) (x:Ino):Lo [] w [(w.heap.size,eN st n I),(w.heap.size+1,aH x),(w.heap.size+2,ab av)] (((w.alloc (.cells #[.pointer (some ⟨st,0,none⟩),.int .i64 n,.int .i64 I] 134)).alloc (.cells (aH x).toArray 103)).alloc (.cells zeroCells 87)):=
 (sh w st n I x).alloc (w.heap.size+2) (by simp) (ab av) 87
theorem Eh {w:World} {b:Blk} {s:Sto} {n I:Int} (hst:ay w b s) (v:Vs s n I) (x:Ino) (i:Int):Calls Tryz.prog 187 #[bW b.s n I,bH x,.int .i64 i] w fun e w'=>e=.returned (exV an (an av) (Fs.gK n I x i (nv s)))∧Below w.heap.size w w':=by
 have S0:=Lib.hid (FI w b.s n I x)
 have HF:Hid (∀ W l,Lo [] w l W→Calls Tryz.prog 201 #[bW b.s n I,bH x,.int .i64 i] W fun e w'=>e=.returned (exV (fun m=>.int .i64 m) (.int .i64 0) (Fs.findF n I x i (nv s)))∧Below W.heap.size W w'):=Lib.hid (fun W l hl=>Ej (hl.store hst) v x i)
 have HD:Hid (∀ W l m,Lo [] w l W→Calls Tryz.prog 180 #[bW b.s n I,.int .i64 m] W fun e w'=>e=.returned (exV an (an av) (Fs.dL n I m (nv s)))∧Below W.heap.size W w'):=Lib.hid (fun W l m hl=>pE (hl.store hst) v m)
 have HLN:=Lib.hid (fun (m:Int) (p:List UInt8) (hd:Fs.dL n I m (nv s)=.ok p)=>lB v hd)
 unfold Fs.gK
 cases hf:Fs.findF n I x i (nv s) with
 |
  error er=>
  have he5:=yh hf
  subst he5
  rw [hf] at HF
  simp only [exV] at HF ⊢
  clear v hst hf HD HLN
  unfold bW bH at HF ⊢
  go_enter Tryz.func187,Tryz.ntmps187
  go_wp2_with fail
  rw [← az]
  generalize hw:World.alloc _ _=w1
  have S:Hid (Lo [] w [(w.heap.size,eN b.s n I),(w.heap.size+1,aH x),(w.heap.size+2,ab av)] w1):=Lib.hid (by rw [← hw];exact S0.out)
  clear hw S0
  go_wp2_with (first
   | (go_at_call 201;refine (HF.out _ _ S.out).mono ?_;rintro e w3 ⟨rfl,hb⟩;replace S:=Lib.hid (S.out.below hb);clear hb)
   | ((with_reducible refine ax (S.out.aK 2 rfl aa) aa rfl (.tmp 6) (.tmp 19) rfl rfl ?_ ?_);(exact rfl)))
  have S2:=Lib.hid (S.out.Ig 2 rfl aa av aa)
  exact bodyPost_ret (aU _ 6 7 rfl _ (S2.out.aK 2 rfl aa) rfl) rfl ⟨rfl,S2.out.bel⟩
 |
  ok m=>
  rw [hf] at HF
  simp only [exV] at HF ⊢
  cases hd:Fs.dL n I m (nv s) with
  |
   error er=>
   have he5:=lC hd
   subst he5
   have HDD:=Lib.hid (fun (W:World) (l:List (Nat × List Value)) (hl:Lo [] w l W)=>HD.out W l m hl)
   rw [hd] at HDD
   simp only [exV] at HDD ⊢
   clear v hst hf hd HD HLN
   unfold bW bH at HF ⊢
   unfold bW at HDD
   go_enter Tryz.func187,Tryz.ntmps187
   go_wp2_with fail
   rw [← az]
   generalize hw:World.alloc _ _=w1
   have S:Hid (Lo [] w [(w.heap.size,eN b.s n I),(w.heap.size+1,aH x),(w.heap.size+2,ab av)] w1):=Lib.hid (by rw [← hw];exact S0.out)
   clear hw S0
   go_wp2_with (first
    | (go_at_call 201;refine (HF.out _ _ S.out).mono ?_;rintro e w3 ⟨rfl,hb⟩;replace S:=Lib.hid (S.out.below hb);clear hb)
    | (with_reducible refine aE (S.out.get 0 _ rfl).base rfl (.tmp 3) rfl rfl ?_)
    | (go_at_call 180;refine (HDD.out _ _ S.out).mono ?_;rintro e w3 ⟨rfl,hb⟩;replace S:=Lib.hid (S.out.below hb);clear hb)
    | ((with_reducible refine ax (S.out.aK 2 rfl aa) aa rfl (.tmp 6) (.tmp 24) rfl rfl ?_ ?_);(exact rfl)))
   have S2:=Lib.hid (S.out.Ig 2 rfl aa av aa)
   exact bodyPost_ret (aU _ 6 7 rfl _ (S2.out.aK 2 rfl aa) rfl) rfl ⟨rfl,S2.out.bel⟩
  |
   ok p=>
   have HP:=Lib.hid (HLN.out m p hd)
   have HDD:=Lib.hid (fun (W:World) (l:List (Nat × List Value)) (hl:Lo [] w l W)=>HD.out W l m hl)
   rw [hd] at HDD
   simp only [exV] at HDD ⊢
   clear v hst hf hd HD HLN
   unfold bW bH at HF ⊢
   unfold bW at HDD
   go_enter Tryz.func187,Tryz.ntmps187
   go_wp2_with fail
   rw [← az]
   generalize hw:World.alloc _ _=w1
   have S:Hid (Lo [] w [(w.heap.size,eN b.s n I),(w.heap.size+1,aH x),(w.heap.size+2,ab av)] w1):=Lib.hid (by rw [← hw];exact S0.out)
   clear hw S0
   go_wp2_with (first
    | (go_at_call 201;refine (HF.out _ _ S.out).mono ?_;rintro e w3 ⟨rfl,hb⟩;replace S:=Lib.hid (S.out.below hb);clear hb)
    | (with_reducible refine aE (S.out.get 0 _ rfl).base rfl (.tmp 3) rfl rfl ?_)
    | (go_at_call 180;refine (HDD.out _ _ S.out).mono ?_;rintro e w3 ⟨rfl,hb⟩;replace S:=Lib.hid (S.out.below hb);clear hb)
    | ((with_reducible refine ax (S.out.aK 2 rfl aa) HP.out rfl (.tmp 6) (.tmp 24) rfl rfl ?_ ?_);(exact rfl)))
   have S2:=Lib.hid (S.out.Ig 2 rfl aa p HP.out)
   exact bodyPost_ret (aU _ 6 7 rfl _ (S2.out.aK 2 rfl HP.out) rfl) rfl ⟨rfl,S2.out.bel⟩
end

section
open Go.RowKit Go.Maps
open Dk (av aa)
open Ii (Ino)
def pcL (c:Fs.Pc):List Value:=[.int .i64 (c.idx:Int),.int .i64 (c.at1:Int),.int .i64 (c.size:Int)]
theorem rI (c:Fs.Pc):∀ v∈pcL c,v.oneCell'=true:=by
 intro v hv
 simp [pcL] at hv
 rcases hv with rfl | rfl | rfl <;> rfl
theorem lS (c:Fs.Pc):(pcL c).length=3:=rfl
theorem pcT:mN 160 3:=⟨⟨_,Tryz.underlying160,rfl⟩,by kernel_rfl⟩
theorem Jv:(Tryz.prog.info? 160).map (fun i=>(i.zero,i.size,i.bytes))=some (some (.agg #[.int .i64 0,.int .i64 0,.int .i64 0]),3,24):=by kernel_rfl
structure nf (w:World) (A:Option Addr) (cs:List Fs.Pc):Prop where
 cells:0<cs.length→∃ b off,A=some ⟨b,off,none⟩∧b<w.heap.size∧∀ i c,cs[i]?=some c→w.rangeAt b (off+i*3) (pcL c)
theorem nf.step {w w':World} {A:Option Addr} {cs:List Fs.Pc} (h:nf w A cs) (hb:Below w.heap.size w w'):nf w' A cs:=
 ⟨fun h0=>by
  obtain ⟨b,off,e,hlt,hc⟩:=h.cells h0
  exact ⟨b,off,e,Nat.lt_of_lt_of_le hlt hb.size,fun i c hi j v hv=>(hb.cell (p:=⟨b,off+i*3+j,none⟩) hlt).trans (hc i c hi j v hv)⟩⟩
theorem nf.only {w w':World} {A:Option Addr} {cs:List Fs.Pc} {L:List Nat} (h:nf w A cs) (ho:aB L w w') (hL:∀ b off,A=some ⟨b,off,none⟩→b∉L):nf w' A cs:=
 ⟨fun h0=>by
  obtain ⟨b,off,e,hlt,hc⟩:=h.cells h0
  exact ⟨b,off,e,Nat.lt_of_lt_of_le hlt ho.size,fun i c hi=>cu (hc i c hi) (ho.block b hlt (hL b off e))⟩⟩
theorem xC:∀ (xs:List Fs.Pc) (i:Nat) (x:Fs.Pc) (j:Nat) (v:Value),xs[i]?=some x→(pcL x)[j]?=some v→(xs.flatMap pcL)[i*3+j]?=some v
 | [],i,x,j,v,hx,_=>by simp at hx
 |
  y::r,0,x,j,v,hx,hv=>by
  simp at hx
  subst hx
  have hj:j<3:=(List.getElem?_eq_some_iff.1 hv).1
  rw [List.flatMap_cons,Nat.zero_mul,Nat.zero_add,List.getElem?_append_left (by rw [lS];exact hj)]
  exact hv
 |
  y::r,i+1,x,j,v,hx,hv=>by
  rw [List.flatMap_cons,List.getElem?_append_right (by rw [lS];omega),lS,show (i+1)*3+j - 3=i*3+j by omega]
  exact xC r i x j v (by simpa using hx) hv
theorem zF {w:World} {base:Nat} {A:Option Addr} {n c:Nat} {xs:List Fs.Pc} (h:w.ownsRow base 160 3 (.slice A n c) n (xs.flatMap pcL)) (hn:n=xs.length):nf w A xs:=⟨fun h0=>by
 obtain ⟨h1,h2⟩:=h
 rcases h2 with ⟨e,e2⟩ | ⟨g,cap,cur,e,hb,hg,_,_,hsz,htk⟩
 ·exfalso;omega
 ·injection e with e _ _
  refine ⟨g,0,e,(Array.getElem?_eq_some_iff.1 hg).1,fun i x hxi j v hv=>?_⟩
  have hf:=xC xs i x j v hxi hv
  rw [← htk] at hf
  have hlt:i*3+j<n*3:=by
   have:=(List.getElem?_eq_some_iff.1 hf).1
   rw [List.length_take] at this;omega
  rw [List.getElem?_take_of_lt hlt] at hf
  simp only [World.cell?,hg,Nat.zero_add]
  simp only [Option.isSome_none,Bool.false_eq_true,if_false]
  rw [← Array.getElem?_toList]
  exact hf⟩
theorem aB.Io {L:List Nat} {w0 w w':World} {r:Option Nat} (h:aB L w0 w) (hg:w.grownBy w' r) (hr:∀ j,r=some j→w0.heap.size≤j):aB L w0 w' where
 os:=hg.os.trans h.os
 tape:=hg.tape.trans h.tape
 output:=hg.output.trans h.output
 size:=Nat.le_trans h.size hg.size
 block:=fun k hk hn=>(hg.block k (Nat.lt_of_lt_of_le hk h.size) (fun e=>by have:=hr k e.symm;omega)).trans (h.block k hk hn)
theorem Lo.grown {L:List Nat} {w0 w w':World} {l:List (Nat × List Value)} {r:Option Nat} (h:Lo L w0 l w) (hg:w.grownBy w' r) (hr:∀ j,r=some j→w0.heap.size≤j∧∀ x∈l,x.1≠j):Lo L w0 l w' where
 row:=fun x hx=>by
  obtain ⟨h1,h2,h3⟩:=h.row x hx
  exact ⟨h1.block (hg.block _ h3 (fun e=>(hr _ e.symm).2 x hx rfl)),h2,Nat.lt_of_lt_of_le h3 hg.size⟩
 ne:=h.ne
 only:=h.only.Io hg (fun j e=>(hr j e).1)
 low:=h.low
theorem vJ (off n:Int) (w:World) (h:n≤0):Calls Tryz.prog 119 #[.int .i64 off,.int .i64 n] w fun e w'=>e=.returned (.slice none 0 0)∧w=w':=by
 have h':¬ (0<n):=by omega
 go_enter Tryz.func119,Tryz.ntmps119
 go_wp2
 go_loop [0,1,5] (fun o m l=>o=.int .i64 off∧m=.int .i64 n∧l=.slice none 0 0) (fun _ _ _=>0)
 case atStart=>exact ⟨rfl,rfl,rfl⟩
 case round=>
  obtain ⟨rfl,rfl,rfl⟩:=hrel
  go_wp2
  go_ret
  exact ⟨rfl,rfl⟩
def pH (cs:List Fs.Pc) (w:World) (e:Ending) (w':World):Prop:=∃ A c,e=.returned (.slice A cs.length c)∧nf w' A cs∧(∀ b off,A=some ⟨b,off,none⟩→w.heap.size≤b)∧Below w.heap.size w w'
theorem oC (off n:Nat) (w:World) (h1:n≤67840) (h2:off≤5000000000):Calls Tryz.prog 119 #[.int .i64 (off:Int),.int .i64 (n:Int)] w (pH (Fs.pieces off n) w):=by
 have HS0:=Lib.hid (Lo.start (L:=[]) w (by simp))
 have HOW:Hid (w.ownsRow w.heap.size 160 3 (.slice none 0 0) 0 (([]:List Fs.Pc).flatMap pcL)):=Lib.hid ⟨rfl,Or.inl ⟨rfl,rfl⟩⟩
 generalize hPC:Fs.pieces off n=all
 have HPC:=Lib.hid hPC
 clear hPC
 go_enter Tryz.func119,Tryz.ntmps119
 go_wp2
 go_loopw [0,1,5] (fun o m l wr=>∃ (x y:Nat) (done:List Fs.Pc) (A:Option Addr) (c k:Nat),x+y≤off+n∧y≤n∧k+y≤n∧o=.int .i64 (x:Int)∧m=.int .i64 (y:Int)∧l=.slice A k c∧Hid (k=done.length)∧Hid (done++Fs.pieces x y=all)∧wr.ownsRow w.heap.size 160 3 (.slice A k c) k (done.flatMap pcL)∧Lo [] w [] wr) (fun _ m _ _=>(intOf m).toNat)
 case atStart=>exact ⟨off,n,[],none,0,0,Nat.le_refl _,Nat.le_refl _,by omega,rfl,rfl,rfl,Lib.hid rfl,HPC,HOW.out,HS0.out⟩
 case round=>
  obtain ⟨x,y,done,A,c,k,hxy,hyn,hky,rfl,rfl,rfl,HK,HD,hown,hS⟩:=hrel
  have S:=Lib.hid hS
  have HO:=Lib.hid hown
  clear hS hown HS0 HOW HPC
  by_cases hy:0<y
  ·have HST:=Lib.hid (Fs.kr x y (by omega))
   have hq1:(x:Int) / 64=((x / 64:Nat):Int):=by omega
   have hq2:(x:Int) % 64=((x % 64:Nat):Int):=by omega
   have hq3:min (y:Int) (64 - ((x % 64:Nat):Int))=((min y (64 - x % 64):Nat):Int):=by omega
   have hm1:1≤min y (64 - x % 64):=by omega
   have hm2:min y (64 - x % 64)≤y:=by omega
   have hx64:x % 64<64:=Nat.mod_lt _ (by omega)
   generalize min y (64 - x % 64)=z at HST hq3 hm1 hm2
   generalize x % 64=r at HST hq2 hq3 hx64
   generalize x / 64=qq at HST hq1
   have S1:Hid (Lo [] w [(wr.heap.size,pcL ⟨qq,r,z⟩)] ((wr.alloc (.cells (pcL ⟨qq,r,z⟩).toArray 160)).alloc (.cells (pcL ⟨qq,r,z⟩).toArray 160))):=Lib.hid ((S.out.alloc _ rfl (pcL ⟨qq,r,z⟩) _).skip _)
   have HNW:Hid (∀ j u,(pcL ⟨qq,r,z⟩)[j]?=some u→((wr.alloc (.cells (pcL ⟨qq,r,z⟩).toArray 160)).alloc (.cells (pcL ⟨qq,r,z⟩).toArray 160)).cell? ((⟨wr.heap.size+1,0,none⟩:Addr).add j)=some u):=Lib.hid (by
    have:=ym (wr.alloc (.cells (pcL ⟨qq,r,z⟩).toArray 160)) (pcL ⟨qq,r,z⟩) 160
    simpa using this)
   have HO2:=Lib.hid ((HO.out.alloc (.cells (pcL ⟨qq,r,z⟩).toArray 160)).alloc (.cells (pcL ⟨qq,r,z⟩).toArray 160))
   have HSZ:Hid (w.heap.size≤((wr.alloc (.cells (pcL ⟨qq,r,z⟩).toArray 160)).alloc (.cells (pcL ⟨qq,r,z⟩).toArray 160)).heap.size):=Lib.hid (by have:=S.out.only.size;simp;omega)
   have HLT:=Lib.hid (fun j hj=>HO.out.lt j hj)
   obtain ⟨i0,hi0,hz0,hs0,hb0⟩:=info_parts Jv
   have HI0:=Lib.hid hi0
   have HZ0:=Lib.hid hz0
   have HS0:=Lib.hid hs0
   have HB0:=Lib.hid hb0
   clear hi0 hz0 hs0 hb0
   go_wp2_with (at_builtin;go_must (refine wpList_append_own_at _ rfl (.tmp 20) (.tmp 22) 157 rfl w.heap.size 160 i0 _ 3 24 Tryz.underlying157 HI0.out HZ0.out HS0.out HB0.out rfl (by omega) _ k _ rfl HO2.out ⟨wr.heap.size+1,0,none⟩ 1 1 (pcL ⟨qq,r,z⟩) rfl rfl HNW.out (rI _) (by unfold maxLen;omega) (by omega) HSZ.out ?_);intro v' w5 hown' hgrow hnil hloc;obtain ⟨A',c',rfl⟩:=qw hown';have S2:=Lib.hid (S1.out.grown hgrow (fun j hj=>⟨(HLT.out j hj).1,fun x hx=>by rw [List.mem_singleton] at hx;subst hx;have:=(HLT.out j hj).2;simp only;omega⟩));have HO3:=Lib.hid hown';clear hown' hgrow hnil hloc;have c0:=(S2.out.get 0 _ rfl).cell 0 _ rfl;have c1:=(S2.out.get 0 _ rfl).cell 1 _ rfl;have c2:=(S2.out.get 0 _ rfl).cell 2 _ rfl)
   clear hq1 hq2 hq3 S1 HNW HO2 HSZ HLT HI0 HZ0 HS0 HB0 S HO
   have hs1:IntKind.i64.wrap ((x:Int)+(z:Int))=(x:Int)+(z:Int):=IntWalk.i64_in _ (by omega)
   have hs2:IntKind.i64.wrap ((y:Int) - (z:Int))=(y:Int) - (z:Int):=IntWalk.i64_in _ (by omega)
   go_quiet (fail)
   clear hs1 hs2 c0 c1 c2
   go_wp2
   have HR1:Hid (k+1=(done++[(⟨qq,r,z⟩:Fs.Pc)]).length):=Lib.hid (by rw [HK.out];simp)
   have HR2:Hid ((done++[(⟨qq,r,z⟩:Fs.Pc)])++Fs.pieces (x+z) (y - z)=all):=Lib.hid (by rw [← HD.out,HST.out];simp)
   have HR3:Hid (w5.ownsRow w.heap.size 160 3 (.slice A' (k+1) c') (k+1) ((done++[(⟨qq,r,z⟩:Fs.Pc)]).flatMap pcL)):=Lib.hid (by rw [List.flatMap_append];simpa using HO3.out)
   have hn1:(x:Int)+(z:Int)=((x+z:Nat):Int):=by omega
   have hn2:(y:Int) - (z:Int)=((y - z:Nat):Int):=by omega
   go_roundw
   case rel=>exact ⟨x+z,y - z,_,A',c',k+1,by omega,by omega,by omega,by rw [hn1],by rw [hn2],rfl,HR1,HR2,HR3.out,(S2.out.cut 0).drewN _⟩
   case measure=>simp [intOf];omega
  ·obtain rfl:y=0:=by omega
   have HF:Hid (pH all w (.returned (.slice A k c)) wr):=Lib.hid (by
    have e:all=done:=by rw [← HD.out,Fs.oA,List.append_nil]
    rw [e]
    refine ⟨A,c,by rw [HK.out],zF HO.out HK.out,fun b off hA=>?_,S.out.bel⟩
    subst hA
    exact (HO.out.lt b rfl).1)
   clear HO HK HD
   go_wp2_with fail
   go_ret
   exact HF.out
end

section
open Dk (av aa)
open Go.RowKit
theorem Lv:(Tryz.prog.info? 208).map (·.size)=some 2:=by kernel_rfl
theorem Dr:(Tryz.prog.info? 5).map (fun i=>(i.size,i.bytes))=some (1,1):=by kernel_rfl
theorem AG:(Tryz.prog.info? 5).map (fun i=>i.zero)=some (some (.int .u8 0)):=by kernel_rfl
theorem pP (b:Nat) (w:World) (h0:w.cell? ⟨b,0,none⟩=some (.pointer (some ⟨b,0,none⟩))):
  Calls Tryz.prog 228 #[.pointer (some ⟨b,0,none⟩)] w fun e w'=>e=.returned (.tuple #[])∧w=w':=by
 obtain ⟨j,hj,_⟩:=Option.map_eq_some_iff.1 Lv
 go_enter Tryz.func228,Tryz.ntmps228
 go_wp2
 rw [Lib.run_neq_ptr_same w _ Tryz.underlying206 hj]
 go_wp2
 go_end0
 exact ⟨rfl,rfl⟩
theorem pv (b:Nat) (w:World) (h0:w.cell? ⟨b,0,none⟩=some (.pointer none)) (hsh:w.shape? b=some (208,2)) (hfz:w.frozen? ⟨b,0,none⟩=false):
  Calls Tryz.prog 228 #[.pointer (some ⟨b,0,none⟩)] w fun e w'=>e=.returned (.tuple #[])∧w.setCell ⟨b,0,none⟩ (.pointer (some ⟨b,0,none⟩))=w':=by
 obtain ⟨j,hj,hjs⟩:=Option.map_eq_some_iff.1 Lv
 go_enter Tryz.func228,Tryz.ntmps228
 go_wp2
 rw [Lib.run_to_unsafe w ⟨b,0,none⟩ Tryz.underlying206 Tryz.underlying273 hj (by rw [hjs];decide) hsh (Nat.zero_lt_succ 1)]
 simp only [Result.andThen]
 rw [Oper.upon_value]
 go_wp2
 rw [run_callFunc_extern Tryz.func255 (by kernel_rfl) (by kernel_rfl) (by kernel_rfl) (e:=Extern.AbiNoEscape.same) (by kernel_rfl)]
 rw [Lib.run_noEscape]
 simp only [Result.andThen]
 rw [Oper.upon_value]
 go_wp2
 rw [Lib.run_from_unsafe w ⟨b,0,none⟩ Tryz.underlying273 Tryz.underlying206 hj hsh (by kernel_rfl)]
 simp only [Result.andThen]
 rw [Oper.upon_value]
 go_wp2
 go_end0
 exact ⟨rfl,rfl⟩
theorem yT (B b:Nat) (p:Value) (w:World) (hbk:w.heap[b]?=some (.cells #[p,.slice none 0 0] 208 (0,0))):
  Calls Tryz.prog 190 #[.pointer (some ⟨b,0,none⟩)] w fun e w'=>e=.returned (.string (strOf []))∧Below B w w':=by
 have hUS:∀ (W:World) (q:Option Addr),(Builtin.unsafeString_ #[244,3] 9 #[.pointer q,.int .i64 0]).run Tryz.prog W=.ok (.string .empty) W:=fun W q=>Lib.run_unsafeString_none W _ _ _ q
 have c1:w.drew.cell? ⟨b,1,none⟩=some (.slice none 0 0):=by
  have:w.drew.heap[b]?=_:=hbk
  rw [Lib.cell_of_heap this];rfl
 have hSD:(Builtin.unsafeSliceData_ #[40] 244 #[.slice none 0 0]).run Tryz.prog w.drew=.ok (.pointer none) w.drew:=rfl
 clear hbk
 go_enter Tryz.func190,Tryz.ntmps190
 go_wp2
 go_region
 all_goals (go_wp2;go_ret;exact ⟨rfl,Below.drew (Below.refl B w)⟩)
end

section
open Go.RowKit Go.Maps
open Dk (av aa)
theorem lL (s:ByteArray):Lib.strCells s=ab s.data.toList:=by
 unfold Lib.strCells ab
 rfl
def Bld (B b:Nat) (p:Value) (l:List UInt8) (w:World):Prop:=∃ v,w.heap[b]?=some (.cells #[p,v] 208 (0,0))∧w.ownsRow B 5 1 v l.length (ab l)∧(l=[]→v=.slice none 0 0)
theorem Kd {w w':World} {B:Nat} (hb:w'.heap[w.heap.size]?=(w.alloc (.cells #[.pointer none,.slice none 0 0] 208)).heap[w.heap.size]?):Bld B w.heap.size (.pointer none) [] w':=
 ⟨.slice none 0 0,by rw [hb];exact heap_alloc_new w _,World.ownsRow_nil _ _ _ _,fun _=>rfl⟩
theorem Bld.step {B b:Nat} {p:Value} {l:List UInt8} {w w':World} (h:Bld B b p l w) (hb:Below w.heap.size w w'):Bld B b p l w':=by
 obtain ⟨v,h1,h2,h3⟩:=h
 have hlt:=(Array.getElem?_eq_some_iff.1 h1).1
 refine ⟨v,(hb.block b hlt).trans h1,?_,h3⟩
 obtain ⟨q1,q2⟩:=h2
 refine ⟨q1,?_⟩
 rcases q2 with q | ⟨g,cap,cur,e1,e2,e3,e4⟩
 ·exact Or.inl q
 ·exact Or.inr ⟨g,cap,cur,e1,e2,(hb.block g (Array.getElem?_eq_some_iff.1 e3).1).trans e3,e4⟩
theorem xG {w:World} {B b n:Nat} {e:TypeId} {v:Value} {xs:List Value} (h:w.ownsRow B e 1 v n xs) (hb:b<B) (j:Nat) (u:Value):(w.setCell ⟨b,j,none⟩ u).ownsRow B e 1 v n xs:=
 h.kept (row:=some b) ⟨rfl,rfl,rfl,by simp [World.setCell],fun k _ hk=>Below.heap_setCell _ _ _ _ (fun e=>hk (by simp [e]))⟩ (Or.inr (fun q=>by have:=(h.lt b q).1;omega))
theorem nG (B b:Nat) (p:Value) (l:List UInt8) (s:ByteArray) (W0 w:World) (hW:W0.heap.size=B) (ho:aB [b] W0 w) (h:Bld B b p l w) (hp:p=.pointer none∨p=.pointer (some ⟨b,0,none⟩)) (hbB:b<B) (hl:l.length+s.size≤1000000) (hs:0<s.size):
  Calls Tryz.prog 188 #[.pointer (some ⟨b,0,none⟩),.string s] w fun e w'=>e=.returned (.tuple #[.int .i64 (s.size:Int),.nilIface])∧Bld B b (.pointer (some ⟨b,0,none⟩)) (l++s.data.toList) w'∧aB [b] W0 w':=by
 obtain ⟨i,hi,hz⟩:=Option.map_eq_some_iff.1 Dr
 have hzero:i.zero=some (.int .u8 0):=by
  have:=AG
  rw [hi] at this
  simpa using this
 have HSS:Hid (s.size=s.data.toList.length):=Lib.hid (by rw [Array.length_toList];rfl)
 obtain ⟨v,hbk,hown,hnil⟩:=h
 have hlt:b<w.heap.size:=(Array.getElem?_eq_some_iff.1 hbk).1
 have HC:Hid (∃ w1,(Calls Tryz.prog 228 #[.pointer (some ⟨b,0,none⟩)] w fun e w'=>e=.returned (.tuple #[])∧w1=w')∧w1.heap[b]?=some (.cells #[.pointer (some ⟨b,0,none⟩),v] 208 (0,0))∧w1.ownsRow B 5 1 v l.length (ab l)∧aB [b] W0 w1):=Lib.hid (by
  have c0:w.cell? ⟨b,0,none⟩=some p:=by rw [Lib.cell_of_heap hbk];rfl
  rcases hp with rfl | rfl
  ·refine ⟨_,pv b w c0 (by unfold World.shape?;rw [hbk];rfl) (Lib.frozen_of_heap hbk 0),?_,xG hown hbB _ _,ho.setCell (by simp) _⟩
   simp [World.setCell,Array.getElem?_modify,hbk]
  ·exact ⟨w,pP b w c0,hbk,hown,ho⟩)
 clear ho hown hbk hp
 obtain ⟨w1,HC1,HB1,HO1,HL1⟩:=HC.out
 have HC1:=Lib.hid HC1
 have HB1':=Lib.hid HB1
 have c1:w1.cell? ⟨b,1,none⟩=some v:=by rw [Lib.cell_of_heap HB1];rfl
 have HO1':=Lib.hid HO1
 have HL1':=Lib.hid HL1
 have hsz1:=HL1.size
 have hb1:b<w1.heap.size:=by omega
 clear HC HB1 HO1 HL1
 go_enter Tryz.func188,Tryz.ntmps188
 go_wp2_with (first
  | (go_at_call 228;refine HC1.out.mono ?_;rintro e w' ⟨rfl,rfl⟩)
  | (at_builtin;go_must (refine Lib.wpList_append_own_string _ rfl (.tmp 12) (.tmp 13) 40 9 rfl B 5 i Tryz.underlying40 Tryz.underlying9 hi hzero (congrArg Prod.fst hz) (congrArg Prod.snd hz) v l.length (ab l) rfl HO1'.out s rfl (by unfold maxLen;omega) (by omega) (by omega) ?_)))
 intro v' w2 hown' hgrow hnil'
 rw [lL] at hown'
 have hbel:aB [b] W0 w2:=HL1'.out.Io hgrow (fun j hj=>by have:=(HO1'.out.lt j hj).1;omega)
 have hb2:w2.heap[b]?=some (.cells #[.pointer (some ⟨b,0,none⟩),v] 208 (0,0)):=(hgrow.block b hb1 (fun e=>by have:=(HO1'.out.lt b e.symm).1;omega)).trans HB1'.out
 have d0:w2.cell? ⟨b,0,none⟩=some (.pointer (some ⟨b,0,none⟩)):=by rw [Lib.cell_of_heap hb2];rfl
 have d1:w2.cell? ⟨b,1,none⟩=some v:=by rw [Lib.cell_of_heap hb2];rfl
 have f1:w2.frozen? ⟨b,1,none⟩=false:=Lib.frozen_of_heap hb2 1
 have HF:Hid (Bld B b (.pointer (some ⟨b,0,none⟩)) (l++s.data.toList) (w2.setCell ⟨b,1,none⟩ v')):=Lib.hid ⟨v',by simp [World.setCell,Array.getElem?_modify,hb2],by
  have e1:(l++s.data.toList).length=l.length+s.size:=by rw [List.length_append,← HSS.out]
  have e2:ab (l++s.data.toList)=ab l++ab s.data.toList:=by unfold ab;rw [List.map_append]
  rw [e1,e2]
  exact xG hown' hbB _ _,fun e=>by
   have:=congrArg List.length e
   rw [List.length_append,← HSS.out,List.length_nil] at this
   omega⟩
 have HL:Hid (aB [b] W0 (w2.setCell ⟨b,1,none⟩ v')):=Lib.hid (hbel.setCell (by simp) _)
 obtain ⟨ao,n',cap,rfl⟩:∃ ao n' cap,v'=.slice ao n' cap:=by
  rcases hown'.2 with ⟨hv,_⟩ | ⟨g,cap,cur,hv,_⟩
  ·exact ⟨_,_,_,hv⟩
  ·exact ⟨_,_,_,hv⟩
 clear hbel hown' hgrow hb2 hnil'
 go_wp2
 go_ret2
 exact ⟨rfl,HF.out,HL.out⟩
theorem wP (B b:Nat) (p:Value) (l:List UInt8) (w:World) (h:Bld B b p l w) (hm:l.length≤1000000) (hB:B≤w.heap.size):
  Calls Tryz.prog 190 #[.pointer (some ⟨b,0,none⟩)] w fun e w'=>e=.returned (.string (strOf l))∧Below B w w':=by
 obtain ⟨v,hbk,hown,hnil⟩:=h
 by_cases h0:l=[]
 ·subst h0
  have hv:=hnil rfl
  subst hv
  exact (yT w.heap.size b p w hbk).mono fun e w' ⟨h1,h2⟩=>⟨h1,h2.mono hB⟩
 ·have hl0:l.length≠0:=by simpa using h0
  obtain ⟨g,cap,cur,rfl,hbg,hg,hnc,hcm,hcs,htake⟩:∃ g cap cur,v=.slice (some ⟨g,0,none⟩) l.length cap∧B≤g∧w.heap[g]?=some (.cells cur 5 (0,0))∧l.length≤cap∧cap≤maxLen∧cur.size=cap*1∧cur.toList.take (l.length*1)=ab l:=by
   rcases hown.2 with ⟨_,hz⟩ | ⟨g,cap,cur,hv,r⟩
   ·exact absurd hz hl0
   ·exact ⟨g,cap,cur,hv,r⟩
  have c1:w.drew.cell? ⟨b,1,none⟩=some (.slice (some ⟨g,0,none⟩) l.length cap):=by
   have:w.drew.heap[b]?=_:=hbk
   rw [Lib.cell_of_heap this];rfl
  have hSD:(Builtin.unsafeSliceData_ #[40] 244 #[.slice (some ⟨g,0,none⟩) l.length cap]).run Tryz.prog w.drew=.ok (.pointer (some ⟨g,0,none⟩)) w.drew:=
   Lib.run_unsafeSliceData_row _ _ _ _ _ _ (by omega)
  have hUS:(Builtin.unsafeString_ #[244,3] 9 #[.pointer (some ⟨g,0,none⟩),.int .i64 l.length]).run Tryz.prog w.drew=.ok (.string (strOf l)) (w.drew.freeze ⟨g,0,none⟩ l.length):=by
   refine Lib.run_unsafeString_row w.drew 244 3 9 5 Tryz.underlying244 yl g cur.size (by have hg':w.drew.heap[g]?=some (.cells cur 5 (0,0)):=hg;simp [World.shape?,hg']) l h0 (by omega) (by omega) ?_
   intro j x hx
   exact hown.cells (g:=g) rfl j (.int .u8 x.toNat) (by simp [ab,hx])
  have HB:Hid (Below B w (w.drew.freeze ⟨g,0,none⟩ l.length)):=Lib.hid (Lib.below_freeze (Below.drew (Below.refl B w)) (p:=⟨g,0,none⟩) hbg _)
  have hk:l.length≤9223372036854775807:=by omega
  generalize strOf l=s at hUS ⊢
  clear hown htake hcs hg hbk h0 hl0 hnil
  go_enter Tryz.func190,Tryz.ntmps190
  go_wp2
  go_region
  all_goals (go_wp2;go_ret;exact ⟨rfl,HB.out⟩)
end

section
open Go.RowKit Go.Maps
open Dk (av aa)
open Ii (Ino)
theorem zB (off n:Int) (w:World) (h:n≤0∨(0≤off∧off≤5000000000∧n≤67840)):Calls Tryz.prog 119 #[.int .i64 off,.int .i64 n] w (pH (Fs.pieces off.toNat n.toNat) w):=by
 by_cases c:n≤0
 ·have e:n.toNat=0:=by omega
  rw [e,Fs.oA]
  refine (vJ off n w c).mono ?_
  rintro e w' ⟨rfl,rfl⟩
  exact ⟨none,0,rfl,⟨fun h=>absurd h (by simp)⟩,(fun b off h=>by cases h),Below.refl _ _⟩
 ·obtain ⟨h1,h2,h3⟩:=h.resolve_left c
  have:=oC off.toNat n.toNat w (by omega) (by omega)
  rw [Int.toNat_of_nonneg h1,Int.toNat_of_nonneg (by omega)] at this
  exact this
namespace Fs
def tI:List Pc→Nat
 | []=>0
 | c::cs=>c.size+tI cs
theorem oB:∀ (n off:Nat),tI (pieces off n)=n∧∀ c∈pieces off n,1≤c.size∧c.at1+c.size≤64:=by
 intro n
 induction n using Nat.strongRecOn with
 |
  ind n ih=>
  intro off
  by_cases h:n=0
  ·subst h;exact ⟨rfl,fun c hc=>by cases hc⟩
  ·rw [kr off n h]
   have h64:off % 64<64:=Nat.mod_lt _ (by omega)
   obtain ⟨h1,h2⟩:=ih (n - min n (64 - off % 64)) (by omega) (off+min n (64 - off % 64))
   refine ⟨?_,fun c hc=>?_⟩
   ·rw [tI,h1];simp only;omega
   ·rcases List.mem_cons.1 hc with rfl | hc
    ·simp only;omega
    ·exact h2 c hc
theorem tH (cs:List Pc) (k:Nat) (c:Pc) (h:cs[k]?=some c):tI (cs.drop k)=c.size+tI (cs.drop (k+1)):=by
 obtain ⟨h1,h2⟩:=List.getElem?_eq_some_iff.1 h
 rw [List.drop_eq_getElem_cons h1,h2];rfl
end Fs
theorem EW {p:List UInt8} {a n:Nat} (hp:p.length=64) (h:a+n≤64):(Pg.kj p (a:Int) (n:Int)).length=n:=by
 unfold Pg.kj
 rw [if_pos (Pg.qL (by omega) (by omega) (by omega))]
 simp
 omega
theorem KS (k:Nat) (h:k≤4):(256:Int) ^ k≤4294967296:=by
 have:k=0∨k=1∨k=2∨k=3∨k=4:=by omega
 rcases this with rfl | rfl | rfl | rfl | rfl <;> decide
theorem Gk (V:Fs.View) (i:Int):0≤(Fs.bJ V i).s∧(Fs.bJ V i).s<4294967296:=by
 unfold Fs.bJ
 split
 ·exact ⟨Int.le_refl _,by decide⟩
 ·unfold Ii.sB
  simp only
  unfold Pg.ba
  split
  ·have h:=Pg.iA ((List.drop (Fs.dd i+8).toNat (V (Fs.tbl i))).take 4)
   have hl:((List.drop (Fs.dd i+8).toNat (V (Fs.tbl i))).take 4).length≤4:=by simp;omega
   exact ⟨h.1,Int.lt_of_lt_of_le h.2 (KS _ hl)⟩
  ·exact ⟨Int.le_refl _,by decide⟩
def BP (acc:List UInt8):Except Int (List UInt8)→Except Int (List UInt8)
 | .ok t=>.ok (acc++t)
 | .error e=>.error e
theorem JM {α:Type} {e e':Int} (h:(Except.error e:Except Int α)=.error e'):e=e':=by cases h;rfl
theorem Ih {α:Type} {a:α} {e:Int} (h:(Except.ok a:Except Int α)=.error e):False:=by cases h
theorem BN {t1:List UInt8} {r:Except Int (List UInt8)} {e:Int} (h:Fs.BO t1 r=.error e):r=.error e:=by
 cases r with
 | error e'=>exact h
 | ok t=>exact absurd h (by unfold Fs.BO;intro q;exact Ih q)
theorem kX {n I:Int} {x:Ino} {V:Fs.View} (cs:List Fs.Pc):∀ {e:Int},Fs.fb n I x V cs=.error e→e=5:=by
 induction cs with
 |
  nil=>
  intro e h
  rw [Fs.gQ] at h
  exact (Ih h).elim
 |
  cons c cs ih=>
  intro e h
  cases hd:Fs.gK n I x c.idx V with
  |
   error er=>
   rw [Fs.kY hd] at h
   rw [← JM h]
   exact xF hd
  |
   ok p=>
   rw [Fs.nr hd] at h
   exact ih (BN h)
theorem Bk:(⟨#[]⟩:ByteArray)=strOf []:=rfl
theorem GZ {w:World} {b:Blk} {s:Sto} {n I:Int} (hst:ay w b s) (v:Vs s n I) (i off cnt:Int) (h:Fs.cV I i (nv s)=.error 22):Calls Tryz.prog 132 #[bW b.s n I,.int .i64 i,.int .i64 off,.int .i64 cnt] w fun e w'=>e=.returned (.tuple #[.string ⟨#[]⟩,.int .i64 22])∧Below w.heap.size w w':=by
 have S:=Lib.hid (fG w b.s n I)
 have HT:Hid (∀ W l,Lo [] w l W→Calls Tryz.prog 173 #[bW b.s n I,.int .i64 i] W fun e w'=>e=.returned (.tuple #[bH Ii.zero,.int .i64 22])∧Below W.heap.size W w'):=Lib.hid (fun W l hl=>uE (hl.store hst) v i h)
 clear hst v h
 unfold bW at HT ⊢
 go_enter Tryz.func132,Tryz.ntmps132
 go_wp2_with (first
  | (with_reducible refine aE (S.out.get 0 _ rfl).base rfl (.tmp 4) rfl rfl ?_)
  | (go_at_call 173;refine (HT.out _ _ S.out).mono ?_;rintro e w1 ⟨rfl,hb⟩;replace S:=Lib.hid (S.out.below hb);clear hb)
  | ((with_reducible refine ai (vs:=aH Ii.zero) cz ?_ (aJ _) rfl (.tmp 10) (.tmp 21) rfl rfl ?_ ?_ ?_);(exact rfl);(exact rfl);(exact rfl);intro W4 hP hB2 hz2;replace S:=Lib.hid (S.out.made hP hB2 hz2);clear hP hB2 hz2))
 go_ret2
 exact ⟨rfl,S.out.bel⟩
theorem Eg {w:World} {b:Blk} {s:Sto} {n I:Int} (hst:ay w b s) (v:Vs s n I) (i off cnt:Int) {x:Ino} (h:Fs.cV I i (nv s)=.ok x) (ho:off<0∨cnt<0∨67840<cnt):Calls Tryz.prog 132 #[bW b.s n I,.int .i64 i,.int .i64 off,.int .i64 cnt] w fun e w'=>e=.returned (.tuple #[.string ⟨#[]⟩,.int .i64 22])∧Below w.heap.size w w':=by
 have S:=Lib.hid (fG w b.s n I)
 have HT:Hid (∀ W l,Lo [] w l W→Calls Tryz.prog 173 #[bW b.s n I,.int .i64 i] W fun e w'=>e=.returned (.tuple #[bH x,.int .i64 0])∧Below W.heap.size W w'):=Lib.hid (fun W l hl=>mr (hl.store hst) v i h)
 clear hst v h
 unfold bW at HT ⊢
 by_cases h1:off<0
 ·clear ho
  go_enter Tryz.func132,Tryz.ntmps132
  go_wp2_with (first
   | (with_reducible refine aE (S.out.get 0 _ rfl).base rfl (.tmp 4) rfl rfl ?_)
   | (go_at_call 173;refine (HT.out _ _ S.out).mono ?_;rintro e w1 ⟨rfl,hb⟩;replace S:=Lib.hid (S.out.below hb);clear hb)
   | ((with_reducible refine ai (vs:=aH x) cz ?_ (aJ _) rfl (.tmp 10) (.tmp 21) rfl rfl ?_ ?_ ?_);(exact rfl);(exact rfl);(exact rfl);intro W4 hP hB2 hz2;replace S:=Lib.hid (S.out.made hP hB2 hz2);clear hP hB2 hz2))
  go_ret2
  exact ⟨rfl,S.out.bel⟩
 ·by_cases h2:cnt<0
  ·clear ho
   go_enter Tryz.func132,Tryz.ntmps132
   go_wp2_with (first
    | (with_reducible refine aE (S.out.get 0 _ rfl).base rfl (.tmp 4) rfl rfl ?_)
    | (go_at_call 173;refine (HT.out _ _ S.out).mono ?_;rintro e w1 ⟨rfl,hb⟩;replace S:=Lib.hid (S.out.below hb);clear hb)
    | ((with_reducible refine ai (vs:=aH x) cz ?_ (aJ _) rfl (.tmp 10) (.tmp 21) rfl rfl ?_ ?_ ?_);(exact rfl);(exact rfl);(exact rfl);intro W4 hP hB2 hz2;replace S:=Lib.hid (S.out.made hP hB2 hz2);clear hP hB2 hz2))
   go_ret2
   exact ⟨rfl,S.out.bel⟩
  ·have h3:67840<cnt:=by omega
   clear ho
   go_enter Tryz.func132,Tryz.ntmps132
   go_wp2_with (first
    | (with_reducible refine aE (S.out.get 0 _ rfl).base rfl (.tmp 4) rfl rfl ?_)
    | (go_at_call 173;refine (HT.out _ _ S.out).mono ?_;rintro e w1 ⟨rfl,hb⟩;replace S:=Lib.hid (S.out.below hb);clear hb)
    | ((with_reducible refine ai (vs:=aH x) cz ?_ (aJ _) rfl (.tmp 10) (.tmp 21) rfl rfl ?_ ?_ ?_);(exact rfl);(exact rfl);(exact rfl);intro W4 hP hB2 hz2;replace S:=Lib.hid (S.out.made hP hB2 hz2);clear hP hB2 hz2))
   go_ret2
   exact ⟨rfl,S.out.bel⟩
theorem Ef {w:World} {b:Blk} {s:Sto} {n I:Int} (hst:ay w b s) (v:Vs s n I) (i off cnt:Int) {x:Ino} (h:Fs.cV I i (nv s)=.ok x) (h1:0≤off) (h1b:off≤9223372036854775807) (h2:0≤cnt) (h3:cnt≤67840):Calls Tryz.prog 132 #[bW b.s n I,.int .i64 i,.int .i64 off,.int .i64 cnt] w fun e w'=>
  e=.returned (exV (fun l=>.string (strOf l)) (.string ⟨#[]⟩) (Fs.fb n I x (nv s) (Fs.pieces off.toNat (min cnt (x.s - off)).toNat)))∧Below w.heap.size w w':=by
 have S:=Lib.hid (fG w b.s n I)
 have hsz:0≤x.s∧x.s<4294967296:=by
  obtain ⟨_,_,e,_⟩:=sS h
  rw [e];exact Gk _ _
 have HT:Hid (∀ W l,Lo [] w l W→Calls Tryz.prog 173 #[bW b.s n I,.int .i64 i] W fun e w'=>e=.returned (.tuple #[bH x,.int .i64 0])∧Below W.heap.size W w'):=Lib.hid (fun W l hl=>mr (hl.store hst) v i h)
 have HPC:=Lib.hid (fun W=>zB off (min cnt (x.s - off)) W (by omega))
 have HPG:Hid (∀ W0 Bb W l k,Below w.heap.size w W0→w.heap.size≤Bb→Lo [Bb] W0 l W→Calls Tryz.prog 187 #[bW b.s n I,bH x,.int .i64 k] W fun e w'=>e=.returned (exV an (an av) (Fs.gK n I x k (nv s)))∧Below W.heap.size W w'):=Lib.hid (fun W0 Bb W l k hb hB hl=>by
  have h0:ay W0 b s:=hst.below hb
  refine Eh (h0.only hl.only (fun q hq=>?_)) v x k
  have:=hst.lt q hq
  simp only [List.mem_singleton]
  omega)
 have HLN:=Lib.hid (fun (k:Int) (p:List UInt8) (hd:Fs.gK n I x k (nv s)=.ok p)=>FH v hd)
 obtain ⟨hps1,hps2⟩:=Fs.oB (min cnt (x.s - off)).toNat off.toNat
 have hps3:Fs.tI (Fs.pieces off.toNat (min cnt (x.s - off)).toNat)≤67840:=by rw [hps1];omega
 have HPS:=Lib.hid hps2
 have HPM:=Lib.hid hps3
 clear hst v h hps1 hps2 hps3
 have hmn:min cnt (x.s - off)=min cnt (x.s - off):=rfl
 clear hmn
 generalize Fs.pieces off.toNat (min cnt (x.s - off)).toNat=cs at HPC HPS HPM ⊢
 generalize hR0:Fs.fb n I x (nv s) cs=R
 have HR0:Hid (BP [] (Fs.fb n I x (nv s) (cs.drop 0))=R):=Lib.hid (by
  rw [List.drop_zero,hR0]
  cases R <;> rfl)
 have HRE:=Lib.hid (fun e (h:R=.error e)=>kX cs (hR0.trans h))
 clear hR0
 unfold bW at HT ⊢
 unfold pH at HPC
 go_enter Tryz.func132,Tryz.ntmps132
 go_wp2_with (first
  | (with_reducible refine aE (S.out.get 0 _ rfl).base rfl (.tmp 4) rfl rfl ?_)
  | (go_at_call 173;refine (HT.out _ _ S.out).mono ?_;rintro e w1 ⟨rfl,hb⟩;replace S:=Lib.hid (S.out.below hb);clear hb)
  | ((with_reducible refine ai (vs:=aH x) cz ?_ (aJ _) rfl (.tmp 10) (.tmp 21) rfl rfl ?_ ?_ ?_);(exact rfl);(exact rfl);(exact rfl);intro W4 hP hB2 hz2;replace S:=Lib.hid (S.out.made hP hB2 hz2);clear hP hB2 hz2;have c4:∀ o,(W4.alloc o).cell? ⟨w1.heap.size,4,none⟩=some (.int .i64 x.s):=fun o=>((S.out.skip o).get 1 _ rfl).cell 4 _ rfl))
 refine (HPC.out _).mono ?_
 rintro e w5 ⟨A,c,rfl,hrow,hA,hb⟩
 have HS5:=Lib.hid ((S.out.skip (.cells #[.pointer none,.slice none 0 0] 208)).below hb)
 have HBL:Hid (Bld w5.heap.size W4.heap.size (.pointer none) [] w5):=Lib.hid (Kd (hb.block W4.heap.size (by simp)))
 have hBw:Hid (w.heap.size≤W4.heap.size∧W4.heap.size<w5.heap.size):=Lib.hid ⟨S.out.only.size,by have:=hb.size;simp at this;omega⟩
 have HIB:Hid (w.heap.size<W4.heap.size∧w1.heap.size<W4.heap.size):=Lib.hid ⟨S.out.lt 0 _ rfl,S.out.lt 1 _ rfl⟩
 have HPR:Hid (nf w5 A cs∧∀ b off,A=some ⟨b,off,none⟩→W4.heap.size<b):=Lib.hid ⟨hrow,fun b off h=>by have:=hA b off h;simp at this;omega⟩
 clear hrow hA hb S c4 HPC HT
 generalize W4.heap.size=Bb at HBL hBw HIB HPR ⊢
 generalize w1.heap.size=Ib at HS5 HIB ⊢
 have HB:Hid (∀ W l,Lo [Bb] w5 l W→au W w.heap.size (eN b.s n I)∧au W Ib (aH x)∧nf W A cs):=Lib.hid (fun W l hl=>by
  have g:=HIB.out
  refine ⟨(HS5.out.get 0 _ rfl).block (hl.only.block _ (HS5.out.lt 0 _ rfl) ?_),(HS5.out.get 1 _ rfl).block (hl.only.block _ (HS5.out.lt 1 _ rfl) ?_),HPR.out.1.only hl.only (fun b off h=>?_)⟩
  ·simp only [List.mem_singleton];omega
  ·simp only [List.mem_singleton];omega
  ·have:=HPR.out.2 b off h
   simp only [List.mem_singleton];omega)
 have HDD:Hid (∀ W l k,Lo [Bb] w5 l W→Calls Tryz.prog 187 #[bW b.s n I,bH x,.int .i64 k] W fun e w'=>e=.returned (exV an (an av) (Fs.gK n I x k (nv s)))∧Below W.heap.size W w'):=Lib.hid (fun W l k hl=>HPG.out w5 Bb W l k HS5.out.bel hBw.out.1 hl)
 have T:=Lib.hid (Lo.start (L:=[Bb]) w5 (fun k hk=>by rw [List.mem_singleton] at hk;subst hk;exact hBw.out.2))
 have HW5:=Lib.hid HS5.out.bel
 have HBB:=Lib.hid hBw.out.2
 have HBW:=Lib.hid hBw.out.1
 clear HS5 hBw HIB HPR HPG
 obtain ⟨len,hlen⟩:∃ len,cs.length=len:=⟨_,rfl⟩
 have HLE:=Lib.hid hlen
 rw [hlen]
 clear hlen
 have hl9:len≤67840:=by
  have h1:=HPM.out
  have h2:∀ ds:List Fs.Pc,(∀ c∈ds,1≤c.size)→ds.length≤Fs.tI ds:=by
   intro ds
   induction ds with
   | nil=>intro _;exact Nat.le_refl _
   |
    cons d ds ih=>
    intro h
    have:=ih (fun c hc=>h c (by simp [hc]))
    have:=h d (by simp)
    rw [List.length_cons,Fs.tI];omega
  have:=h2 cs (fun c hc=>(HPS.out c hc).1)
  have:=HLE.out
  omega
 have HST:Hid (∃ (l:List UInt8) (p:Value),Bld w5.heap.size Bb p l w5∧(p=.pointer none∨p=.pointer (some ⟨Bb,0,none⟩))∧BP l (Fs.fb n I x (nv s) (cs.drop 0))=R∧l.length+Fs.tI (cs.drop 0)≤67840):=Lib.hid ⟨[],_,HBL.out,Or.inl rfl,HR0.out,by rw [List.drop_zero];simpa using HPM.out⟩
 clear HBL HR0 HPM
 go_wp2_with fail
 go_loopw [45] (fun i wr=>∃ (k:Nat),k≤len∧i=.int .i64 k∧Lo [Bb] w5 [] wr∧Hid (∃ (l:List UInt8) (p:Value),Bld w5.heap.size Bb p l wr∧(p=.pointer none∨p=.pointer (some ⟨Bb,0,none⟩))∧BP l (Fs.fb n I x (nv s) (cs.drop k))=R∧l.length+Fs.tI (cs.drop k)≤67840)) (fun i _=>len - (intOf i).toNat)
 case atStart=>exact ⟨0,Nat.zero_le _,rfl,T.out,HST⟩
 case round=>
  obtain ⟨k,hk,rfl,hT,HQ⟩:=hrel
  replace T:=Lib.hid hT
  clear hT HST
  by_cases hlt:k<len
  ·obtain ⟨pc,hpc⟩:∃ pc,cs[k]?=some pc:=⟨_,List.getElem?_eq_getElem (by rw [HLE.out];exact hlt)⟩
   obtain ⟨hz1,hz2⟩:=HPS.out pc (List.mem_of_getElem? hpc)
   obtain ⟨pb,poff,rfl,hpb,hpr⟩:=(HB.out wr [] T.out).2.2.cells (by rw [HLE.out];omega)
   have HPI:=Lib.hid (hpr k pc hpc)
   have HDR:Hid (cs.drop k=pc::cs.drop (k+1)):=Lib.hid (by
    obtain ⟨q1,q2⟩:=List.getElem?_eq_some_iff.1 hpc
    rw [List.drop_eq_getElem_cons q1,q2])
   have HPD:=Lib.hid (Fs.tH cs k pc hpc)
   clear hpc hpr hpb
   have HDK:=Lib.hid (fun (W:World) (l:List (Nat × List Value)) (hl:Lo [Bb] w5 l W)=>HDD.out W l (pc.idx:Int) hl)
   cases hd:Fs.gK n I x (pc.idx:Int) (nv s) with
   |
    error er=>
    have HRR:Hid (R=.error er):=Lib.hid (by
     obtain ⟨l,p,_,_,q,_⟩:=HQ.out
     rw [HDR.out,Fs.kY hd] at q
     exact q.symm)
    have he5:=xF hd
    subst he5
    rw [hd] at HDK
    simp only [exV] at HDK
    clear hd HQ
    go_wp2_with (first
     | (with_reducible refine wpList_load_mid rfl 160 (.tmp 47) rfl pb (poff+k*3) rfl (pcL pc) _ HPI.out Tryz.underlying160 rfl (by kernel_rfl) ?_)
     | ((with_reducible refine ai (vs:=pcL pc) pcT ?_ (rI _) rfl (.tmp 14) (.tmp 48) rfl rfl ?_ ?_ ?_);(exact rfl);(exact rfl);(exact rfl);intro W6 hP hB2 hz2;replace T:=Lib.hid (T.out.made hP hB2 hz2);clear hP hB2 hz2 HPI;have p0:=(T.out.get 0 _ rfl).cell 0 _ rfl)
     | (with_reducible refine aE (HB.out _ _ T.out).1.base rfl (.tmp 4) rfl rfl ?_)
     | (with_reducible refine af cz (HB.out _ _ T.out).2.1 rfl rfl (.tmp 10) rfl rfl ?_)
     | (go_at_call 187;refine (HDK.out _ _ T.out).mono ?_;rintro e w6 ⟨rfl,hb⟩;replace T:=Lib.hid (T.out.below hb);clear hb p0)
     | ((with_reducible refine aq rfl (.tmp 15) (.tmp 55) rfl rfl ?_ ?_ aa ?_);(exact rfl);(exact rfl);intro W2 hP hB2 hz2;replace T:=Lib.hid (T.out.made hP.rowAt hB2 hz2);clear hP hB2 hz2))
    go_ret2
    rw [HRR.out]
    exact ⟨rfl,aB.lI HW5.out T.out.only HW5.out.size (fun k hk=>by rw [List.mem_singleton] at hk;subst hk;exact HBW.out)⟩
   |
    ok p=>
    have HP:=Lib.hid (HLN.out _ p hd)
    obtain ⟨l,pp,hbl,hpp,hrr,hps⟩:=HQ.out
    have HBD:=Lib.hid hbl
    have HRR:Hid (BP (l++Pg.kj p (pc.at1:Int) (pc.size:Int)) (Fs.fb n I x (nv s) (cs.drop (k+1)))=R):=Lib.hid (by
     rw [HDR.out,Fs.nr hd] at hrr
     rw [← hrr]
     cases Fs.fb n I x (nv s) (cs.drop (k+1)) with
     | ok t=>show Except.ok _=Except.ok _;rw [List.append_assoc]
     | error e=>rfl)
    have hps2:l.length+(pc.size+Fs.tI (cs.drop (k+1)))≤67840:=by rw [← HPD.out];exact hps
    have HTL:=Lib.hid (EW HP.out hz2)
    have HTX:Hid (∀ W,Calls Tryz.prog 189 #[an p,.int .i64 (pc.at1:Int),.int .i64 (pc.size:Int)] W fun e w'=>e=.returned (.string (strOf (Pg.kj p (pc.at1:Int) (pc.size:Int))))∧Below W.heap.size W w'):=Lib.hid (fun W=>xe p _ _ W HP.out (by omega) (by omega))
    rw [hd] at HDK
    simp only [exV] at HDK
    have HPPl:=Lib.hid hpp
    clear hd HQ hbl hpp hrr hps
    generalize Pg.kj p (pc.at1:Int) (pc.size:Int)=tx at HRR HTL HTX
    have HTS:Hid ((strOf tx).size=pc.size):=Lib.hid (by rw [dO,HTL.out])
    have HWS:Hid (∀ W,aB [Bb] w5 W→Bld w5.heap.size Bb pp l W→Calls Tryz.prog 188 #[.pointer (some ⟨Bb,0,none⟩),.string (strOf tx)] W fun e w'=>e=.returned (.tuple #[.int .i64 ((strOf tx).size:Int),.nilIface])∧Bld w5.heap.size Bb (.pointer (some ⟨Bb,0,none⟩)) (l++tx) w'∧aB [Bb] w5 w'):=Lib.hid (fun W ho hbd=>nG w5.heap.size Bb pp l (strOf tx) w5 W rfl ho hbd HPPl.out HBB.out (by rw [HTS.out];omega) (by rw [HTS.out];omega))
    go_wp2_with (first
     | (with_reducible refine wpList_load_mid rfl 160 (.tmp 47) rfl pb (poff+k*3) rfl (pcL pc) _ HPI.out Tryz.underlying160 rfl (by kernel_rfl) ?_)
     | ((with_reducible refine ai (vs:=pcL pc) pcT ?_ (rI _) rfl (.tmp 14) (.tmp 48) rfl rfl ?_ ?_ ?_);(exact rfl);(exact rfl);(exact rfl);intro W6 hP hB2 hz2;replace T:=Lib.hid (T.out.made hP hB2 hz2);replace HBD:=Lib.hid (HBD.out.step hB2);clear hP hB2 hz2 HPI;have p0:=(T.out.get 0 _ rfl).cell 0 _ rfl)
     | (with_reducible refine aE (HB.out _ _ T.out).1.base rfl (.tmp 4) rfl rfl ?_)
     | (with_reducible refine af cz (HB.out _ _ T.out).2.1 rfl rfl (.tmp 10) rfl rfl ?_)
     | (go_at_call 187;refine (HDK.out _ _ T.out).mono ?_;rintro e w6 ⟨rfl,hb⟩;replace T:=Lib.hid (T.out.below hb);replace HBD:=Lib.hid (HBD.out.step hb);clear hb p0)
     | ((with_reducible refine aq rfl (.tmp 15) (.tmp 55) rfl rfl ?_ ?_ HP.out ?_);(exact rfl);(exact rfl);intro W2 hP hB2 hz2;replace T:=Lib.hid (T.out.made hP.rowAt hB2 hz2);replace HBD:=Lib.hid (HBD.out.step hB2);clear hP hB2 hz2;have p1:=(T.out.get 0 _ rfl).cell 1 _ rfl;have p2:=(T.out.get 0 _ rfl).cell 2 _ rfl)
     | (with_reducible refine ah (T.out.aK 1 rfl HP.out) rfl (.tmp 15) rfl rfl ?_)
     | (go_at_call 189;(with_reducible refine (HTX.out _).mono ?_);rintro e w7 ⟨rfl,hb⟩;replace T:=Lib.hid (T.out.below hb);replace HBD:=Lib.hid (HBD.out.step hb);clear hb p1 p2)
     | (go_at_call 188;refine (HWS.out _ T.out.only HBD.out).mono ?_;rintro e w8 ⟨rfl,hb1,hb2⟩;have T9:=Lib.hid (Lo.none hb2 T.out.low);have HBD9:=Lib.hid hb1;clear hb1 hb2))
    have HQ9:Hid (∃ (l:List UInt8) (p:Value),Bld w5.heap.size Bb p l w8∧(p=.pointer none∨p=.pointer (some ⟨Bb,0,none⟩))∧BP l (Fs.fb n I x (nv s) (cs.drop (k+1)))=R∧l.length+Fs.tI (cs.drop (k+1))≤67840):=Lib.hid ⟨l++tx,_,HBD9.out,Or.inr rfl,HRR.out,by rw [List.length_append,HTL.out];omega⟩
    clear HBD HBD9 T HRR HTL HTS HWS HTX
    go_roundw
    case rel=>exact ⟨k+1,by omega,by go_num,T9.out,HQ9⟩
    case measure=>simp [intOf];omega
  ·obtain rfl:k=len:=by omega
   obtain ⟨l,pp,hbl,_,hrr,hps⟩:=HQ.out
   have HBD:=Lib.hid hbl
   have HRR:Hid (R=.ok l):=Lib.hid (by
    rw [← hrr,List.drop_of_length_le (by rw [HLE.out];omega),Fs.gQ]
    show Except.ok _=Except.ok _
    rw [List.append_nil])
   have HSTR:=Lib.hid (wP w5.heap.size Bb pp l wr HBD.out (by omega) T.out.only.size)
   clear hbl hrr hps HBD HQ
   go_wp2_with (go_at_call 190;(with_reducible refine HSTR.out.mono ?_);rintro e w8 ⟨rfl,hb⟩;have HB8:=Lib.hid hb;clear hb)
   go_ret2
   rw [HRR.out]
   exact ⟨rfl,(aB.lI HW5.out T.out.only HW5.out.size (fun k hk=>by rw [List.mem_singleton] at hk;subst hk;exact HBW.out)).trans (HB8.out.mono HW5.out.size)⟩
theorem uF {w:World} {b:Blk} {s:Sto} {n I:Int} (hst:ay w b s) (v:Vs s n I) (i off cnt:Int) (h1:off≤9223372036854775807):Calls Tryz.prog 132 #[bW b.s n I,.int .i64 i,.int .i64 off,.int .i64 cnt] w fun e w'=>
  e=.returned (exV (fun l=>.string (strOf l)) (.string ⟨#[]⟩) (Fs.jb n I i off cnt (nv s)))∧Below w.heap.size w w':=by
 unfold Fs.jb
 rcases xg I i (nv s) with h | ⟨x,h⟩
 ·rw [h];exact GZ hst v i off cnt h
 ·rw [h]
  simp only
  by_cases c:off<0∨cnt<0∨67840<cnt
  ·rw [if_pos c];exact Eg hst v i off cnt h c
  ·rw [if_neg c];exact Ef hst v i off cnt h (by omega) h1 (by omega) (by omega)
end

section
open Go.RowKit Go.Maps
open Dk (av aa)
open Ii (Ino)
structure Stp {α:Type} (R:Ending→World→Prop) (B:Nat) (b:Blk) (n I:Int) (Ls:List Nat) (w0:World) (K:α→Ending→World→Prop) (l:List (Nat × List Value)) (s:Sto) (m:Fs.M α) (w:World):Prop where
 lo:Lo (b.t::Ls) w0 l w
 ctx:Ctx w B b s n I
 low:∀ k∈B::b.all,k<w0.heap.size
 left:∀ e w',Ends B b n I Ls w0 s m K e w'→R e w'
section
variable {α β:Type} {R:Ending→World→Prop} {B:Nat} {b:Blk} {n I:Int} {Ls:List Nat} {w0 w w':World} {K:α→Ending→World→Prop} {l:List (Nat × List Value)} {s:Sto} {m:Fs.M α}
theorem Blk.dX (b:Blk):b.t∈b.all:=by simp [Blk.all]
theorem Stp.start (h:Ctx w B b s n I) (hL:∀ k∈Ls,k<w.heap.size) (H:Hid (∀ e w',Ends B b n I Ls w s m K e w'→R e w')):Stp R B b n I Ls w K [] s m w:=
 ⟨Lo.start w (fun k hk=>by
  rcases List.mem_cons.1 hk with rfl | hk
  ·exact h.store.lt _ b.dX
  ·exact hL k hk),h,fun k hk=>by
  rcases List.mem_cons.1 hk with rfl | hk
  ·exact h.lt
  ·exact h.store.lt k hk,H.out⟩
theorem Stp.below (h:Stp R B b n I Ls w0 K l s m w) (hb:Below w.heap.size w w'):Stp R B b n I Ls w0 K l s m w':=⟨h.lo.below hb,h.ctx.below hb,h.low,h.left⟩
theorem Stp.drew (h:Stp R B b n I Ls w0 K l s m w):Stp R B b n I Ls w0 K l s m w.drew:=h.below ((Below.refl _ _).drew)
theorem Stp.made {vs:List Value} (h:Stp R B b n I Ls w0 K l s m w) (hR:au w' w.heap.size vs) (hb:Below w.heap.size w w') (hz:w'.heap.size=w.heap.size+1):Stp R B b n I Ls w0 K (l++[(w.heap.size,vs)]) s m w':=
 ⟨h.lo.made hR hb hz,h.ctx.below hb,h.low,h.left⟩
theorem bK (w:World) (o:Obj):Below w.heap.size w (w.alloc o):=(Below.refl _ w).alloc (Nat.le_refl _) o
theorem Stp.alloc (h:Stp R B b n I Ls w0 K l s m w) (X:Nat) (hX:w.heap.size=X) (vs:List Value) (t:TypeId):Stp R B b n I Ls w0 K (l++[(X,vs)]) s m (w.alloc (.cells vs.toArray t)):=
 ⟨h.lo.alloc X hX vs t,h.ctx.below (bK _ _),h.low,h.left⟩
theorem Stp.cut (h:Stp R B b n I Ls w0 K l s m w) (k:Nat):Stp R B b n I Ls w0 K (l.take k) s m w:=⟨h.lo.cut k,h.ctx,h.low,h.left⟩
theorem Stp.get (h:Stp R B b n I Ls w0 K l s m w) (k:Nat) (x:Nat × List Value) (hx:l[k]?=some x):au w x.1 x.2:=h.lo.get k x hx
theorem Stp.lower (h:Stp R B b n I Ls w0 K l s m w) {x:Nat × List Value} (hx:x∈l):x.1≠B∧x.1∉b.all:=by
 have h1:=(h.lo.row x hx).2.1
 refine ⟨fun q=>?_,fun q=>?_⟩
 ·have:=h.low B (by simp);omega
 ·have:=h.low x.1 (List.mem_cons_of_mem _ q);omega
theorem Stp.put (h:Stp R B b n I Ls w0 K l s m w) (k:Nat) (x:Nat × List Value) (hx:l[k]?=some x) (us:List Value) (hl:us.length=x.2.length):Stp R B b n I Ls w0 K (l.set k (x.1,us)) s m (w.setCells x.1 0 us):=by
 obtain ⟨h1,h2⟩:=h.lower (List.mem_of_getElem? hx)
 refine ⟨h.lo.put k x hx us hl,h.ctx.only ((aB.refl [x.1] w).setCells x.1 (by simp) us 0 w) ?_ ?_,h.low,h.left⟩
 ·simp;exact fun q=>h1 q.symm
 ·intro i hi q
  simp at q
  subst q
  exact h2 hi
theorem Stp.row (h:Stp R B b n I Ls w0 K l s m w):au w B (gO b.s n I true 0):=h.ctx.step
theorem Stp.cell0 (h:Stp R B b n I Ls w0 K l s m w):w.cell? ⟨B,0,none⟩=some (.pointer (some ⟨b.s,0,none⟩)):=h.ctx.step.cell 0 _ rfl
theorem Stp.of {m':Fs.M α} (h:Stp R B b n I Ls w0 K l s m w) (e:m (nv s)=m' (nv s)):Stp R B b n I Ls w0 K l s m' w:=
 ⟨h.lo,h.ctx,h.low,fun e' w' hE=>h.left e' w' (by
  unfold Ends eo at hE ⊢
  rw [e];exact hE)⟩
theorem Stp.saw {γ:Type} {f:Fs.View→γ} {g:γ→Fs.M α} (h:Stp R B b n I Ls w0 K l s (Fs.andThen (Fs.see f) g) w):Stp R B b n I Ls w0 K l s (g (f (nv s))) w:=
 h.of (by rw [Fs.andThen_ok (show Fs.see f (nv s)=(.ok (f (nv s)),nv s,[]) from rfl)];rfl)
theorem Stp.only (h:Stp R B b n I Ls w0 K l s m w) {L':List Nat} (ho:aB L' w w') (hL:∀ k∈L',k∈B::b.t::Ls∨w0.heap.size≤k):aB (B::b.t::Ls) w0 w':=
 (h.lo.only.mono (fun k hk=>List.mem_cons_of_mem _ hk)).via ho hL
theorem Stp.bind {γ:Type} {m1:Fs.M γ} {f:γ→Fs.M α} {K1:γ→Ending→World→Prop} {e:Ending} (h:Stp R B b n I Ls w0 K l s (Fs.andThen m1 f) w) (hE:Ends B b n I [] w s m1 K1 e w'):
  (e=.panicked [bn B]∧R (.panicked [bn B]) w')∨∃ a s' L,m1 (nv s)=(.ok a,nv s',L)∧K1 a e w'∧Stp R B b n I Ls w0 K l s' (f a) w':=by
 rcases hE with ⟨a,s',L,E,G,C,hK,O⟩ | ⟨er,F,h0,Br,rfl,O⟩
 ·exact Or.inr ⟨a,s',L,E,hK,h.lo.call O (fun k hk=>by
   rw [List.mem_singleton] at hk
   subst hk
   exact List.mem_cons_self ..),C,h.low,fun e' w'' hE=>h.left e' w'' (hE.next E G)⟩
 ·exact Or.inl ⟨rfl,h.left _ _ (Ends.Kc F h0 Br (h.only O (fun k hk=>Or.inl (by
   simp only [List.mem_cons,List.not_mem_nil,or_false] at hk ⊢
   rcases hk with rfl | rfl
   ·exact Or.inl rfl
   ·exact Or.inr (Or.inl rfl)))))⟩
theorem Stp.pQ {γ:Type} {m1:Fs.M γ} {f:γ→Fs.M α} {K1:γ→Ending→World→Prop} {e:Ending} (h:Stp R B b n I Ls w0 K l s (Fs.andThen m1 f) w) (hE:Ends B b n I [] w s m1 K1 e w'):
  (e=.panicked [bn B]∧R (.panicked [bn B]) w')∨∃ a s' L,m1 (nv s)=(.ok a,nv s',L)∧K1 a e w'∧Stp R B b n I Ls w0 K l s' (f a) w'∧aB [b.t] w w':=by
 have hh:=h.bind hE
 rcases hE with ⟨a,s',L,E,G,C,hK,O⟩ | ⟨er,F,h0,Br,rfl,O⟩
 ·refine Or.inr ⟨a,s',L,E,hK,⟨h.lo.call O (fun k hk=>by
   rw [List.mem_singleton] at hk
   subst hk
   exact List.mem_cons_self ..),C,h.low,fun e' w'' hE=>h.left e' w'' (hE.next E G)⟩,O⟩
 ·rcases hh with ⟨h1,h2⟩ | ⟨a,s',L,E,hK,_⟩
  ·exact Or.inl ⟨h1,h2⟩
  ·exact Or.inl ⟨rfl,h.left _ _ (Ends.Kc F h0 Br (h.only O (fun k hk=>Or.inl (by
    simp only [List.mem_cons,List.not_mem_nil,or_false] at hk ⊢
    rcases hk with rfl | rfl
    ·exact Or.inl rfl
    ·exact Or.inr (Or.inl rfl)))))⟩
theorem Stp.MF (h:Stp R B b n I Ls w0 K l s m w) {X:Nat} (hX:X∈Ls) (hB:X≠B) (hb:X∉b.all) (k:Nat) (v:Value) (hl:∀ x∈l,x.1≠X):Stp R B b n I Ls w0 K l s m (w.setCell ⟨X,k,none⟩ v):=by
 have ho:aB [X] w (w.setCell ⟨X,k,none⟩ v):=(aB.refl [X] w).setCell (by simp) v
 refine ⟨h.lo.call ho (fun i hi=>by rw [List.mem_singleton] at hi;subst hi;exact List.mem_cons_of_mem _ hX),h.ctx.only ho (by simpa using fun q=>hB q.symm) (fun i hi q=>by simp at q;subst q;exact hb hi),h.low,h.left⟩
theorem Stp.ma (h:Stp R B b n I Ls w0 K l s m w) {er:Int} (F:eo s m er) (h0:er≠0) (Br:gq w' B b s n I er) (O:aB [B] w w'):R (.panicked [bn B]) w':=
 h.left _ _ (Or.inr ⟨er,F,h0,Br,rfl,h.only O (fun k hk=>Or.inl (by rw [List.mem_singleton] at hk;subst hk;simp))⟩)
theorem Stp.done {a:α} {e:Ending} (h:Stp R B b n I Ls w0 K l s (Fs.ret a) w) (hK:K a e w):R e w:=h.left _ _ (Ends.done h.ctx hK h.lo.only)
theorem Stp.last {K1:α→Ending→World→Prop} {e:Ending} (h:Stp R B b n I Ls w0 K l s m w) (hE:Ends B b n I [] w s m K1 e w'):(e=.panicked [bn B]∧R (.panicked [bn B]) w')∨∃ a s' L,m (nv s)=(.ok a,nv s',L)∧K1 a e w'∧Stp R B b n I Ls w0 K l s' (Fs.ret a) w':=
 Stp.bind (m1:=m) (f:=Fs.ret) ⟨h.lo,h.ctx,h.low,fun e' w'' hE'=>h.left e' w'' (by rw [Fs.wS] at hE';exact hE')⟩ hE
theorem eo.err {m:Fs.M α} {er:Int} {V:Fs.View} {L:List Nat} (h:m (nv s)=(.error er,V,L)):eo s m er:=Or.inl ⟨V,L,h⟩
end
theorem bm {P:Program} {m:Sem Next} {f:FuncId} {args:Array Value} {S:World→Prop} {R:Value→World→Prop} {Bp:List PanicEntry→World→Prop} (h1:∀ w,m.run P w=.ok (.enter f args) w)
  (h2:∀ w,S w→Calls P f args w fun e w''=>(∃ u,e=.returned u∧R u w'')∨(∃ ch,e=.panicked ch∧Bp ch w'')):∀ w,S w→eK P m w R Bp:=fun w hS=>ky (h1 w) (h2 w hS)
def SO {σ:Type} (S:σ→World→Prop):Option σ→World→Prop
 | none,_=>False
 | some k,W=>S k W
theorem SO.all {σ:Type} {S:σ→World→Prop} {C:World→Prop} (h:∀ k W,S k W→C W):∀ k W,SO S k W→C W
 | none,_,hS=>hS.elim
 | some k,W,hS=>h k W hS
theorem SO.some {σ:Type} {S:σ→World→Prop} {k:σ} {W:World} (h:SO S (some k) W):S k W:=h
theorem EJ (w:World):Lo [] w [(w.heap.size,ab av)] (w.alloc (.cells zeroCells 87)):=
 (Lo.start w (by simp)).alloc _ rfl (ab av) _
theorem kN {w:World} {B:Nat} {b:Blk} {s:Sto} {n I:Int} (h:Ctx w B b s n I) (at1:Int) (ha:okP n at1):Calls Tryz.prog 182 #[.pointer (some ⟨B,0,none⟩),.int .i64 at1] w fun e w'=>e=.returned (an (nv s at1.toNat))∧Below w.heap.size w w':=by
 have S0:=Lib.hid (EJ w)
 obtain ⟨r1,r2,r3⟩:=h.vs.read ha
 have HR:Hid (∀ W l,Lo [] w l W→Calls Tryz.prog 161 #[.pointer (some ⟨b.s,0,none⟩),.int .i64 at1] W fun e w'=>e=.returned (.tuple #[an (nv s at1.toNat),.int .i64 0])∧Below W.heap.size W w'):=Lib.hid (fun W l hl=>by
  have:=nV (hl.store h.store) at1
  rw [r1,r2] at this
  exact this)
 have HL:=Lib.hid r3
 have c0:∀ o,(w.alloc o).cell? ⟨B,0,none⟩=some (.pointer (some ⟨b.s,0,none⟩)):=fun o=>(h.step.alloc o).cell 0 _ rfl
 clear h ha r1 r2 r3
 generalize nv s at1.toNat=p at HR HL ⊢
 go_enter Tryz.func182,Tryz.ntmps182
 go_wp2_with fail
 rw [← az]
 generalize hw:World.alloc _ _=w1
 have S:Hid (Lo [] w [(w.heap.size,ab av)] w1):=Lib.hid (by rw [← hw];exact S0.out)
 clear hw S0 c0
 go_wp2_with (first
  | (go_at_call 161;refine (HR.out _ _ S.out).mono ?_;rintro e w2 ⟨rfl,hb⟩;replace S:=Lib.hid (S.out.below hb);clear hb)
  | ((with_reducible refine aq rfl (.tmp 5) (.tmp 15) rfl rfl ?_ ?_ HL.out ?_);(exact rfl);(exact rfl);intro W2 hP hB2 hz2;replace S:=Lib.hid (S.out.made hP.rowAt hB2 hz2);clear hP hB2 hz2)
  | (go_at_call 133;(with_reducible refine (js _).mono ?_);rintro e w3 ⟨rfl,rfl⟩)
  | (with_reducible refine ah (S.out.aK 1 rfl HL.out) rfl (.tmp 5) rfl rfl ?_)
  | ((with_reducible refine ax (S.out.aK 0 rfl aa) HL.out rfl (.tmp 4) (.tmp 20) rfl rfl ?_ ?_);(exact rfl)))
 have S2:=Lib.hid (S.out.Ig 0 rfl aa p HL.out)
 exact bodyPost_ret (bE _ 4 rfl _ (S2.out.aK 0 rfl HL.out) rfl) rfl ⟨rfl,S2.out.bel⟩
end
end Go.Proofs.YtagfoogfpabdfaaGreat
