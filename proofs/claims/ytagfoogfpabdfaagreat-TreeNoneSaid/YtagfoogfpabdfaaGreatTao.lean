/- Texts of the proof. -/
import Derived.Test.YtagfoogfpabdfaaGreatTaa
import Derived.Test.YtagfoogfpabdfaaGreatTae
import Derived.Shelf.Strings.IndexAnyAll
import Derived.Laws.Runes
import Derived.Shelf.Small.Utf8
import Derived.WalkMore
import Derived.BigQuiet
import Derived.Lib.DecodeN
import Derived.Lib.IndexAny
import Derived.Lib.FieldsLaws
import Derived.Test.YtagfoogfpabdfaaGreatTac
import Derived.ProofKit
import Derived.OpenShut
import Derived.ShutString
import Derived.ChangeOld
import Derived.Lib.SmallJoins
import Derived.Deep.RegionHeld3
import Derived.Test.YtagfoogfpabdfaaGreatTah
import Derived.Lib.SliceRun
set_option maxRecDepth 100000
set_option maxHeartbeats 16000000
namespace Go.Proofs.YtagfoogfpabdfaaGreat
namespace Nm
open Go.Proofs.YtagfoogfpabdfaaGreat.Pg
def bad (c:UInt8):Bool:=c == 0 || c == 47
def qT (s:List UInt8):Bool:=s.any bad
def chk (s:List UInt8):Int:=if s.length=0 then 2 else if 13<s.length then 36 else if s=[46]∨s=[46,46]∨qT s=true then 22 else 0
def okB (s:List UInt8):Bool:=decide (chk s=0)
def aA (n:Int) (s:List UInt8):Bool:=decide (1≤n∧n≤65535∧chk s=0)
def iZ (n:Int) (s:List UInt8):Bool:=decide (n=0∧s=[])
def bL (n:Int) (s:List UInt8):Bool:=iZ n s || aA n s
theorem DZ {s:List UInt8} (h:chk s=0):1≤s.length∧s.length≤13:=by
 unfold chk at h
 split at h
 ·omega
 ·split at h
  ·omega
  ·omega
theorem aW {n:Int} {s:List UInt8} (h:aA n s=true):1≤n∧n≤65535∧chk s=0:=of_decide_eq_true h
theorem EH {n:Int} {s:List UInt8} (h:iZ n s=true):n=0∧s=[]:=of_decide_eq_true h
theorem nS {n:Int} {s:List UInt8} (h:bL n s=true):(n=0∧s=[])∨(1≤n∧n≤65535∧chk s=0):=by
 unfold bL at h
 rw [Bool.or_eq_true] at h
 exact h.imp EH aW
theorem ik {n:Int} {s:List UInt8} (h:bL n s=true):0≤n∧n≤65535∧s.length≤13:=by
 rcases nS h with ⟨rfl,rfl⟩ | ⟨h1,h2,h3⟩
 ·exact ⟨by omega,by omega,by simp⟩
 ·exact ⟨by omega,h2,(DZ h3).2⟩
def zs (k:Nat):List UInt8:=List.replicate k 0
theorem eb (k:Nat):(zs k).length=k:=List.length_replicate
def slot (n:Int) (s:List UInt8):List UInt8:=bR 1 n::bR 0 n::bR 0 s.length::(s++zs (13 - s.length))
theorem km (n:Int) {s:List UInt8} (h:s.length≤13):(slot n s).length=16:=by
 unfold slot
 simp [eb]
 omega
theorem tg:slot 0 []=zs 16:=by decide
def at_ (p:List UInt8) (i:Nat):List UInt8:=(p.drop (16*i)).take 16
theorem pF {p:List UInt8} (hp:p.length=64) {i:Nat} (hi:i<4):(at_ p i).length=16:=by
 unfold at_
 simp
 omega
def lay (p:List UInt8) (i:Nat) (b:List UInt8):List UInt8:=over p (16*i) b
theorem qF {p b:List UInt8} (hp:p.length=64) {i:Nat} (hi:i<4) (hb:b.length=16):(lay p i b).length=64:=by
 unfold lay
 rw [bj _ _ _ (by omega),hp]
theorem LP {p b:List UInt8} (hp:p.length=64) {i:Nat} (hi:i<4) (hb:b.length=16):at_ (lay p i b) i=b:=by
 unfold at_ lay
 have:=Cs p (16*i) b (by omega)
 rw [hb] at this
 exact this
theorem Ep (p:List UInt8) (i j:Nat):(at_ p i)[j]?=if j<16 then p[16*i+j]? else none:=by
 unfold at_
 rw [List.getElem?_take]
 split
 ·rw [List.getElem?_drop]
 ·rfl
theorem Lp {p:List UInt8} (hp:p.length=64) {i:Nat} (hi:i<4):lay p i (at_ p i)=p:=by
 apply List.ext_getElem?
 intro j
 unfold lay
 rw [eF _ _ _ _ (by rw [pF hp hi];omega),pF hp hi]
 split
 ·rfl
 ·split
  ·rw [Ep,if_pos (by omega)]
   congr 1
   omega
  ·rfl
theorem Ln {p b:List UInt8} (hp:p.length=64) {i:Nat} (hi:i<4) (hb:b.length=16):lay p i b=p↔b=at_ p i:=by
 constructor
 ·intro h
  have:=LP (b:=b) hp hi hb
  rw [h] at this
  exact this.symm
 ·intro h
  rw [h]
  exact Lp hp hi
theorem jl (p:List UInt8) (a:Nat) (t:List UInt8) (k:Nat) (s:List UInt8) (h1:k+s.length≤t.length) (h2:a+t.length≤p.length):over (over p a t) (a+k) s=over p a (over t k s):=by
 apply List.ext_getElem?
 intro j
 rw [eF _ _ _ _ (by rw [bj _ _ _ h2];omega),eF _ _ _ _ h2,eF p a _ _ (by rw [bj _ _ _ h1];exact h2),bj _ _ _ h1,eF _ _ _ _ h1]
 by_cases c1:j<a
 ·rw [if_pos (by omega),if_pos c1,if_pos c1]
 ·rw [if_neg c1,if_neg c1]
  by_cases c2:j<a+t.length
  ·rw [if_pos c2,if_pos c2]
   by_cases c3:j<a+k
   ·rw [if_pos c3,if_pos (by omega)]
   ·rw [if_neg c3,if_neg (show ¬ j - a<k by omega)]
    by_cases c4:j<a+k+s.length
    ·rw [if_pos c4,if_pos (show j - a<k+s.length by omega)]
     congr 1
     omega
    ·rw [if_neg c4,if_neg (show ¬ j - a<k+s.length by omega)]
  ·rw [if_neg c2,if_neg c2,if_neg (by omega),if_neg (by omega)]
def KR (p:List UInt8) (i:Nat):List UInt8:=over p (16*i) (zs 16)
def KQ (p:List UInt8) (i:Nat) (n:Int):List UInt8:=eV (KR p i) (16*i:Nat) 2 n
def KP (p:List UInt8) (i:Nat) (n:Int) (k:Nat):List UInt8:=eV (KQ p i n) ((16*i:Nat)+2) 1 k
def FC (p:List UInt8) (i:Nat) (n:Int) (s:List UInt8):List UInt8:=br (KP p i n s.length) ((16*i:Nat)+3) s
theorem vI {p:List UInt8} (hp:p.length=64) {i:Nat} (hi:i<4):(KR p i).length=64:=by
 unfold KR
 rw [bj _ _ _ (by rw [eb];omega),hp]
theorem vH {p:List UInt8} (hp:p.length=64) {i:Nat} (hi:i<4) (n:Int):(KQ p i n).length=64:=aP _ _ _ _ (vI hp hi)
theorem vG {p:List UInt8} (hp:p.length=64) {i:Nat} (hi:i<4) (n:Int) (k:Nat):(KP p i n k).length=64:=aP _ _ _ _ (vH hp hi n)
theorem vF {p:List UInt8} (hp:p.length=64) {i:Nat} (hi:i<4) (n:Int) (s:List UInt8):(FC p i n s).length=64:=fT _ _ _ (vG hp hi n _)
theorem FK (n:Int):over (zs 16) 0 (aX 2 n)=bR 1 n::bR 0 n::zs 14:=rfl
theorem zG (x y c:UInt8):over (x::y::zs 14) 2 [c]=x::y::c::zs 13:=rfl
theorem Cr (x y c:UInt8) (s:List UInt8) (h:s.length≤13):over (x::y::c::zs 13) 3 s=x::y::c::(s++zs (13 - s.length)):=by
 unfold over
 rw [Nat.add_comm 3 s.length,List.drop_succ_cons,List.drop_succ_cons,List.drop_succ_cons]
 show [x,y,c]++(s++List.drop s.length (zs 13))=_
 unfold zs
 rw [List.drop_replicate]
 rfl
theorem Ca {p:List UInt8} (hp:p.length=64) {i:Nat} (hi:i<4) (n:Int) {s:List UInt8} (hs:s.length≤13):FC p i n s=lay p i (slot n s):=by
 have h2:KQ p i n=over p (16*i) (bR 1 n::bR 0 n::zs 14):=by
  unfold KQ KR eV
  rw [if_pos (ke (by omega) (by omega) (by omega) (by omega)),Int.toNat_natCast]
  have:=jl p (16*i) (zs 16) 0 (aX 2 n) (by rw [aT,eb];omega) (by rw [eb];omega)
  rw [FK,Nat.add_zero] at this
  exact this
 have h3:KP p i n s.length=over p (16*i) (bR 1 n::bR 0 n::bR 0 s.length::zs 13):=by
  unfold KP eV
  rw [if_pos (ke (by omega) (by omega) (by omega) (by omega)),h2]
  have:=jl p (16*i) (bR 1 n::bR 0 n::zs 14) 2 [bR 0 s.length] (by simp [eb]) (by simp [eb];omega)
  rw [zG] at this
  exact this
 unfold FC br
 rw [if_pos (qL (by omega) (by omega) (by omega)),h3]
 have:=jl p (16*i) (bR 1 n::bR 0 n::bR 0 s.length::zs 13) 3 s (by simp [eb];omega) (by simp [eb];omega)
 rw [Cr _ _ _ _ hs] at this
 exact this
def ent (b:List UInt8):Option (Int × List UInt8):=
 if b=zs 16 then some (0,[])
 else if 13<(b.getD 2 0).toNat then none
 else if aA (numOf (b.take 2)) ((b.drop 3).take (b.getD 2 0).toNat)=true∧slot (numOf (b.take 2)) ((b.drop 3).take (b.getD 2 0).toNat)=b then some (numOf (b.take 2),(b.drop 3).take (b.getD 2 0).toNat)
 else none
def MD (o:Option (Int × List UInt8)):Int:=(o.getD (0,[])).1
def MC (o:Option (Int × List UInt8)):List UInt8:=(o.getD (0,[])).2
theorem fE (k:Nat) (h:k<256):(bR 0 (k:Int)).toNat=k:=by
 have:=mo 0 (k:Int)
 rw [Int.pow_zero,Int.ediv_one] at this
 omega
theorem lf (n:Int) (h0:0≤n) (h1:n≤65535):numOf [bR 1 n,bR 0 n]=n:=by
 have:=cQ 2 n
 rw [show aX 2 n=[bR 1 n,bR 0 n] from rfl] at this
 rw [this]
 omega
theorem kQ (n:Int) (s:List UInt8):(slot n s).getD 2 0=bR 0 s.length:=rfl
theorem oa (n:Int) {s:List UInt8} (h:s.length≤13):((slot n s).drop 3).take (bR 0 (s.length:Int)).toNat=s:=by
 rw [fE _ (by omega)]
 show (s++zs (13 - s.length)).take s.length=s
 exact List.take_left' rfl
theorem np (n:Int) (s:List UInt8):(slot n s).take 2=[bR 1 n,bR 0 n]:=rfl
theorem GH {n:Int} {s:List UInt8} (h:bL n s=true):ent (slot n s)=some (n,s):=by
 rcases nS h with ⟨rfl,rfl⟩ | ⟨h1,h2,h3⟩
 ·rw [tg];rfl
 ·have hl:=DZ h3
  have hne:slot n s≠zs 16:=by
   intro e
   have:=np n s
   rw [e] at this
   have h0:=lf n (by omega) h2
   rw [← this] at h0
   have:numOf ((zs 16).take 2)=0:=by decide
   omega
  unfold ent
  rw [if_neg hne,kQ,oa n hl.2,np,lf n (by omega) h2,fE _ (by omega),if_neg (by omega),if_pos ⟨decide_eq_true ⟨h1,h2,h3⟩,rfl⟩]
theorem lx {b:List UInt8} {n:Int} {s:List UInt8} (h:ent b=some (n,s)):bL n s=true∧slot n s=b:=by
 unfold ent at h
 split at h
 ·injection h with h
  injection h with h1 h2
  subst h1 h2
  exact ⟨rfl,by rw [tg];exact (by assumption:b=_).symm⟩
 ·split at h
  ·cases h
  ·split at h
   ·rename_i h'
    injection h with h
    injection h with h1 h2
    subst h1 h2
    exact ⟨by unfold bL;rw [h'.1,Bool.or_true],h'.2⟩
   ·cases h
def num (p:List UInt8) (i:Nat):Int:=ba p (16*i:Nat) 2
def len (p:List UInt8) (i:Nat):Int:=ba p ((16*i:Nat)+2) 1
def name (p:List UInt8) (i:Nat):List UInt8:=kj p ((16*i:Nat)+3) (len p i)
theorem Ij {p:List UInt8} {i:Nat} (hi:i<4):num p i=numOf ((at_ p i).take 2):=by
 unfold num ba at_
 rw [if_pos (ke (by omega) (by omega) (by omega) (by omega)),Int.toNat_natCast,List.take_take]
 rfl
theorem KV {p:List UInt8} (hp:p.length=64) {k:Nat} (hk:k<64):numOf ((p.drop k).take 1)=((p.getD k 0).toNat:Int):=by
 rw [List.drop_eq_getElem_cons (by omega),List.take_succ_cons,List.take_zero,List.getD_eq_getElem?_getD,List.getElem?_eq_getElem (by omega)]
 unfold numOf
 simp
theorem xU {p:List UInt8} (hp:p.length=64) {i:Nat} (hi:i<4):len p i=(((at_ p i).getD 2 0).toNat:Int):=by
 unfold len ba
 rw [if_pos (ke (by omega) (by omega) (by omega) (by omega))]
 have:=KV hp (k:=16*i+2) (by omega)
 rw [show (((16*i:Nat):Int)+2).toNat=16*i+2 by omega,show (1:Int).toNat=1 from rfl,this,List.getD_eq_getElem?_getD,List.getD_eq_getElem?_getD,Ep,if_pos (by omega)]
theorem Lk {p:List UInt8} (hp:p.length=64) {i:Nat} (hi:i<4):0≤len p i∧len p i≤255:=by
 rw [xU hp hi]
 have:=((at_ p i).getD 2 0).toNat_lt
 omega
theorem tO {p:List UInt8} (hp:p.length=64) {i:Nat} (hi:i<4) (h:len p i≤13):name p i=((at_ p i).drop 3).take ((at_ p i).getD 2 0).toNat:=by
 have hl:=xU hp hi
 unfold name kj
 rw [if_pos (qL (by omega) (by omega) (by omega)),hl]
 apply List.ext_getElem?
 intro j
 rw [List.getElem?_take,List.getElem?_take,Int.toNat_natCast,List.getElem?_drop,List.getElem?_drop,Ep]
 split
 ·rw [if_pos (by omega),show (((16*i:Nat):Int)+3).toNat+j=16*i+(3+j) by omega]
 ·rfl
theorem vW {p:List UInt8} (hp:p.length=64) (i:Nat):(name p i).length≤64:=by
 unfold name kj
 split
 ·simp;omega
 ·simp
theorem GI {p:List UInt8} (hp:p.length=64) {i:Nat} (hi:i<4):
  ent (at_ p i)=if bL (num p i) (name p i)=true∧FC p i (num p i) (name p i)=p then some (num p i,name p i) else none:=by
 have hal:=pF hp hi
 by_cases hs:bL (num p i) (name p i)=true
 ·have hb:=ik hs
  have hk:FC p i (num p i) (name p i)=p↔slot (num p i) (name p i)=at_ p i:=by
   rw [Ca hp hi _ hb.2.2,Ln hp hi (km _ hb.2.2)]
  by_cases he:slot (num p i) (name p i)=at_ p i
  ·rw [if_pos ⟨hs,hk.2 he⟩,← he]
   exact GH hs
  ·rw [if_neg (fun h=>he (hk.1 h.2))]
   cases hn:ent (at_ p i) with
   | none=>rfl
   |
    some x=>
    obtain ⟨n,s⟩:=x
    obtain ⟨h1,h2⟩:=lx hn
    exfalso
    apply he
    have hb':=ik h1
    have hl:=xU hp hi
    rw [← h2,kQ,fE _ (by omega)] at hl
    rw [tO hp hi (by omega),Ij hi,← h2,kQ,oa n hb'.2.2,np,lf n hb'.1 hb'.2.1]
 ·rw [if_neg (fun h=>hs h.1)]
  cases hn:ent (at_ p i) with
  | none=>rfl
  |
   some x=>
   obtain ⟨n,s⟩:=x
   obtain ⟨h1,h2⟩:=lx hn
   exfalso
   apply hs
   have hb':=ik h1
   have hl:=xU hp hi
   rw [← h2,kQ,fE _ (by omega)] at hl
   rw [tO hp hi (by omega),Ij hi,← h2,kQ,oa n hb'.2.2,np,lf n hb'.1 hb'.2.1]
   exact h1
end Nm

namespace Dm
open List (Perm)
abbrev Ent:=Int × List UInt8
abbrev Has:=List (List UInt8 × Int)
def used (e:Ent):Bool:=decide (e.1≠0)
def LW (s:List UInt8) (e:Ent):Bool:=used e && decide (e.2=s)
def live (E:List Ent):List Ent:=E.filter used
def spot (E:List Ent) (s:List UInt8):Option Nat:=E.findIdx? (LW s)
def room (E:List Ent):Option Nat:=E.findIdx? (fun e=>!used e)
variable {E:List Ent} {H:Has}
theorem yF {n:Int} {s:List UInt8} (h:Nm.aA n s=true):used (n,s)=true∧Nm.bL n s=true:=by
 have:=Nm.aW h
 refine ⟨decide_eq_true (by show n≠0;omega),?_⟩
 unfold Nm.bL
 rw [h,Bool.or_true]
end Dm

section
open Dk (av aa)
open Go.Shelf Go.RowKit
def ev:Go.Shelf.Ren:=⟨fun | 153=>214 | 152=>249 | 226=>250 | 227=>251 | 228=>252 | 137=>271 | 119=>272 | 224=>273 | 225=>274 | 217=>283 | 266=>295 | n=>n,fun | 9=>9 | 3=>3 | 4=>4 | 5=>5 | 21=>21 | 117=>269 | 116=>268 | 0=>0 | 46=>85 | 124=>290 | n=>n,fun | n=>n⟩
theorem tZ:Go.Proofs.Lays.n153 Tryz.prog ev:={
 mixed:=by kernel_rfl
 f119:=Tryz.func272.trans (congrArg some (by kernel_rfl))
 f137:=Tryz.func271.trans (congrArg some (by kernel_rfl))
 f152:=Tryz.func249.trans (congrArg some (by kernel_rfl))
 f153:=Tryz.func214.trans (congrArg some (by kernel_rfl))
 f217:=Tryz.func283.trans (congrArg some (by kernel_rfl))
 f224:=Tryz.func273.trans (congrArg some (by kernel_rfl))
 f225:=Tryz.func274.trans (congrArg some (by kernel_rfl))
 f226:=Tryz.func250.trans (congrArg some (by kernel_rfl))
 f227:=Tryz.func251.trans (congrArg some (by kernel_rfl))
 f228:=Tryz.func252.trans (congrArg some (by kernel_rfl))
 f266:=Tryz.func295.trans (congrArg some (by kernel_rfl))
 t0:=Tryz.underlying0
 a0:=Tryz.isAgg0
 z0:=Tryz.sizeOf0
 v0:=Tryz.zeroValue0
 t3:=Tryz.underlying3
 a3:=Tryz.isAgg3
 z3:=Tryz.sizeOf3
 v3:=Tryz.zeroValue3
 t4:=Tryz.underlying4
 a4:=Tryz.isAgg4
 z4:=Tryz.sizeOf4
 v4:=Tryz.zeroValue4
 t5:=Tryz.underlying5
 a5:=Tryz.isAgg5
 z5:=Tryz.sizeOf5
 v5:=Tryz.zeroValue5
 t9:=Tryz.underlying9
 a9:=Tryz.isAgg9
 z9:=Tryz.sizeOf9
 v9:=Tryz.zeroValue9
 t21:=Tryz.underlying21
 a21:=Tryz.isAgg21
 z21:=Tryz.sizeOf21
 v21:=Tryz.zeroValue21
 t46:=Tryz.underlying85
 a46:=Tryz.isAgg85
 z46:=Tryz.sizeOf85
 v46:=Tryz.zeroValue85
 t116:=Tryz.underlying268
 a116:=Tryz.isAgg268
 z116:=Tryz.sizeOf268
 t117:=Tryz.underlying269
 a117:=Tryz.isAgg269
 z117:=Tryz.sizeOf269
 v117:=Tryz.zeroValue269
 t124:=Tryz.underlying290
 a124:=Tryz.isAgg290
 z124:=Tryz.sizeOf290
 v124:=Tryz.zeroValue290 }
theorem BB (w:World):(zeroValue (ev.t 116)).run Tryz.prog w=.ok (.agg (Array.replicate 256 (.bool false))) w:=by kernel_rfl
theorem Fl:(Tryz.prog.info? (ev.t 116)).map (·.size)=some 256:=by kernel_rfl
theorem Hm (s:ByteArray) (w:World) (h8:8<s.size) (h13:s.size≤13):
  Calls Tryz.prog (ev.f 153) #[.string s,.string ⟨#[0,47]⟩] w fun e w'=>e=.returned (.int .i64 (Lib.indexAny s.data.toList [0,47]))∧Below w.heap.size w w':=
 (Any.strings_IndexAny_long tZ BB Fl s ⟨#[0,47]⟩ w (by decide) h8 (by omega) (by decide) (fun j b h=>by
  have:b=0∨b=47:=by
   match j,h with
   | 0,h=>left;injection h with h;exact h.symm
   | 1,h=>right;injection h with h;exact h.symm
   | k+2,h=>simp at h
  rcases this with rfl | rfl <;> decide)).mono fun _ _ h=>⟨h.1,by rw [h.2];exact ((Below.refl _ _).alloc (Nat.le_refl _) _).alloc (by simp) _⟩
end

section
open Dk (av aa)
open Go.RowKit Go.Shelf
theorem sg (s:ByteArray) (c:Int) (w:World):Calls Tryz.prog 271 #[.string s,.int .u8 c] w fun e w'=>e=.returned (.int .i64 (Lib.indexByte s.data.toList c.toNat.toUInt8))∧w'=w:=
 Any.strings_IndexByte (ρ:=ev) { tZ with } s c w
theorem kK (r:Int) (w:World):Calls Tryz.prog 272 #[.int .i32 r] w fun e w'=>e=.returned (.bool (Utf8.valid r))∧w'=w:=by
 rw [validRune_eq]
 exact Any.utf8_ValidRune (ρ:=ev) { tZ with } r w
theorem Er (c:UInt8) (w:World) (h:c.toNat<128):Calls Tryz.prog 249 #[.string ⟨#[0,47]⟩,.int .i32 (c.toNat:Int)] w fun e w'=>(∃ v:Int,e=.returned (.int .i64 v)∧(Nm.bad c=true→decide (0≤v)=true)∧(Nm.bad c=false→decide (0≤v)=false))∧w=w':=
 (Any.strings_IndexRune_ascii (ρ:=ev) { tZ with } ⟨#[0,47]⟩ (c.toNat:Int) w (by omega) (by omega)).mono fun _ _ ⟨h1,h2⟩=>by
  refine ⟨⟨_,h1,?_⟩,h2.symm⟩
  have e:((c.toNat:Int)).toNat.toUInt8=c:=by simp
  rw [e,← Lib.contains_iff_indexByte]
  show (Nm.bad c=true→([0,47]:List UInt8).contains c=true)∧(Nm.bad c=false→([0,47]:List UInt8).contains c=false)
  unfold Nm.bad
  have:([0,47]:List UInt8).contains c=(c == 0 || c == 47):=by rw [List.contains_cons,List.contains_cons,List.contains_nil,Bool.or_false]
  rw [this]
  exact ⟨id,id⟩
theorem DN (w:World):Calls Tryz.prog 249 #[.string ⟨#[0,47]⟩,.int .i32 65533] w fun e w'=>e=.returned (.int .i64 (-1))∧Below w.heap.size w w':=by
 go_enter Tryz.func249,Tryz.ntmps249
 go_wp2_with fail
 go_loopg [5,6] 2 (fun g _ _ wx=>∃ i:Nat,i+g=2∧wx=w.iter ⟨#[0,47]⟩ i)
 case atStart=>exact ⟨0,rfl,rfl⟩
 case round=>
  obtain ⟨i,hig,rfl⟩:=hrel
  have hi:i=0∨i=1∨i=2:=by omega
  rcases hi with rfl | rfl | rfl
  ·have hnx:=fun ty=>run_next_ascii (P:=Tryz.prog) w ⟨#[0,47]⟩ 0 ty (by decide) (by decide)
   change ∀ ty,_=Result.ok (Value.tuple #[.bool true,.int .i64 ((0:Nat):Int),.int .i32 0]) _ at hnx
   obtain rfl:gk=2:=by omega
   go_wp2
   go_roundg 1
   case measure=>omega
   case rel=>exact ⟨1,rfl,rfl⟩
  ·have hnx:=fun ty=>run_next_ascii (P:=Tryz.prog) w ⟨#[0,47]⟩ 1 ty (by decide) (by decide)
   change ∀ ty,_=Result.ok (Value.tuple #[.bool true,.int .i64 ((1:Nat):Int),.int .i32 47]) _ at hnx
   obtain rfl:gk=1:=by omega
   go_wp2
   go_roundg 0
   case measure=>omega
   case rel=>exact ⟨2,rfl,rfl⟩
  ·have hnx:=fun ty=>run_next_end (P:=Tryz.prog) w ⟨#[0,47]⟩ 2 ty (by decide)
   go_wp2
   go_ret
   exact ⟨rfl,(Below.refl _ _).alloc (Nat.le_refl _) _⟩
theorem GF (r:Int) (w:World) (h1:128≤r) (h2:r≠65533) (hv:Utf8.valid r=true) (hs:3≤(Utf8.encode r).size):Calls Tryz.prog 249 #[.string ⟨#[0,47]⟩,.int .i32 r] w fun e w'=>e=.returned (.int .i64 (-1))∧Below w.heap.size w w':=by
 have hf:=encode_facts r hv h1
 have hs4:=hf.2.1
 have HV:=Lib.hid hv
 have hr:(r == 65533)=false:=beq_eq_false_iff_ne.2 h2
 clear hf hv h2
 go_enter Tryz.func249,Tryz.ntmps249
 go_wp2_with (go_at_call 272;refine (kK _ _).mono ?_;rw [HV.out];rintro e w' ⟨rfl,hw⟩;rw [hw];clear hw)
 have hcv:=fun w=>run_convert_int_string (P:=Tryz.prog) w 21 9 .i32 r (by rw [Tryz.underlying21];rfl) Tryz.underlying9
 generalize Utf8.encode r=t at hs hs4 hcv ⊢
 go_step3
 go_wp2
 go_loop [9] (fun i=>i=.int .i64 ((t.size:Int) - 1)) (fun _=>0)
 case atStart=>rfl
 case round=>
  subst hrel
  go_wp2
  go_ret
  exact ⟨rfl,Below.refl _ _⟩
theorem mG (w:World) (n:Nat):Below w.heap.size w (w.drewN n):=⟨rfl,rfl,rfl,Nat.le_refl _,fun _ _=>rfl⟩
theorem rm (w:World):(Instr.sliceAt 9 (.string ⟨#[0,47]⟩) (some (.int .i64 2)) none none).run Tryz.prog w=.ok (.string ⟨#[]⟩) w:=by kernel_rfl
theorem Ec (c:UInt8) (w:World):Calls Tryz.prog 271 #[.string ⟨#[]⟩,.int .u8 (c.toNat:Int)] w fun e w'=>e=.returned (.int .i64 (-1))∧w'=w:=sg ⟨#[]⟩ _ w
theorem AT (r:Int) (hv:Utf8.valid r=true) (h1:128≤r) (hs:(Utf8.encode r).size=2):∃ (t:ByteArray) (c:UInt8) (h:1<t.size),Utf8.encode r=t∧t.size=2∧t[1]'h=c∧128≤c.toNat:=by
 have hf:=encode_facts r hv h1
 have hx:=hf.2.2 (by omega)
 have e:(Utf8.encode r).size - 1=1:=by omega
 simp only [e] at hx
 exact ⟨_,_,by omega,rfl,hs,rfl,hx⟩
theorem JJ (r:Int) (w:World) (h1:128≤r) (h2:r≠65533) (hv:Utf8.valid r=true) (hs:(Utf8.encode r).size=2):Calls Tryz.prog 249 #[.string ⟨#[0,47]⟩,.int .i32 r] w fun e w'=>e=.returned (.int .i64 (-1))∧Below w.heap.size w w':=by
 obtain ⟨t,c,hlt,he,hl2,hc,hc128⟩:=AT r hv h1 hs
 have HV:=Lib.hid hv
 have hr:(r == 65533)=false:=beq_eq_false_iff_ne.2 h2
 have hcv:=fun w=>run_convert_int_string (P:=Tryz.prog) w 21 9 .i32 r (by rw [Tryz.underlying21];rfl) Tryz.underlying9
 rw [he] at hcv
 have hne:((((⟨#[0,47]⟩:ByteArray)[1]'(by decide)).toNat:Int) != (c.toNat:Int))=true:=bne_iff_ne.2 (by show (47:Int)≠_;omega)
 have hl:(t.size:Int)=2:=by omega
 clear he hs hv h2 hl2
 go_enter Tryz.func249,Tryz.ntmps249
 go_wp2_with (go_at_call 272;refine (kK _ _).mono ?_;rw [HV.out];rintro e w' ⟨rfl,hw⟩;rw [hw];clear hw)
 go_step3
 go_wp2
 go_loop [9] (fun i=>i=.int .i64 1) (fun _=>0)
 case atStart=>rfl
 case round=>
  subst hrel
  go_wp2
  go_step3
  go_wp2
  go_quiet (fail)
  have HB:=Lib.hid (mG w nq)
  generalize w.drewN nq=w2 at HB ⊢
  go_wp2
  have hw1:IntKind.i64.wrap (1+1)=2:=by decide
  have hsl:=fun w=>rm w
  go_quiet ((go_at_call 271;refine Calls.quiet_of_same (Ec c _)))
  go_wp2
  show bodyPost Tryz.prog Tryz.f249 (fun e w'=>e=.returned (.int .i64 (-1))∧Below w.heap.size w w') Exit.ret _ _
  go_ret
  exact ⟨rfl,HB.out.trans ((mG w2 _).mono HB.out.size)⟩
end

section
open Dk (av aa)
open Go.RowKit Go.Shelf
theorem JK (r:Int) (w:World) (h1:128≤r) (hv:Utf8.valid r=true):Calls Tryz.prog 249 #[.string ⟨#[0,47]⟩,.int .i32 r] w fun e w'=>e=.returned (.int .i64 (-1))∧Below w.heap.size w w':=by
 by_cases h2:r=65533
 ·subst h2;exact DN w
 ·have hf:=encode_facts r hv h1
  by_cases h3:3≤(Utf8.encode r).size
  ·exact GF r w h1 h2 hv h3
  ·exact JJ r w h1 h2 hv (by omega)
theorem fS (s:ByteArray):s.data.toList.length=s.size:=by simp
theorem wI (n b0 b1 b2 b3:Nat) (h0:128≤b0):
  128≤(Lib.decodeN n b0 b1 b2 b3).1∧((Lib.decodeN n b0 b1 b2 b3).1<55296∨(57344≤(Lib.decodeN n b0 b1 b2 b3).1∧(Lib.decodeN n b0 b1 b2 b3).1≤1114111))∧1≤(Lib.decodeN n b0 b1 b2 b3).2∧(Lib.decodeN n b0 b1 b2 b3).2≤4 ∧
  (2≤(Lib.decodeN n b0 b1 b2 b3).2→128≤b1∧1<n)∧(3≤(Lib.decodeN n b0 b1 b2 b3).2→128≤b2∧2<n)∧(4≤(Lib.decodeN n b0 b1 b2 b3).2→128≤b3∧3<n):=by
 unfold Lib.decodeN
 repeat' split
 all_goals (simp only;omega)
theorem ya (s:ByteArray) (i:Nat) (h:i<s.size):s.get! i=s.data.toList[i]'(by simpa using h):=by
 show s.get! i=s[i]'h
 simp [ByteArray.get!,getElem!_pos,h]
 rfl
structure Far (s:ByteArray) (i:Nat) (r k:Nat):Prop where
 dec:Utf8.decode s i=(r,k)
 big:128≤r
 ok:Utf8.valid (r:Int)=true
 pos:1≤k
 room:i+k≤s.size
 bytes:∀ j,(h:j<s.data.toList.length)→i≤j→j<i+k→128≤(s.data.toList[j]).toNat
theorem LA (s:ByteArray) (i:Nat) (hi:i<s.size) (h:128≤(s[i]'hi).toNat):∃ r k,Far s i r k:=by
 have hd:=Lib.decode_at s i
 have hg:s.get! i=s[i]'hi:=ya s i hi
 obtain ⟨f1,f2,f3,f4,f5,f6,f7⟩:=wI (s.size - i) (s.get! i).toNat (s.get! (i+1)).toNat (s.get! (i+2)).toNat (s.get! (i+3)).toNat (by rw [hg];exact h)
 rw [← hd] at f1 f2 f3 f4 f5 f6 f7
 refine ⟨(Utf8.decode s i).1,(Utf8.decode s i).2,rfl,f1,?_,f3,?_,?_⟩
 ·unfold Utf8.valid
  rcases f2 with f2 | f2 <;> simp <;> omega
 ·have:(Utf8.decode s i).2=1∨(Utf8.decode s i).2=2∨(Utf8.decode s i).2=3∨(Utf8.decode s i).2=4:=by omega
  rcases this with e | e | e | e <;> rw [e] at f5 f6 f7 ⊢ <;> omega
 ·intro j hj h1 h2
  have hjs:j<s.size:=by simpa using hj
  have:j=i∨j=i+1∨j=i+2∨j=i+3:=by omega
  rw [← ya s j hjs]
  rcases this with e | e | e | e
  ·subst e;rw [hg];exact h
  ·subst e;exact (f5 (by omega)).1
  ·subst e;exact (f6 (by omega)).1
  ·subst e;exact (f7 (by omega)).1
theorem Kh (c:UInt8) (h:128≤c.toNat):Nm.bad c=false:=by
 unfold Nm.bad
 rw [Bool.or_eq_false_iff,beq_eq_false_iff_ne,beq_eq_false_iff_ne]
 constructor <;> (intro e;subst e;revert h;decide)
theorem uL (l:List UInt8) (k:Nat) (h:k<l.length):Nm.qT (l.take (k+1))=(Nm.qT (l.take k) || Nm.bad l[k]):=by
 rw [List.take_succ_eq_append_getElem h]
 unfold Nm.qT
 rw [List.any_append]
 simp
theorem LN (l:List UInt8) (k:Nat) (h:k<l.length) (hb:Nm.bad l[k]=true):Nm.qT l=true:=
 List.any_eq_true.2 ⟨_,List.getElem_mem h,hb⟩
theorem yo (l:List UInt8) (i:Nat):∀ k,i+k≤l.length→Nm.qT (l.take i)=false→(∀ j,(h:j<l.length)→i≤j→j<i+k→128≤(l[j]).toNat)→Nm.qT (l.take (i+k))=false
 | 0,_,h0,_=>h0
 |
  k+1,hl,h0,hb=>by
  rw [← Nat.add_assoc,uL l (i+k) (by omega),yo l i k (by omega) h0 (fun j h h1 h2=>hb j h h1 (by omega)),Kh _ (hb (i+k) (by omega) (by omega) (by omega))]
  rfl
theorem run_next_at {w W:World} {s:ByteArray} {i:Nat} (hW:W.heap[w.heap.size]?=some (.stringIter s i)) (hb:Below w.heap.size w W) (hi:i<s.size) (r k:Nat) (hd:Utf8.decode s i=(r,k)):
  ∃ W2:World,(∀ ty,(Instr.next (.pointer (some ⟨w.heap.size,0,none⟩)) true ty).run Tryz.prog W=.ok (.tuple #[.bool true,.int .i64 i,.int .i32 r]) W2)∧W2.heap[w.heap.size]?=some (.stringIter s (i+k))∧Below w.heap.size w W2:=by
 have hlt:w.heap.size<W.heap.size:=(Array.getElem?_eq_some_iff.1 hW).1
 refine ⟨{ W with heap:=W.heap.setIfInBounds w.heap.size (.stringIter s (i+k)) },fun ty=>?_,?_,?_⟩
 ·simp only [Instr.next,getObj,setObj,Sem.run_bind,Sem.run,hW,Result.andThen,hi,if_true,hd]
  simp [goInt,Sem.run,hW]
 ·simp [hlt]
 ·obtain ⟨a1,a2,a3,a4,a5⟩:=hb
  refine ⟨a1,a2,a3,by simpa using a4,fun b hb=>?_⟩
  rw [← a5 b hb]
  simp [Array.getElem?_setIfInBounds]
  omega
theorem rn {w W:World} {s:ByteArray} (hW:W.heap[w.heap.size]?=some (.stringIter s s.size)) (ty:TypeId):
  (Instr.next (.pointer (some ⟨w.heap.size,0,none⟩)) true ty).run Tryz.prog W=.ok (.tuple #[.bool false]) W:=by
 simp [Instr.next,getObj,Sem.run,hW]
def EE (s:ByteArray) (w:World) (e:Ending) (w':World):Prop:=(∃ v:Int,e=.returned (.int .i64 v)∧decide (0≤v)=Nm.qT s.data.toList)∧Below w.heap.size w w'
theorem Et (s:ByteArray) (w:World) (h8:s.size≤8):Calls Tryz.prog 214 #[.string s,.string ⟨#[0,47]⟩] w (EE s w):=by
 have h8z:decide ((8:Int)<(s.size:Int))=false:=decide_eq_false (by omega)
 have HC:=Lib.hid (fS s)
 have HU:=Lib.hid (fun (w:World)=>Any.strings_shouldUseASCIISet (ρ:=ev) { tZ with } (s.size:Int) w)
 rw [h8z] at HU
 clear h8z
 go_enter Tryz.func214,Tryz.ntmps214
 go_wp2_with (go_at_call 250;refine (HU.out _).mono ?_;rintro e w' ⟨rfl,hw⟩;rw [hw];clear hw)
 have hst:(w.iter s 0).heap[w.heap.size]?=some (.stringIter s 0)∧Below w.heap.size w (w.iter s 0):=⟨World.iter_heap w s 0,(Below.refl _ _).alloc (Nat.le_refl _) _⟩
 have HS:=Lib.hid hst
 clear hst
 generalize w.iter s 0=w1 at HS ⊢
 go_loopg [9,10] s.size (fun g _ _ wx=>∃ i:Nat,i+g=s.size∧Hid (wx.heap[w.heap.size]?=some (.stringIter s i)∧Below w.heap.size w wx)∧Hid (Nm.qT (s.data.toList.take i)=false))
 case atStart=>exact ⟨0,by omega,HS,Lib.hid rfl⟩
 case round=>
  clear HS
  obtain ⟨i,hig,HS,HN⟩:=hrel
  by_cases hi:i<s.size
  ·obtain ⟨x,hx⟩:∃ x:UInt8,s[i]'hi=x:=⟨_,rfl⟩
   have HX:Hid (s.data.toList[i]'(by rw [HC.out];exact hi)=x):=Lib.hid hx
   by_cases h128:x.toNat<128
   ·have hd:=decode_ascii s i hi (by rw [hx];exact h128)
    rw [hx] at hd
    obtain ⟨W2,hnx,hW1,hW2⟩:=run_next_at HS.out.1 HS.out.2 hi _ _ hd
    have HS2:=Lib.hid (And.intro hW1 hW2)
    have HA:=Lib.hid (fun w=>Er x w h128)
    clear hd hx HS hW1 hW2
    cases hb:Nm.bad x with
    |
     true=>
     have HB:Hid (Nm.qT s.data.toList=true):=Lib.hid (LN _ i (by rw [HC.out];exact hi) (by rw [HX.out];exact hb))
     have HBX:=Lib.hid hb
     clear hb
     go_wp2_with (go_at_call 249;refine (HA.out _).mono ?_;rintro e w' ⟨⟨v,rfl,hv,_⟩,rfl⟩;replace hv:=hv HBX.out)
     go_ret
     exact ⟨⟨_,rfl,by rw [HB.out];exact decide_eq_true (by omega)⟩,HS2.out.2⟩
    |
     false=>
     have HN2:Hid (Nm.qT (s.data.toList.take (i+1))=false):=Lib.hid (by rw [uL _ i (by rw [HC.out];exact hi),HN.out,HX.out,hb];rfl)
     have HBX:=Lib.hid hb
     clear hb
     go_wp2_with (go_at_call 249;refine (HA.out _).mono ?_;rintro e w' ⟨⟨v,rfl,_,hv⟩,rfl⟩;replace hv:=hv HBX.out)
     go_roundg (gk - 1)
     case measure=>omega
     case rel=>exact ⟨i+1,by omega,HS2,HN2⟩
   ·obtain ⟨r,k,hf⟩:=LA s i hi (by rw [hx];omega)
    obtain ⟨W2,hnx,hW1,hW2⟩:=run_next_at HS.out.1 HS.out.2 hi _ _ hf.dec
    have HS2:=Lib.hid (And.intro hW1 hW2)
    have HF:=Lib.hid hf
    have HA:=Lib.hid (fun w=>JK (r:Int) w (by have:=hf.big;omega) hf.ok)
    have hk1:=hf.pos
    have hk2:=hf.room
    have HN2:Hid (Nm.qT (s.data.toList.take (i+k))=false):=Lib.hid (yo _ i k (by rw [HC.out];exact hf.room) HN.out hf.bytes)
    clear hf hx HS hW1 hW2
    go_wp2_with (go_at_call 249;refine (HA.out _).mono ?_;rintro e w' ⟨rfl,hw⟩;have HW:=Lib.hid hw;clear hw)
    go_roundg (gk - k)
    case measure=>omega
    case rel=>exact ⟨i+k,by omega,Lib.hid ⟨(HW.out.block _ (Array.getElem?_eq_some_iff.1 HS2.out.1).1).trans HS2.out.1,HS2.out.2.trans (HW.out.mono HS2.out.2.size)⟩,HN2⟩
  ·obtain rfl:i=s.size:=by omega
   have hnx:=rn HS.out.1
   have HB:Hid (Nm.qT s.data.toList=false):=Lib.hid (by
    have:=HN.out
    rw [List.take_of_length_le (by rw [HC.out];omega)] at this
    exact this)
   go_wp2
   go_ret
   exact ⟨⟨_,rfl,by rw [HB.out];rfl⟩,HS.out.2⟩
theorem ud:∀ l:List UInt8,decide (0≤Lib.indexAny l [0,47])=Nm.qT l
 | []=>rfl
 |
  b::l=>by
  have ih:=ud l
  have hg:=Lib.indexAny_ge [0,47] l
  have e:([0,47]:List UInt8).contains b=Nm.bad b:=by
   unfold Nm.bad
   rw [List.contains_cons,List.contains_cons,List.contains_nil,Bool.or_false]
  unfold Nm.qT at ih ⊢
  rw [List.any_cons,← ih,Lib.indexAny,e]
  cases Nm.bad b with
  | true=>rfl
  |
   false=>
   rw [if_neg (by decide),Bool.false_or,decide_eq_decide]
   by_cases h:Lib.indexAny l [0,47]=-1
   ·rw [h];decide
   ·rw [if_neg (fun k=>h (beq_iff_eq.1 k))]
    omega
theorem ue (s:ByteArray) (w:World) (h:s.size≤13):Calls Tryz.prog 214 #[.string s,.string ⟨#[0,47]⟩] w (EE s w):=by
 by_cases h8:s.size≤8
 ·exact Et s w h8
 ·exact (Hm s w (by omega) h).mono fun _ _ k=>⟨⟨_,k.1,ud _⟩,k.2⟩
theorem mJ (s:ByteArray) (w:World) (hs:s.size≤13):
  Calls Tryz.prog 167 #[.string s,.string ⟨#[0,47]⟩] w fun e w'=>e=.returned (.bool (Nm.qT s.data.toList))∧Below w.heap.size w w':=by
 have HI:=Lib.hid (ue s w hs)
 cases hb:Nm.qT s.data.toList with
 |
  true=>
  have HB:=Lib.hid hb
  clear hb
  go_enter Tryz.func167,Tryz.ntmps167
  go_wp2_with (go_at_call 214;refine HI.out.mono ?_;rintro e w' ⟨⟨v,rfl,hv⟩,hw⟩;rw [HB.out] at hv;replace hv:=of_decide_eq_true hv;have HW:=Lib.hid hw;clear hw)
  go_ret
  exact ⟨rfl,HW.out⟩
 |
  false=>
  have HB:=Lib.hid hb
  clear hb
  go_enter Tryz.func167,Tryz.ntmps167
  go_wp2_with (go_at_call 214;refine HI.out.mono ?_;rintro e w' ⟨⟨v,rfl,hv⟩,hw⟩;rw [HB.out] at hv;replace hv:=of_decide_eq_false hv;have HW:=Lib.hid hw;clear hw)
  go_ret
  exact ⟨bS (decide_eq_false (by omega)),HW.out⟩
end

section
open Dk (av aa)
open Go.RowKit
theorem me (s:ByteArray):s.toList.isEmpty=decide (s.size=0):=by
 rw [Lib.toList_data,← fS]
 cases s.data.toList <;> rfl
structure MV (s:ByteArray):Prop where
 e0:s.toList.isEmpty=false
 e1:(s.toList == [46])=false
 e2:(s.toList == [46,46])=false
 c:Nm.chk s.data.toList=if Nm.qT s.data.toList=true then 22 else 0
theorem Ka (s:ByteArray) (h:13<s.size):Nm.chk s.data.toList=36:=by
 unfold Nm.chk
 rw [fS,if_neg (by omega),if_pos h]
theorem GU (s:ByteArray) (h:s.size=0):Nm.chk s.data.toList=2:=by
 unfold Nm.chk
 rw [fS,if_pos h]
theorem Ea (s:ByteArray) (h0:s.size≠0) (h:s.size≤13) (h1:s.data.toList=[46]∨s.data.toList=[46,46]):Nm.chk s.data.toList=22:=by
 unfold Nm.chk
 rw [fS,if_neg h0,if_neg (by omega),if_pos (h1.elim Or.inl (fun h=>Or.inr (Or.inl h)))]
theorem GS (s:ByteArray) (h0:s.size≠0) (h:s.size≤13) (h1:s.data.toList≠[46]) (h2:s.data.toList≠[46,46]):MV s where
 e0:=by rw [me];exact decide_eq_false h0
 e1:=by rw [Lib.toList_data];exact beq_eq_false_iff_ne.2 h1
 e2:=by rw [Lib.toList_data];exact beq_eq_false_iff_ne.2 h2
 c
  := by
  unfold Nm.chk
  rw [fS,if_neg h0,if_neg (by omega)]
  cases Nm.qT s.data.toList <;> simp [h1,h2]
theorem pA (s:ByteArray) (w:World) (hm:s.size≤maxLen):
  Calls Tryz.prog 113 #[.string s] w fun e w'=>e=.returned (.int .i64 (Nm.chk s.data.toList))∧Below w.heap.size w w':=by
 unfold maxLen at hm
 by_cases h0:s.size=0
 ·have e0:s.toList.isEmpty=true:=by rw [me];exact decide_eq_true h0
  rw [GU s h0]
  clear h0
  go_enter Tryz.func113,Tryz.ntmps113
  go_wp2
  go_ret
  exact ⟨rfl,Below.refl _ _⟩
 have e0:s.toList.isEmpty=false:=by rw [me];exact decide_eq_false h0
 by_cases h13:13<s.size
 ·rw [Ka s h13]
  have hI:(13:Int)<(s.size:Int):=by omega
  go_enter Tryz.func113,Tryz.ntmps113
  go_wp2
  go_ret
  exact ⟨rfl,Below.refl _ _⟩
 have hI:(s.size:Int)≤13:=by omega
 have HS:Hid (s.size≤13):=Lib.hid (by omega)
 by_cases h1:s.data.toList=[46]
 ·rw [Ea s h0 (by omega) (Or.inl h1)]
  have e1:(s.toList == [46])=true:=by rw [Lib.toList_data,h1];rfl
  clear h1 h0 h13
  go_enter Tryz.func113,Tryz.ntmps113
  go_wp2
  go_ret
  exact ⟨rfl,Below.refl _ _⟩
 by_cases h2:s.data.toList=[46,46]
 ·rw [Ea s h0 (by omega) (Or.inr h2)]
  have e1:(s.toList == [46])=false:=by rw [Lib.toList_data,h2];rfl
  have e2:(s.toList == [46,46])=true:=by rw [Lib.toList_data,h2];rfl
  clear h1 h2 h0 h13
  go_enter Tryz.func113,Tryz.ntmps113
  go_wp2
  go_ret
  exact ⟨rfl,Below.refl _ _⟩
 obtain ⟨e0',e1,e2,hc⟩:=GS s h0 (by omega) h1 h2
 rw [hc]
 clear e0' hc h1 h2 h0 h13
 cases hb:Nm.qT s.data.toList with
 |
  true=>
  have HB:=Lib.hid hb
  clear hb
  go_enter Tryz.func113,Tryz.ntmps113
  go_wp2_with (go_at_call 167;refine (mJ _ _ HS.out).mono ?_;rw [HB.out];rintro e w1 ⟨rfl,hw⟩;have HW:=Lib.hid hw;clear hw)
  go_ret
  exact ⟨rfl,HW.out⟩
 |
  false=>
  have HB:=Lib.hid hb
  clear hb
  go_enter Tryz.func113,Tryz.ntmps113
  go_wp2_with (go_at_call 167;refine (mJ _ _ HS.out).mono ?_;rw [HB.out];rintro e w1 ⟨rfl,hw⟩;have HW:=Lib.hid hw;clear hw)
  go_ret
  exact ⟨rfl,HW.out⟩
end

section
open Dk (av aa)
open Go.RowKit
def jD (n:Int) (s:ByteArray):List Value:=[.int .i64 n,.string s]
def jC (n:Int) (s:ByteArray):Value:=.agg #[.int .i64 n,.string s]
theorem iJ (n:Int) (s:ByteArray):∀ v∈jD n s,v.oneCell'=true:=by
 intro v hv
 simp only [jD,List.mem_cons,List.not_mem_nil,or_false] at hv
 rcases hv with rfl | rfl <;> rfl
theorem pn:mN 66 2:=⟨⟨_,Tryz.underlying66,rfl⟩,by kernel_rfl⟩
theorem Fz (n:Int) (s:List UInt8) (h1:1≤n) (h2:n≤65535):Nm.aA n s=(Nm.chk s == 0):=by
 unfold Nm.aA
 cases h:(Nm.chk s == 0) with
 | true=>exact decide_eq_true ⟨h1,h2,beq_iff_eq.1 h⟩
 | false=>exact decide_eq_false (fun k=>beq_eq_false_iff_ne.1 h k.2.2)
theorem tz (n:Int) (s:List UInt8) (h:n<1∨65535<n):Nm.aA n s=false:=decide_eq_false (by omega)
theorem qy (n:Int) (s:ByteArray) (w:World) (hm:s.size≤maxLen):
  Calls Tryz.prog 192 #[jC n s] w fun e w'=>e=.returned (.bool (Nm.aA n s.data.toList))∧Below w.heap.size w w':=by
 have HM:=Lib.hid hm
 clear hm
 have HB:Hid (Below w.heap.size w (w.alloc (.cells (jD n s).toArray 66))):=Lib.hid ((Below.refl _ _).alloc (Nat.le_refl _) _)
 by_cases h1:1≤n
 ·by_cases h2:n≤65535
  ·rw [Fz n _ h1 h2]
   have HC:=Lib.hid (fun (w:World)=>pA s w HM.out)
   generalize Nm.chk s.data.toList=c at HC ⊢
   unfold jC
   cases hc:(c == 0) with
   |
    true=>
    go_enter Tryz.func192,Tryz.ntmps192
    go_wp2_with (go_at_call 113;refine (HC.out _).mono ?_;rintro e w1 ⟨rfl,hw⟩;have HW:=Lib.hid hw;clear hw)
    go_ret
    exact ⟨rfl,HB.out.trans (HW.out.mono HB.out.size)⟩
   |
    false=>
    go_enter Tryz.func192,Tryz.ntmps192
    go_wp2_with (go_at_call 113;refine (HC.out _).mono ?_;rintro e w1 ⟨rfl,hw⟩;have HW:=Lib.hid hw;clear hw)
    go_ret
    exact ⟨rfl,HB.out.trans (HW.out.mono HB.out.size)⟩
  ·rw [tz n _ (by omega)]
   unfold jC
   go_enter Tryz.func192,Tryz.ntmps192
   go_wp2
   go_ret
   exact ⟨rfl,HB.out⟩
 ·rw [tz n _ (by omega)]
  unfold jC
  go_enter Tryz.func192,Tryz.ntmps192
  go_wp2
  go_ret
  exact ⟨rfl,HB.out⟩
def iQ (i:Int):Bool:=decide (0≤i∧i<4)
theorem fZ (i:Int) (w:World):Calls Tryz.prog 231 #[.int .i64 i] w fun e w'=>e=.returned (.bool (iQ i))∧w=w':=by
 by_cases h1:0≤i
 ·by_cases h2:i<4
  ·rw [show iQ i=true from decide_eq_true ⟨h1,h2⟩]
   go_enter Tryz.func231,Tryz.ntmps231
   go_wp2
   go_ret
   exact ⟨rfl,rfl⟩
  ·rw [show iQ i=false from decide_eq_false (by omega)]
   go_enter Tryz.func231,Tryz.ntmps231
   go_wp2
   go_ret
   exact ⟨rfl,rfl⟩
 ·rw [show iQ i=false from decide_eq_false (by omega)]
  go_enter Tryz.func231,Tryz.ntmps231
  go_wp2
  go_ret
  exact ⟨rfl,rfl⟩
theorem nT (n:Int) (s:ByteArray) (w:World) (hm:s.size≤maxLen):
  Calls Tryz.prog 232 #[jC n s] w fun e w'=>e=.returned (.bool (Nm.bL n s.data.toList))∧Below w.heap.size w w':=by
 have HM:=Lib.hid hm
 clear hm
 have HB:Hid (Below w.heap.size w (w.alloc (.cells (jD n s).toArray 66))):=Lib.hid ((Below.refl _ _).alloc (Nat.le_refl _) _)
 have HR:=Lib.hid (fun (w:World)=>qy n s w HM.out)
 by_cases hn:n=0
 ·subst hn
  by_cases hs:s.toList=[]
  ·rw [show Nm.bL 0 s.data.toList=true by rw [← Lib.toList_data,hs];rfl]
   unfold jC
   go_enter Tryz.func232,Tryz.ntmps232
   go_wp2
   go_ret
   exact ⟨rfl,HB.out⟩
  ·rw [show Nm.bL 0 s.data.toList=Nm.aA 0 s.data.toList by
    unfold Nm.bL Nm.iZ
    rw [decide_eq_false (fun h=>hs (by rw [Lib.toList_data];exact h.2)),Bool.false_or]]
   change Hid (∀ w,Calls Tryz.prog _ #[.agg #[.int .i64 0,.string s]] w _) at HR
   unfold jC
   go_enter Tryz.func232,Tryz.ntmps232
   go_wp2_with (go_at_call 192;refine (HR.out _).mono ?_;rintro e w1 ⟨rfl,hw⟩;have HW:=Lib.hid hw;clear hw)
   go_ret
   exact ⟨rfl,HB.out.trans (HW.out.mono HB.out.size)⟩
 ·rw [show Nm.bL n s.data.toList=Nm.aA n s.data.toList by
   unfold Nm.bL Nm.iZ
   rw [decide_eq_false (fun h=>hn h.1),Bool.false_or]]
  change Hid (∀ w,Calls Tryz.prog _ #[.agg #[.int .i64 n,.string s]] w _) at HR
  unfold jC
  go_enter Tryz.func232,Tryz.ntmps232
  go_wp2_with (go_at_call 192;refine (HR.out _).mono ?_;rintro e w1 ⟨rfl,hw⟩;have HW:=Lib.hid hw;clear hw)
  go_ret
  exact ⟨rfl,HB.out.trans (HW.out.mono HB.out.size)⟩
end

section
open Dk (av aa)
open Go.ChangeShapes Go.WideShapes Go.ChangeAt Go.RowKit
end

section
open Dk (av aa)
open Go.RowKit
structure jd (w0:World) (q:List UInt8) (n:Int) (s:ByteArray) (W:World):Prop where
 aK:aD W w0.heap.size q
 ent:au W (w0.heap.size+1) (jD n s)
 out:aD W (w0.heap.size+2) av
 below:Below w0.heap.size w0 W
theorem jd.call {w0:World} {q:List UInt8} {n:Int} {s:ByteArray} {W W':World} (k:jd w0 q n s W) (hb:Below W.heap.size W W'):jd w0 q n s W':=
 ⟨k.aK.step hb,au.step k.ent hb,k.out.step hb,k.below.trans (hb.mono k.below.size)⟩
theorem jd.put {w0:World} {q:List UInt8} {n:Int} {s:ByteArray} {W:World} (k:jd w0 q n s W) (r:List UInt8) (hr:r.length=64):jd w0 r n s (W.setCells w0.heap.size 0 (ab r)):=
 ⟨k.aK.put r hr,k.ent.bl _ _ _ (by omega),k.out.bl _ _ _ (by omega),below_setCells _ (Nat.le_refl _) _ _ _ k.below⟩
theorem jd.back {w0:World} {q:List UInt8} {n:Int} {s:ByteArray} {W:World} (k:jd w0 q n s W) (r:List UInt8) (hr:r.length=64):
  aD (W.setCells (w0.heap.size+2) 0 (ab r)) (w0.heap.size+2) r∧Below w0.heap.size w0 (W.setCells (w0.heap.size+2) 0 (ab r)):=
 ⟨k.out.put r hr,below_setCells _ (by omega) _ _ _ k.below⟩
theorem oL (w:World) (p:List UInt8) (n:Int) (s:ByteArray) (hp:p.length=64):
  jd w p n s (((w.alloc (.cells (ab p).toArray 87)).alloc (.cells #[.int .i64 n,.string s] 66)).alloc (.cells zeroCells 87)) where
 aK:=((bF w p _ hp).alloc _).alloc _
 ent:=by
  have h:=(bh (w.alloc (.cells (ab p).toArray 87)) (jD n s) 66).alloc (.cells zeroCells 87)
  rw [World.size_alloc] at h
  exact h
 out:=by
  have h:=di ((w.alloc (.cells (ab p).toArray 87)).alloc (.cells #[.int .i64 n,.string s] 66)) 87
  simp at h
  exact h
 below:=(((Below.refl _ _).alloc (Nat.le_refl _) _).alloc (by simp) _).alloc (by simp;omega) _
theorem KZ (w:World):(zeroValue 5).run Tryz.prog w=.ok (.int .u8 0) w:=by kernel_rfl
theorem Aq {w0 W:World} {q:List UInt8} {m:Int} {s:ByteArray} (k:jd w0 q m s W) (A:Nat) (hA:A+16≤64) (ty:TypeId) (c:Nat):
  (Builtin.clear_ #[40] ty #[.slice (some ⟨w0.heap.size,A,none⟩) 16 c]).run Tryz.prog W=.ok (.tuple #[]) (W.setCells w0.heap.size A (ab (Nm.zs 16))):=
 Lib.run_clear_slice W _ _ ty (.int .u8 0) Tryz.underlying40 KZ rfl rfl w0.heap.size A 16 c (by omega) (fun j hj=>k.aK.isSome (A+j) (by omega)) (fun j hj=>k.aK.frozen (A+j) (by omega))
theorem jd.wM {w0 W:World} {q:List UInt8} {m:Int} {s:ByteArray} (k:jd w0 q m s W) (A:Nat) (hA:A+16≤64):jd w0 (Pg.over q A (Nm.zs 16)) m s (W.setCells w0.heap.size A (ab (Nm.zs 16))):=
 ⟨k.aK.over A (Nm.zs 16) (by rw [Nm.eb];exact hA),k.ent.bl _ _ _ (by omega),k.out.bl _ _ _ (by omega),below_setCells _ (Nat.le_refl _) _ _ _ k.below⟩
theorem rP {w0 W:World} {q:List UInt8} {m:Int} {s:ByteArray} {ρ:Operand→Value} {op:Oper} (k:jd w0 q m s W) (A:Nat) (hA:A+16≤64) (n:Nat) (v:Operand) (c:Call) (ho:op.op=.call c) (hc:c.callee=.builtin .clear) (ha:c.args=#[v]) (ht:c.argTypes=#[40])
  (hv:ρ v=.slice (some ⟨w0.heap.size,A,none⟩) 16 n):(execOp ρ op).run Tryz.prog W=.ok (.value (.tuple #[])) (W.setCells w0.heap.size A (ab (Nm.zs 16))):=by
 have h:=fun ty=>Aq k A hA ty n
 unfold execOp
 simp [ho,resolve,hc,ha,ht,hv,Go.invoke,Go.builtin,h]
theorem lT {ops:Array Oper} {rest:List Oper} {op:Oper} {a:Act} {Q:Exit→Act→World→Prop} {w0 W:World} {q:List UInt8} {m:Int} {s:ByteArray} (k:jd w0 q m s W) (A:Nat) (hA:A+16≤64) (n:Nat) (hgd:op.guard=none) (v:Operand) (c:Call) (ho:op.op=.call c) (hc:c.callee=.builtin .clear) (ha:c.args=#[v]) (ht:c.argTypes=#[40])
  (hv:a.eval v=.slice (some ⟨w0.heap.size,A,none⟩) 16 n) (h:∀ W2,jd w0 (Pg.over q A (Nm.zs 16)) m s W2→wpList Tryz.prog ops Q rest (a.put op.dst (.tuple #[])) W2):wpList Tryz.prog ops Q (op::rest) a W:=
 wpList_plain hgd fun _ hK=>by
  unfold Oper.wp
  rw [rP k A hA n v c ho hc ha ht hv]
  exact hK _ _ (h _ (k.wM A hA))
theorem gW {ops:Array Oper} {rest:List Oper} {op:Oper} {a:Act} {Q:Exit→Act→World→Prop} {w0 W:World} {q r:List UInt8} {m:Int} {s:ByteArray} (k:jd w0 q m s W) (hr:r.length=64) (hgd:op.guard=none) (x y:Operand) (ho:op.op=.store 87 x y)
  (hx:a.eval x=.pointer (some ⟨w0.heap.size,0,none⟩)) (hy:a.eval y=an r) (h:∀ W2,jd w0 r m s W2→wpList Tryz.prog ops Q rest (a.put op.dst undef) W2):wpList Tryz.prog ops Q (op::rest) a W:=
 ax k.aK hr hgd x y ho hx hy (h _ (k.put r hr))
theorem BX (p:List UInt8) (i:Int) (A:Nat) (n:Int) (s:ByteArray) (w:World) (hp:p.length=64) (h0:0≤i) (h4:i<4) (hA:i*16=(A:Int)) (hn:Nm.bL n s.data.toList=true) (hm:s.size≤maxLen):
  Calls Tryz.prog 194 #[an p,.int .i64 i,jC n s] w fun e w'=>e=.returned (an (Pg.br (Pg.eV (Pg.eV (Pg.over p A (Nm.zs 16)) A 2 n) ((A:Int)+2) 1 s.size) ((A:Int)+3) s.data.toList))∧Below w.heap.size w w':=by
 have hs:=oL w p n s hp
 rw [az] at hs
 have HS:=Lib.hid hs;clear hs
 have HT:=Lib.hid (fun w=>fZ i w)
 rw [show iQ i=true from decide_eq_true ⟨h0,h4⟩] at HT
 have HM:=Lib.hid (fun w=>nT n s w hm)
 rw [hn] at HM
 have hA64:A+16≤64:=by omega
 obtain ⟨q1,E1⟩:∃ y,Hid (y=Pg.over p A (Nm.zs 16)):=⟨_,Lib.hid rfl⟩
 have L1:Hid (q1.length=64):=Lib.hid (by rw [E1.out,Pg.bj _ _ _ (by rw [Nm.eb];omega),hp])
 obtain ⟨q2,E2⟩:∃ y,Hid (y=Pg.eV q1 A 2 n):=⟨_,Lib.hid rfl⟩
 have L2:Hid (q2.length=64):=Lib.hid (by rw [E2.out];exact Pg.aP _ _ _ _ L1.out)
 have C2:=Lib.hid (fun w=>ek q1 (A:Int) 2 n w L1.out (by decide) (by decide))
 rw [← E2.out] at C2
 obtain ⟨q3,E3⟩:∃ y,Hid (y=Pg.eV q2 ((A:Int)+2) 1 s.size):=⟨_,Lib.hid rfl⟩
 have L3:Hid (q3.length=64):=Lib.hid (by rw [E3.out];exact Pg.aP _ _ _ _ L2.out)
 have C3:=Lib.hid (fun w=>ek q2 ((A:Int)+2) 1 s.size w L2.out (by decide) (by decide))
 rw [← E3.out] at C3
 obtain ⟨q4,E4⟩:∃ y,Hid (y=Pg.br q3 ((A:Int)+3) s.data.toList):=⟨_,Lib.hid rfl⟩
 have L4:Hid (q4.length=64):=Lib.hid (by rw [E4.out];exact Pg.fT _ _ _ L3.out)
 have C4:=Lib.hid (fun w=>kn q3 ((A:Int)+3) s w L3.out hm)
 rw [← E4.out] at C4
 rw [← E1.out,← E2.out,← E3.out,← E4.out]
 clear E2 E3 E4 hp hn hm
 unfold an jC
 go_enter Tryz.func194,Tryz.ntmps194
 go_wp2_with (first
  | (go_at_call 231;refine (HT.out _).mono ?_;rintro e w' ⟨rfl,rfl⟩)
  | (go_at_call 232;refine (HM.out _).mono ?_;rintro e w2 ⟨rfl,hb⟩;have S:=Lib.hid (HS.out.call hb);clear hb HS;have hsl:(Instr.sliceAt 87 (.pointer (some ⟨w.heap.size,0,none⟩)) (some (.int .i64 (A:Int))) (some (.int .i64 ((A:Int)+16))) none).run Tryz.prog w2=.ok (.slice (some ⟨w.heap.size,A,none⟩) 16 (64 - A)) w2:=eW w2 w.heap.size A 16 (by decide) hA64)
  | ((with_reducible refine lT S.out A hA64 (64 - A) rfl (.tmp 22) _ rfl rfl rfl rfl ?_ ?_);(exact rfl);clear hsl;intro W2 S2;rw [← E1.out] at S2;replace S:=Lib.hid S2;clear S2 E1;have hc:=S.out.ent.cell 0 _ rfl)
  | (with_reducible refine ah S.out.aK rfl (.tmp 3) rfl rfl ?_)
  | (go_at_call 195;(with_reducible refine (C2.out _).mono ?_);rintro e w' ⟨rfl,hb⟩;clear hc C2;replace S:=Lib.hid (S.out.call hb);clear hb)
  | ((with_reducible refine gW S.out L2.out rfl (.tmp 3) (.tmp 27) rfl rfl ?_ ?_);(exact rfl);intro W2 S2;replace S:=Lib.hid S2;clear S2;have hc:=S.out.ent.cell 1 _ rfl)
  | (go_at_call 195;(with_reducible refine (C3.out _).mono ?_);rintro e w' ⟨rfl,hb⟩;clear hc C3;replace S:=Lib.hid (S.out.call hb);clear hb)
  | ((with_reducible refine gW S.out L3.out rfl (.tmp 3) (.tmp 34) rfl rfl ?_ ?_);(exact rfl);intro W2 S2;replace S:=Lib.hid S2;clear S2;have hc:=S.out.ent.cell 1 _ rfl)
  | (go_at_call 122;(with_reducible refine (C4.out _).mono ?_);rintro e w' ⟨rfl,hb⟩;clear hc C4;replace S:=Lib.hid (S.out.call hb);clear hb)
  | ((with_reducible refine ax S.out.out L4.out rfl (.tmp 6) (.tmp 40) rfl rfl ?_ ?_);(exact rfl)))
 exact bodyPost_ret (bE _ 6 rfl _ (S.out.back q4 L4.out).1 rfl) rfl ⟨rfl,(S.out.back q4 L4.out).2⟩
end

section
open Dk (av aa)
open Go.RowKit
theorem fA (n:Int) (s:ByteArray):(jD n s).length=2:=rfl
structure qV (w0:World) (p:List UInt8) (W:World):Prop where
 aK:aD W w0.heap.size p
 out:au W (w0.heap.size+1) (jD 0 ⟨#[]⟩)
 below:Below w0.heap.size w0 W
theorem qV.call {w0:World} {p:List UInt8} {W W':World} (k:qV w0 p W) (hb:Below W.heap.size W W'):qV w0 p W':=
 ⟨k.aK.step hb,au.step k.out hb,k.below.trans (hb.mono k.below.size)⟩
theorem qV.drew {w0:World} {p:List UInt8} {W:World} (k:qV w0 p W):qV w0 p W.drew:=⟨k.aK.drew,k.out.drew,k.below.drew⟩
theorem xM (w:World) (p:List UInt8) (t:TypeId) (hp:p.length=64):qV w p ((w.alloc (.cells (ab p).toArray 87)).alloc (.cells (jD 0 ⟨#[]⟩).toArray t)) where
 aK:=(bF w p _ hp).alloc _
 out:=by
  have h:=bh (w.alloc (.cells (ab p).toArray 87)) (jD 0 ⟨#[]⟩) t
  rw [World.size_alloc] at h
  exact h
 below:=((Below.refl _ _).alloc (Nat.le_refl _) _).alloc (by simp) _
theorem qV.back {w0:World} {p:List UInt8} {W:World} (k:qV w0 p W) (n:Int) (s:ByteArray):au (W.setCells (w0.heap.size+1) 0 (jD n s)) (w0.heap.size+1) (jD n s)∧Below w0.heap.size w0 (W.setCells (w0.heap.size+1) 0 (jD n s)):=
 ⟨k.out.put (jD n s) rfl,below_setCells _ (by omega) _ _ _ k.below⟩
def kF (w0:World) (p:List UInt8) (n:Int) (s:ByteArray) (o:Option (Nat × Bool)) (W:World):Prop:=
 qV w0 p W∧match o with
  | none=>True
  | some (g,b)=>w0.heap.size+1<g∧au W g (if b=true then jD n s else jD 0 ⟨#[]⟩)
theorem kF.call {w0:World} {p:List UInt8} {n:Int} {s:ByteArray} {o:Option (Nat × Bool)} {W W':World} (k:kF w0 p n s o W) (hb:Below W.heap.size W W'):kF w0 p n s o W':=by
 refine ⟨qV.call k.1 hb,?_⟩
 match o,k with
 | none,_=>trivial
 | some (g,true),k=>exact ⟨k.2.1,au.step (v:=.int .i64 n) (vs:=[.string s]) k.2.2 hb⟩
 | some (g,false),k=>exact ⟨k.2.1,au.step (v:=.int .i64 0) (vs:=[.string ⟨#[]⟩]) k.2.2 hb⟩
theorem kF.drew {w0:World} {p:List UInt8} {n:Int} {s:ByteArray} {g:Nat} {b:Bool} {W:World} (k:kF w0 p n s (some (g,b)) W):kF w0 p n s (some (g,b)) W.drew:=⟨qV.drew k.1,k.2.1,k.2.2.drew⟩
theorem kF.alloc {w0:World} {p:List UInt8} {n:Int} {s:ByteArray} {W:World} {t:TypeId} (k:qV w0 p W):kF w0 p n s (some (W.heap.size,false)) (W.alloc (.cells (jD 0 ⟨#[]⟩).toArray t)):=
 ⟨⟨k.aK.alloc _,k.out.alloc _,k.below.alloc k.below.size _⟩,k.out.lt,bh W (jD 0 ⟨#[]⟩) t⟩
theorem kF.put {w0:World} {p:List UInt8} {n:Int} {s:ByteArray} {g:Nat} {b:Bool} {W:World} (k:kF w0 p n s (some (g,b)) W):kF w0 p n s (some (g,true)) (W.setCells g 0 (jD n s)):=by
 obtain ⟨k1,k2,k3⟩:=k
 exact ⟨⟨k1.aK.bl _ _ _ (by omega),k1.out.bl _ _ _ (by omega),below_setCells _ (by omega) _ _ _ k1.below⟩,k2,k3.put (jD n s) (by cases b <;> rfl)⟩
theorem JE (p:List UInt8) (i:Int) (A:Nat) (L m:Int) (t:ByteArray) (w:World) (hp:p.length=64) (h0:0≤i) (h4:i<4) (hA:i*16=(A:Int))
  (C1:Hid (∀ w,Calls Tryz.prog 205 #[an p,.int .i64 ((A:Int)+2),.int .i64 1] w fun e w'=>e=.returned (.int .i64 L)∧Below w.heap.size w w'))
  (C2:Hid (∀ w,Calls Tryz.prog 205 #[an p,.int .i64 (A:Int),.int .i64 2] w fun e w'=>e=.returned (.int .i64 m)∧Below w.heap.size w w'))
  (C3:Hid (∀ w,Calls Tryz.prog 189 #[an p,.int .i64 ((A:Int)+3),.int .i64 L] w fun e w'=>e=.returned (.string t)∧Below w.heap.size w w'))
  (HM:Hid (∀ w,Calls Tryz.prog 232 #[jC m t] w fun e w'=>e=.returned (.bool false)∧Below w.heap.size w w'))
  : Calls Tryz.prog 227 #[an p,.int .i64 i] w fun e w'=>e=.returned (.tuple #[jC 0 ⟨#[]⟩,.int .i64 5])∧Below w.heap.size w w':=by
 have HS:=Lib.hid (xM w p 66 hp)
 have HT:=Lib.hid (fun w=>fZ i w)
 rw [show iQ i=true from decide_eq_true ⟨h0,h4⟩] at HT
 have hA64:A+16≤64:=by omega
 have HW3:Hid (IntKind.i64.wrap ((A:Int)+3)=(A:Int)+3):=Lib.hid (IntWalk.i64_in _ (by omega))
 clear hp
 unfold an
 go_enter Tryz.func227,Tryz.ntmps227
 go_wp2_with fail
 refine (HT.out _).mono ?_
 rintro e w1 ⟨rfl,hw⟩
 have S:Hid (qV w p w1):=Lib.hid (by rw [← hw];exact HS.out)
 clear hw HS
 go_wp2_with (first
  | (with_reducible refine ah S.out.aK rfl (.tmp 2) rfl rfl ?_)
  | (go_at_call 205;(with_reducible refine (C1.out _).mono ?_);rintro e w' ⟨rfl,hb⟩;clear C1;replace S:=Lib.hid (S.out.call hb);clear hb))
 refine cq (kF w p m t) (fun i=>i == 9 || i == 10) (fun i=>[an p,.int .i64 (A:Int),.int .i64 m,an p,.int .i64 (A:Int),.int .i64 ((A:Int)+3),.int .i64 L,.string t,jC m t].getD i undef) (none) (by kernel_rfl) (by kernel_rfl) (⟨qV.drew S.out,trivial⟩) ?_
 refine ar (i:=0) (d:=some 19) (v:=an p) rfl rfl (by kernel_rfl) (by kernel_rfl) rfl rfl (bf (by kernel_rfl) (.tmp 2) rfl rfl (fun _ _ hS=>hS.1.aK)) ?_
 (try simp only [Act.put,puA,puB,puC])
 refine ar (i:=1) (d:=some 20) (v:=.int .i64 (A:Int)) rfl rfl (by kernel_rfl) (by kernel_rfl) rfl rfl (ae (by kernel_rfl) ?_) ?_
 ·intro _ _ _;go_simp
 (try simp only [Act.put,puA,puB,puC])
 refine ar (i:=2) (d:=some 21) (v:=.int .i64 m) rfl rfl (by kernel_rfl) (by kernel_rfl) rfl rfl (aR (f:=205) (args:=#[an p,.int .i64 (A:Int),.int .i64 2]) (by kernel_rfl) ?_ (fun _ W hS=>(C2.out W).mono fun _ _ h=>⟨h.1,kF.call hS h.2⟩)) ?_
 ·intro _;go_simp
 (try simp only [Act.put,puA,puB,puC])
 refine ar (i:=3) (d:=some 22) (v:=an p) rfl rfl (by kernel_rfl) (by kernel_rfl) rfl rfl (bf (by kernel_rfl) (.tmp 2) rfl rfl (fun _ _ hS=>hS.1.aK)) ?_
 (try simp only [Act.put,puA,puB,puC])
 refine ar (i:=4) (d:=some 23) (v:=.int .i64 (A:Int)) rfl rfl (by kernel_rfl) (by kernel_rfl) rfl rfl (ae (by kernel_rfl) ?_) ?_
 ·intro _ _ _;go_simp
 (try simp only [Act.put,puA,puB,puC])
 refine ar (i:=5) (d:=some 24) (v:=.int .i64 ((A:Int)+3)) rfl rfl (by kernel_rfl) (by kernel_rfl) rfl rfl (ae (by kernel_rfl) ?_) ?_
 ·intro _ _ _;go_simp;rw [HW3.out]
 (try simp only [Act.put,puA,puB,puC])
 refine ar (i:=6) (d:=some 25) (v:=.int .i64 L) rfl rfl (by kernel_rfl) (by kernel_rfl) rfl rfl (ae (by kernel_rfl) ?_) ?_
 ·intro _ _ _;go_simp
 (try simp only [Act.put,puA,puB,puC])
 refine ar (i:=7) (d:=some 26) (v:=.string t) rfl rfl (by kernel_rfl) (by kernel_rfl) rfl rfl (aR (f:=189) (args:=#[an p,.int .i64 ((A:Int)+3),.int .i64 L]) (by kernel_rfl) ?_ (fun _ W hS=>(C3.out W).mono fun _ _ h=>⟨h.1,kF.call hS h.2⟩)) ?_
 ·intro _;go_simp
 (try simp only [Act.put,puA,puB,puC])
 refine ar (i:=8) (d:=some 27) (v:=jC m t) rfl rfl (by kernel_rfl) (by kernel_rfl) rfl rfl (ae (by kernel_rfl) ?_) ?_
 ·(intro _ _ _;unfold jC;go_simp) <;> rfl
 (try simp only [Act.put,puA,puB,puC])
 refine dS (i:=9) (d:=some 8) (fun u s=>∃ g,w.heap.size+1<g∧u=.pointer (some ⟨g,0,none⟩)∧s=some (g,false)) rfl rfl (by kernel_rfl) (by kernel_rfl) rfl (by kernel_rfl) (⟨_,_,w.heap.size+2,by omega,rfl,rfl⟩) (by kernel_rfl) (fun W hS=>eX (v:=.pointer (some ⟨W.heap.size,0,none⟩)) (w':=W.alloc (.cells (jD 0 ⟨#[]⟩).toArray 66)) (by go_simp;rfl) ⟨some (W.heap.size,false),⟨W.heap.size,hS.1.out.lt,rfl,rfl⟩,kF.alloc hS.1⟩) ?_
 rintro _ _ ⟨g,hg,rfl,rfl⟩
 (try simp only [Act.put,puA,puB,puC])
 refine dS (i:=10) (d:=none) (fun u s=>u=undef∧s=some (g,true)) rfl rfl (by kernel_rfl) (by kernel_rfl) rfl (by kernel_rfl) (⟨_,_,rfl,rfl⟩) (by kernel_rfl) (fun W hS=>bA pn hS.2.2 rfl rfl (iJ m t) (.tmp 8) (.tmp 27) rfl rfl rfl ⟨some (g,true),⟨rfl,rfl⟩,kF.put hS⟩) ?_
 rintro _ _ ⟨rfl,rfl⟩
 (try simp only [Act.put,puA,puB,puC])
 refine fz (by kernel_rfl) ?_
 intro W2 hS
 have S2:Hid (kF w p m t (some (g,true)) W2):=Lib.hid hS
 clear hS S hg
 go_wp2_with fail
 refine fN (C:=kF w p m t (some (g,true))) (by kernel_rfl) (kF.drew S2.out) ?_
 refine ic pn rfl (.tmp 8) rfl rfl (by kernel_rfl) (fun _ hC=>hC.2.2) ?_
 (try simp only [Act.put,puA,puB,puC])
 refine ep 232 #[jC m t] (.bool false) (by kernel_rfl) (fun _=>by go_simp;rfl) (fun W hC=>(HM.out W).mono fun _ _ h=>⟨h.1,kF.call hC h.2⟩) ?_
 (try simp only [Act.put,puA,puB,puC])
 refine bD (.bool true) (by kernel_rfl) ?_ ?_
 ·(intro _ _;go_simp)
 (try simp only [Act.put,puA,puB,puC])
 refine bD (.bool true) (by kernel_rfl) ?_ ?_
 ·(intro _ _;go_simp)
 (try simp only [Act.put,puA,puB,puC])
 refine BigFrame.wpQuiet_skip (by kernel_rfl) ?_
 (try simp only [Act.put,puA,puB,puC])
 refine BigFrame.wpQuiet_skip (by kernel_rfl) ?_
 (try simp only [Act.put,puA,puB,puC])
 refine BigFrame.wpQuiet_skip (by kernel_rfl) ?_
 (try simp only [Act.put,puA,puB,puC])
 refine BigFrame.wpQuiet_skip (by kernel_rfl) ?_
 (try simp only [Act.put,puA,puB,puC])
 refine BigFrame.wpQuiet_skip (by kernel_rfl) ?_
 (try simp only [Act.put,puA,puB,puC])
 refine BigFrame.wpQuiet_skip (by kernel_rfl) ?_
 (try simp only [Act.put,puA,puB,puC])
 refine bD (.bool true) (by kernel_rfl) ?_ ?_
 ·(intro _ _;go_simp)
 (try simp only [Act.put,puA,puB,puC])
 refine wpQuiet_nil ?_
 intro W3 hC
 have S3:=Lib.hid hC
 clear hC S2
 have R3:Hid (au W3 g (jD m t)):=Lib.hid S3.out.2.2
 have B3:Hid (qV w p W3):=Lib.hid S3.out.1
 go_wp2_with (first
  | ((with_reducible refine ak pn (vs:=jD 0 ⟨#[]⟩) B3.out.out (fA _ _) (fA _ _) (iJ _ _) rfl (.tmp 4) (.tmp 39) rfl rfl ?_ ?_);(exact rfl))
  | (with_reducible refine af pn R3.out (fA _ _) rfl (.tmp 8) rfl rfl ?_))
 exact bodyPost_ret (aL pn _ 4 5 rfl _ (B3.out.back _ _).1 rfl rfl rfl) rfl ⟨rfl,(B3.out.back _ _).2⟩
theorem uh (p:List UInt8) (i:Int) (A:Nat) (L m:Int) (t:ByteArray) (q:List UInt8) (b:Bool) (w:World) (hp:p.length=64) (h0:0≤i) (h4:i<4) (hA:i*16=(A:Int))
  (C1:Hid (∀ w,Calls Tryz.prog 205 #[an p,.int .i64 ((A:Int)+2),.int .i64 1] w fun e w'=>e=.returned (.int .i64 L)∧Below w.heap.size w w'))
  (C2:Hid (∀ w,Calls Tryz.prog 205 #[an p,.int .i64 (A:Int),.int .i64 2] w fun e w'=>e=.returned (.int .i64 m)∧Below w.heap.size w w'))
  (C3:Hid (∀ w,Calls Tryz.prog 189 #[an p,.int .i64 ((A:Int)+3),.int .i64 L] w fun e w'=>e=.returned (.string t)∧Below w.heap.size w w'))
  (HM:Hid (∀ w,Calls Tryz.prog 232 #[jC m t] w fun e w'=>e=.returned (.bool true)∧Below w.heap.size w w'))
  (C4:Hid (∀ w,Calls Tryz.prog 194 #[an p,.int .i64 i,jC m t] w fun e w'=>e=.returned (an q)∧Below w.heap.size w w'))
  (hq:q.length=64) (hbq:(!decide (q=p))=b)
  : Calls Tryz.prog 227 #[an p,.int .i64 i] w fun e w'=>e=.returned (.tuple #[if b=true then jC 0 ⟨#[]⟩ else jC m t,.int .i64 (if b=true then 5 else 0)])∧Below w.heap.size w w':=by
 have HN:Hid (∀ w,(binOp .neq 87 (an q) (an p)).run Tryz.prog w=.ok (.bool b) w):=Lib.hid (fun w=>by rw [gB w q p hq hp,hbq])
 clear hq
 clear hbq
 have HS:=Lib.hid (xM w p 66 hp)
 have HT:=Lib.hid (fun w=>fZ i w)
 rw [show iQ i=true from decide_eq_true ⟨h0,h4⟩] at HT
 have hA64:A+16≤64:=by omega
 have HW3:Hid (IntKind.i64.wrap ((A:Int)+3)=(A:Int)+3):=Lib.hid (IntWalk.i64_in _ (by omega))
 clear hp
 unfold an
 go_enter Tryz.func227,Tryz.ntmps227
 go_wp2_with fail
 refine (HT.out _).mono ?_
 rintro e w1 ⟨rfl,hw⟩
 have S:Hid (qV w p w1):=Lib.hid (by rw [← hw];exact HS.out)
 clear hw HS
 go_wp2_with (first
  | (with_reducible refine ah S.out.aK rfl (.tmp 2) rfl rfl ?_)
  | (go_at_call 205;(with_reducible refine (C1.out _).mono ?_);rintro e w' ⟨rfl,hb⟩;clear C1;replace S:=Lib.hid (S.out.call hb);clear hb))
 refine cq (kF w p m t) (fun i=>i == 9 || i == 10) (fun i=>[an p,.int .i64 (A:Int),.int .i64 m,an p,.int .i64 (A:Int),.int .i64 ((A:Int)+3),.int .i64 L,.string t,jC m t].getD i undef) (none) (by kernel_rfl) (by kernel_rfl) (⟨qV.drew S.out,trivial⟩) ?_
 refine ar (i:=0) (d:=some 19) (v:=an p) rfl rfl (by kernel_rfl) (by kernel_rfl) rfl rfl (bf (by kernel_rfl) (.tmp 2) rfl rfl (fun _ _ hS=>hS.1.aK)) ?_
 (try simp only [Act.put,puA,puB,puC])
 refine ar (i:=1) (d:=some 20) (v:=.int .i64 (A:Int)) rfl rfl (by kernel_rfl) (by kernel_rfl) rfl rfl (ae (by kernel_rfl) ?_) ?_
 ·intro _ _ _;go_simp
 (try simp only [Act.put,puA,puB,puC])
 refine ar (i:=2) (d:=some 21) (v:=.int .i64 m) rfl rfl (by kernel_rfl) (by kernel_rfl) rfl rfl (aR (f:=205) (args:=#[an p,.int .i64 (A:Int),.int .i64 2]) (by kernel_rfl) ?_ (fun _ W hS=>(C2.out W).mono fun _ _ h=>⟨h.1,kF.call hS h.2⟩)) ?_
 ·intro _;go_simp
 (try simp only [Act.put,puA,puB,puC])
 refine ar (i:=3) (d:=some 22) (v:=an p) rfl rfl (by kernel_rfl) (by kernel_rfl) rfl rfl (bf (by kernel_rfl) (.tmp 2) rfl rfl (fun _ _ hS=>hS.1.aK)) ?_
 (try simp only [Act.put,puA,puB,puC])
 refine ar (i:=4) (d:=some 23) (v:=.int .i64 (A:Int)) rfl rfl (by kernel_rfl) (by kernel_rfl) rfl rfl (ae (by kernel_rfl) ?_) ?_
 ·intro _ _ _;go_simp
 (try simp only [Act.put,puA,puB,puC])
 refine ar (i:=5) (d:=some 24) (v:=.int .i64 ((A:Int)+3)) rfl rfl (by kernel_rfl) (by kernel_rfl) rfl rfl (ae (by kernel_rfl) ?_) ?_
 ·intro _ _ _;go_simp;rw [HW3.out]
 (try simp only [Act.put,puA,puB,puC])
 refine ar (i:=6) (d:=some 25) (v:=.int .i64 L) rfl rfl (by kernel_rfl) (by kernel_rfl) rfl rfl (ae (by kernel_rfl) ?_) ?_
 ·intro _ _ _;go_simp
 (try simp only [Act.put,puA,puB,puC])
 refine ar (i:=7) (d:=some 26) (v:=.string t) rfl rfl (by kernel_rfl) (by kernel_rfl) rfl rfl (aR (f:=189) (args:=#[an p,.int .i64 ((A:Int)+3),.int .i64 L]) (by kernel_rfl) ?_ (fun _ W hS=>(C3.out W).mono fun _ _ h=>⟨h.1,kF.call hS h.2⟩)) ?_
 ·intro _;go_simp
 (try simp only [Act.put,puA,puB,puC])
 refine ar (i:=8) (d:=some 27) (v:=jC m t) rfl rfl (by kernel_rfl) (by kernel_rfl) rfl rfl (ae (by kernel_rfl) ?_) ?_
 ·(intro _ _ _;unfold jC;go_simp) <;> rfl
 (try simp only [Act.put,puA,puB,puC])
 refine dS (i:=9) (d:=some 8) (fun u s=>∃ g,w.heap.size+1<g∧u=.pointer (some ⟨g,0,none⟩)∧s=some (g,false)) rfl rfl (by kernel_rfl) (by kernel_rfl) rfl (by kernel_rfl) (⟨_,_,w.heap.size+2,by omega,rfl,rfl⟩) (by kernel_rfl) (fun W hS=>eX (v:=.pointer (some ⟨W.heap.size,0,none⟩)) (w':=W.alloc (.cells (jD 0 ⟨#[]⟩).toArray 66)) (by go_simp;rfl) ⟨some (W.heap.size,false),⟨W.heap.size,hS.1.out.lt,rfl,rfl⟩,kF.alloc hS.1⟩) ?_
 rintro _ _ ⟨g,hg,rfl,rfl⟩
 (try simp only [Act.put,puA,puB,puC])
 refine dS (i:=10) (d:=none) (fun u s=>u=undef∧s=some (g,true)) rfl rfl (by kernel_rfl) (by kernel_rfl) rfl (by kernel_rfl) (⟨_,_,rfl,rfl⟩) (by kernel_rfl) (fun W hS=>bA pn hS.2.2 rfl rfl (iJ m t) (.tmp 8) (.tmp 27) rfl rfl rfl ⟨some (g,true),⟨rfl,rfl⟩,kF.put hS⟩) ?_
 rintro _ _ ⟨rfl,rfl⟩
 (try simp only [Act.put,puA,puB,puC])
 refine fz (by kernel_rfl) ?_
 intro W2 hS
 have S2:Hid (kF w p m t (some (g,true)) W2):=Lib.hid hS
 clear hS S hg
 go_wp2_with fail
 refine fN (C:=kF w p m t (some (g,true))) (by kernel_rfl) (kF.drew S2.out) ?_
 refine ic pn rfl (.tmp 8) rfl rfl (by kernel_rfl) (fun _ hC=>hC.2.2) ?_
 (try simp only [Act.put,puA,puB,puC])
 refine ep 232 #[jC m t] (.bool true) (by kernel_rfl) (fun _=>by go_simp;rfl) (fun W hC=>(HM.out W).mono fun _ _ h=>⟨h.1,kF.call hC h.2⟩) ?_
 (try simp only [Act.put,puA,puB,puC])
 refine bD (.bool false) (by kernel_rfl) ?_ ?_
 ·(intro _ _;go_simp)
 (try simp only [Act.put,puA,puB,puC])
 refine bD (.bool false) (by kernel_rfl) ?_ ?_
 ·(intro _ _;go_simp)
 (try simp only [Act.put,puA,puB,puC])
 refine my (.tmp 2) rfl rfl (by kernel_rfl) (fun _ hC=>hC.1.aK) ?_
 (try simp only [Act.put,puA,puB,puC])
 refine bD (.int .i64 i) (by kernel_rfl) ?_ ?_
 ·(intro _ _;go_simp)
 (try simp only [Act.put,puA,puB,puC])
 refine ic pn rfl (.tmp 8) rfl rfl (by kernel_rfl) (fun _ hC=>hC.2.2) ?_
 (try simp only [Act.put,puA,puB,puC])
 refine ep 194 #[an p,.int .i64 i,jC m t] (an q) (by kernel_rfl) (fun _=>by go_simp;rfl) (fun W hC=>(C4.out W).mono fun _ _ h=>⟨h.1,kF.call hC h.2⟩) ?_
 (try simp only [Act.put,puA,puB,puC])
 refine my (.tmp 2) rfl rfl (by kernel_rfl) (fun _ hC=>hC.1.aK) ?_
 (try simp only [Act.put,puA,puB,puC])
 refine bD (.bool b) (by kernel_rfl) ?_ ?_
 ·(intro w _;have hn:=HN.out w;have hgd:=fun x y=>bB w x y q p;go_simp)
 (try simp only [Act.put,puA,puB,puC])
 refine bD (.bool b) (by kernel_rfl) ?_ ?_
 ·(intro _ _;cases b <;> go_simp)
 (try simp only [Act.put,puA,puB,puC])
 refine wpQuiet_nil ?_
 intro W3 hC
 have S3:=Lib.hid hC
 clear hC S2
 cases b with
 |
  true=>
  have R3:Hid (au W3 g (jD m t)):=Lib.hid S3.out.2.2
  have B3:Hid (qV w p W3):=Lib.hid S3.out.1
  go_wp2_with (first
   | ((with_reducible refine ak pn (vs:=jD 0 ⟨#[]⟩) B3.out.out (fA _ _) (fA _ _) (iJ _ _) rfl (.tmp 4) (.tmp 39) rfl rfl ?_ ?_);(exact rfl))
   | (with_reducible refine af pn R3.out (fA _ _) rfl (.tmp 8) rfl rfl ?_))
  exact bodyPost_ret (aL pn _ 4 5 rfl _ (B3.out.back _ _).1 rfl rfl rfl) rfl ⟨rfl,(B3.out.back _ _).2⟩
 |
  false=>
  have R3:Hid (au W3 g (jD m t)):=Lib.hid S3.out.2.2
  have B3:Hid (qV w p W3):=Lib.hid S3.out.1
  go_wp2_with (first
   | ((with_reducible refine ak pn (vs:=jD m t) B3.out.out (fA _ _) (fA _ _) (iJ _ _) rfl (.tmp 4) (.tmp 40) rfl rfl ?_ ?_);(exact rfl))
   | (with_reducible refine af pn R3.out (fA _ _) rfl (.tmp 8) rfl rfl ?_))
  exact bodyPost_ret (aL pn _ 4 5 rfl _ (B3.out.back _ _).1 rfl rfl rfl) rfl ⟨rfl,(B3.out.back _ _).2⟩
end

section
open Dk (av aa)
open Go.RowKit
theorem lK (l:List UInt8):(strOf l).data.toList=l:=rfl
def Kq (p:List UInt8) (i:Int) (n:Int) (s:List UInt8):List UInt8:=if iQ i=true∧Nm.bL n s=true then Nm.lay p i.toNat (Nm.slot n s) else p
theorem Ba {i:Int} (h:iQ i=true):∃ k:Nat,i=(k:Int)∧k<4:=by
 have:=of_decide_eq_true h
 exact ⟨i.toNat,by omega,by omega⟩
theorem Ja (p:List UInt8) (i n:Int) (s:ByteArray) (w:World) (hp:p.length=64) (h:iQ i=false):
  Calls Tryz.prog 194 #[an p,.int .i64 i,jC n s] w fun e w'=>e=.returned (an p)∧Below w.heap.size w w':=by
 have hs:=oL w p n s hp
 rw [az] at hs
 have S:=Lib.hid hs;clear hs
 have L:=Lib.hid hp;clear hp
 have HT:=Lib.hid (fun w=>fZ i w)
 rw [h] at HT
 clear h
 unfold an jC
 go_enter Tryz.func194,Tryz.ntmps194
 go_wp2_with (first
  | (go_at_call 231;refine (HT.out _).mono ?_;rintro e w' ⟨rfl,rfl⟩)
  | (with_reducible refine ah S.out.aK rfl (.tmp 3) rfl rfl ?_)
  | ((with_reducible refine ax S.out.out L.out rfl (.tmp 6) (.tmp 16) rfl rfl ?_ ?_);(exact rfl)))
 exact bodyPost_ret (bE _ 6 rfl _ (S.out.back p L.out).1 rfl) rfl ⟨rfl,(S.out.back p L.out).2⟩
theorem BY (p:List UInt8) (i n:Int) (s:ByteArray) (w:World) (hp:p.length=64) (h:iQ i=true) (hn:Nm.bL n s.data.toList=false) (hm:s.size≤maxLen):
  Calls Tryz.prog 194 #[an p,.int .i64 i,jC n s] w fun e w'=>e=.returned (an p)∧Below w.heap.size w w':=by
 have hs:=oL w p n s hp
 rw [az] at hs
 have HS:=Lib.hid hs;clear hs
 have L:=Lib.hid hp;clear hp
 have HT:=Lib.hid (fun w=>fZ i w)
 rw [h] at HT
 have HM:=Lib.hid (fun w=>nT n s w hm)
 rw [hn] at HM
 clear h hn hm
 unfold an jC
 go_enter Tryz.func194,Tryz.ntmps194
 go_wp2_with (first
  | (go_at_call 231;refine (HT.out _).mono ?_;rintro e w' ⟨rfl,rfl⟩)
  | (go_at_call 232;refine (HM.out _).mono ?_;rintro e w2 ⟨rfl,hb⟩;have S:=Lib.hid (HS.out.call hb);clear hb HS)
  | (with_reducible refine ah S.out.aK rfl (.tmp 3) rfl rfl ?_)
  | ((with_reducible refine ax S.out.out L.out rfl (.tmp 6) (.tmp 16) rfl rfl ?_ ?_);(exact rfl)))
 exact bodyPost_ret (bE _ 6 rfl _ (S.out.back p L.out).1 rfl) rfl ⟨rfl,(S.out.back p L.out).2⟩
theorem FO (p:List UInt8) (i n:Int) (s:ByteArray) (w:World) (hp:p.length=64) (hm:s.size≤maxLen):
  Calls Tryz.prog 194 #[an p,.int .i64 i,jC n s] w fun e w'=>e=.returned (an (Kq p i n s.data.toList))∧Below w.heap.size w w':=by
 cases h:iQ i with
 |
  false=>
  unfold Kq
  rw [if_neg (fun k=>by rw [h] at k;cases k.1)]
  exact Ja p i n s w hp h
 |
  true=>
  cases hn:Nm.bL n s.data.toList with
  |
   false=>
   unfold Kq
   rw [if_neg (fun k=>by rw [hn] at k;cases k.2)]
   exact BY p i n s w hp h hn hm
  |
   true=>
   unfold Kq
   rw [if_pos ⟨h,hn⟩]
   obtain ⟨k,rfl,hk⟩:=Ba h
   have:=BX p (k:Int) (16*k) n s w hp (by omega) (by omega) (by omega) hn hm
   rw [Int.toNat_natCast,← Nm.Ca hp hk n (Nm.ik hn).2.2]
   unfold Nm.FC Nm.KP Nm.KQ Nm.KR
   rw [fS]
   exact this
def Ku (o:Option (Int × List UInt8)):Int:=if o.isSome=true then 0 else 5
theorem get_at (p:List UInt8) (k:Nat) (w:World) (hp:p.length=64) (hk:k<4):
  Calls Tryz.prog 227 #[an p,.int .i64 (k:Int)] w fun e w'=>e=.returned (.tuple #[jC (Nm.MD (Nm.ent (Nm.at_ p k))) (strOf (Nm.MC (Nm.ent (Nm.at_ p k)))),.int .i64 (Ku (Nm.ent (Nm.at_ p k)))])∧Below w.heap.size w w':=by
 have hb:=Nm.Lk hp hk
 have hl:(strOf (Nm.name p k)).size≤maxLen:=by
  rw [dO]
  have:=Nm.vW hp k
  unfold maxLen
  omega
 have C1:=Lib.hid (fun w=>bx p (((16*k:Nat):Int)+2) 1 w hp (by decide) (by decide))
 have C2:=Lib.hid (fun w=>bx p ((16*k:Nat):Int) 2 w hp (by decide) (by decide))
 have C3:=Lib.hid (fun w=>xe p (((16*k:Nat):Int)+3) (Nm.len p k) w hp (by omega) (by omega))
 have HM:=Lib.hid (fun w=>nT (Nm.num p k) (strOf (Nm.name p k)) w hl)
 rw [lK] at HM
 rw [Nm.GI hp hk]
 cases hs:Nm.bL (Nm.num p k) (Nm.name p k) with
 |
  false=>
  rw [if_neg (fun h=>by cases h.1)]
  rw [hs] at HM
  exact JE p (k:Int) (16*k) (Nm.len p k) (Nm.num p k) (strOf (Nm.name p k)) w hp (by omega) (by omega) (by omega) C1 C2 C3 HM
 |
  true=>
  rw [hs] at HM
  have hn:Nm.bL (Nm.num p k) (strOf (Nm.name p k)).data.toList=true:=by rw [lK];exact hs
  have C4:=Lib.hid (fun w=>BX p (k:Int) (16*k) (Nm.num p k) (strOf (Nm.name p k)) w hp (by omega) (by omega) (by omega) hn hl)
  have he:Pg.br (Pg.eV (Pg.eV (Pg.over p (16*k) (Nm.zs 16)) (16*k:Nat) 2 (Nm.num p k)) (((16*k:Nat):Int)+2) 1 (strOf (Nm.name p k)).size) (((16*k:Nat):Int)+3) (strOf (Nm.name p k)).data.toList=Nm.FC p k (Nm.num p k) (Nm.name p k):=by
   rw [lK,dO]
   rfl
  rw [he] at C4
  have hq:=Nm.vF hp hk (Nm.num p k) (Nm.name p k)
  have:=uh p (k:Int) (16*k) (Nm.len p k) (Nm.num p k) (strOf (Nm.name p k)) (Nm.FC p k (Nm.num p k) (Nm.name p k)) _ w hp (by omega) (by omega) (by omega) C1 C2 C3 HM C4 hq rfl
  by_cases hqp:Nm.FC p k (Nm.num p k) (Nm.name p k)=p
  ·rw [if_pos ⟨rfl,hqp⟩]
   rw [decide_eq_true hqp] at this
   exact this
  ·rw [if_neg (fun h=>hqp h.2)]
   rw [decide_eq_false hqp] at this
   exact this
end

section
open Dk (av aa)
open Go.RowKit
theorem BH {W:World} {b:Nat} {p:List UInt8} (k:au W b (ab p)) (hp:p.length=64):aD W b p where
 len:=hp
 range:=k.range
 free:=by
  have:=k.free
  rwa [aj,hp] at this
theorem tL {W:World} {b:Nat} {p:List UInt8} (k:aD W b p):au W b (ab p) where
 range:=k.range
 free:=by
  rw [aj,k.len]
  exact k.free
section
variable {ops:Array Oper} {rest:List Oper} {op:Oper} {a:Act} {Q:Act→Prop} {C:World→Prop}
end
end

section
open Dk (av aa)
open Go.ChangeShapes Go.WideShapes Go.ChangeAt Go.RowKit
theorem GK (n:Int) (s:ByteArray):Value.agg (jD n s).toArray=jC n s:=rfl
end
end Go.Proofs.YtagfoogfpabdfaaGreat
