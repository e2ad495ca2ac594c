/- Texts of the proof. -/
import Derived.Test.YtagfoogfpabdfaaGreatTan
import Derived.Test.YtagfoogfpabdfaaGreatTar
import Derived.Test.YtagfoogfpabdfaaGreatTag
import Derived.Test.YtagfoogfpabdfaaGreatTah
import Derived.Test.YtagfoogfpabdfaaGreatTaf
import Derived.Test.YtagfoogfpabdfaaGreatTao
set_option maxRecDepth 100000
set_option maxHeartbeats 16000000
namespace Go.Proofs.YtagfoogfpabdfaaGreat
end Go.Proofs.YtagfoogfpabdfaaGreat
set_option maxRecDepth 100000
namespace Go.Proofs.YtagfoogfpabdfaaGreat
open Go.RowKit Go.Maps
open Dk (av aa)
open Ii (Ino)
theorem fo (w:World) (g:FuncId) (caps:Array Value):Calls Tryz.prog 55 #[.pointer none,.func (.func g) #[] caps] w fun e w'=>e=.returned (.int .i64 5)∧Below w.heap.size w w':=by
 have hmf:∀ (fn:Fn) (first cap:Array Value) (w:World),(Instr.makeFunc fn first cap).run Tryz.prog w=.ok (.func fn first cap) w:=fun _ _ _ _=>rfl
 have S:=Lib.hid (((Lo.start (L:=[]) w (by simp)).alloc _ rfl [.pointer none] 26).alloc (w.heap.size+1) (by simp) [.func (.func g) #[] caps] 111)
 have c0:=(S.out.get 0 _ rfl).cell 0 _ rfl
 have HV:=Lib.hid (fun W=>gr W)
 have HD:=Lib.hid (fun W v=>LI W v)
 go_enter Tryz.func55,Tryz.ntmps55
 go_wp2_with (first
  | (go_at_call 20;refine (HV.out _).mono ?_;rintro e w1 ⟨rfl,rfl⟩)
  | (go_at_call 115;refine (HD.out _ _).mono ?_;rintro e w1 ⟨rfl,hb⟩;replace S:=Lib.hid (S.out.below hb);clear hb))
 go_ret
 exact ⟨rfl,S.out.bel⟩
theorem jX (w:World) (g:FuncId) (caps:Array Value):Calls Tryz.prog 47 #[.pointer none,.func (.func g) #[] caps] w fun e w'=>e=.returned (.tuple #[fH 0 Ii.zero,.int .i64 5])∧Below w.heap.size w w':=by
 have hmf:∀ (fn:Fn) (first cap:Array Value) (w:World),(Instr.makeFunc fn first cap).run Tryz.prog w=.ok (.func fn first cap) w:=fun _ _ _ _=>rfl
 have S:=Lib.hid (((((Lo.start (L:=[]) w (by simp)).alloc _ rfl [.func (.func g) #[] caps] 107).alloc (w.heap.size+1) (by simp) (aZ 0 Ii.zero) 33).alloc (w.heap.size+2) (by simp) (aZ 0 Ii.zero) 33).alloc (w.heap.size+3) (by simp) (aZ 0 Ii.zero) 33)
 have HD:=Lib.hid (fun W g caps=>fo W g caps)
 go_enter Tryz.func47,Tryz.ntmps47
 go_wp2_with (first
  | (go_at_call 55;refine (HD.out _ _ _).mono ?_;rintro e w1 ⟨rfl,hb⟩;replace S:=Lib.hid (S.out.below hb);clear hb)
  | (with_reducible refine af de (S.out.get 3 _ rfl) rfl rfl (.tmp 7) rfl rfl ?_)
  | ((with_reducible refine ak (vs:=aZ 0 Ii.zero) de (S.out.get 1 _ rfl) ?_ ?_ (bq _ _) rfl (.tmp 4) (.tmp 14) rfl ?_ ?_ ?_);(exact rfl);(exact rfl);(exact rfl);(exact rfl)))
 have S2:=Lib.hid (S.out.put 1 _ rfl (aZ 0 Ii.zero) rfl)
 exact bodyPost_ret (aL de _ 4 5 rfl _ (S2.out.get 1 _ rfl) rfl rfl rfl) rfl ⟨rfl,S2.out.bel⟩
theorem Hh (w:World) (g:FuncId) (caps:Array Value):Calls Tryz.prog 63 #[.pointer none,.func (.func g) #[] caps] w fun e w'=>e=.returned (.tuple #[.slice none 0 0,.int .i64 5])∧Below w.heap.size w w':=by
 have hmf:∀ (fn:Fn) (first cap:Array Value) (w:World),(Instr.makeFunc fn first cap).run Tryz.prog w=.ok (.func fn first cap) w:=fun _ _ _ _=>rfl
 have S:=Lib.hid (((Lo.start (L:=[]) w (by simp)).alloc _ rfl [.func (.func g) #[] caps] 116).alloc (w.heap.size+1) (by simp) [.slice none 0 0] 34)
 have HD:=Lib.hid (fun W g caps=>fo W g caps)
 go_enter Tryz.func63,Tryz.ntmps63
 go_wp2_with (first
  | (go_at_call 55;refine (HD.out _ _ _).mono ?_;rintro e w1 ⟨rfl,hb⟩;replace S:=Lib.hid (S.out.below hb);clear hb)
  | fail)
 go_ret2
 exact ⟨rfl,S.out.bel⟩
theorem yp (w:World) (g:FuncId) (caps:Array Value):Calls Tryz.prog 68 #[.pointer none,.func (.func g) #[] caps] w fun e w'=>e=.returned (.tuple #[.string ⟨#[]⟩,.int .i64 5])∧Below w.heap.size w w':=by
 have hmf:∀ (fn:Fn) (first cap:Array Value) (w:World),(Instr.makeFunc fn first cap).run Tryz.prog w=.ok (.func fn first cap) w:=fun _ _ _ _=>rfl
 have S:=Lib.hid (((Lo.start (L:=[]) w (by simp)).alloc _ rfl [.func (.func g) #[] caps] 121).alloc (w.heap.size+1) (by simp) [.string ⟨#[]⟩] 9)
 have HD:=Lib.hid (fun W g caps=>fo W g caps)
 go_enter Tryz.func68,Tryz.ntmps68
 go_wp2_with (first
  | (go_at_call 55;refine (HD.out _ _ _).mono ?_;rintro e w1 ⟨rfl,hb⟩;replace S:=Lib.hid (S.out.below hb);clear hb)
  | fail)
 go_ret2
 exact ⟨rfl,S.out.bel⟩
theorem CD (w:World) (x0:Int) (x1:ByteArray):Calls Tryz.prog 26 #[.pointer none,.int .i64 x0,.string x1] w fun e w'=>e=.returned (.tuple #[fH 0 Ii.zero,.int .i64 5])∧Below w.heap.size w w':=by
 have hmf:∀ (fn:Fn) (first cap:Array Value) (w:World),(Instr.makeFunc fn first cap).run Tryz.prog w=.ok (.func fn first cap) w:=fun _ _ _ _=>rfl
 have S:=Lib.hid ((((Lo.start (L:=[]) w (by simp)).alloc _ rfl [.int .i64 x0] 3).alloc (w.heap.size+1) (by simp) [.string x1] 9).alloc (w.heap.size+2) (by simp) (aZ 0 Ii.zero) 33)
 have HD:=Lib.hid (fun W g caps=>jX W g caps)
 go_enter Tryz.func26,Tryz.ntmps26
 go_wp2_with (first
  | (go_at_call 47;refine (HD.out _ _ _).mono ?_;rintro e w1 ⟨rfl,hb⟩;replace S:=Lib.hid (S.out.below hb);clear hb)
  | ((with_reducible refine ak (vs:=aZ 0 Ii.zero) de (S.out.get 2 _ rfl) ?_ ?_ (bq _ _) rfl (.tmp 6) (.tmp 11) rfl ?_ ?_ ?_);(exact rfl);(exact rfl);(exact rfl);(exact rfl)))
 have S2:=Lib.hid (S.out.put 2 _ rfl (aZ 0 Ii.zero) rfl)
 exact bodyPost_ret (aL de _ 6 7 rfl _ (S2.out.get 2 _ rfl) rfl rfl rfl) rfl ⟨rfl,S2.out.bel⟩
theorem zL (w:World) (x0:Int):Calls Tryz.prog 24 #[.pointer none,.int .i64 x0] w fun e w'=>e=.returned (.tuple #[fH 0 Ii.zero,.int .i64 5])∧Below w.heap.size w w':=by
 have hmf:∀ (fn:Fn) (first cap:Array Value) (w:World),(Instr.makeFunc fn first cap).run Tryz.prog w=.ok (.func fn first cap) w:=fun _ _ _ _=>rfl
 have S:=Lib.hid (((Lo.start (L:=[]) w (by simp)).alloc _ rfl [.int .i64 x0] 3).alloc (w.heap.size+1) (by simp) (aZ 0 Ii.zero) 33)
 have HD:=Lib.hid (fun W g caps=>jX W g caps)
 go_enter Tryz.func24,Tryz.ntmps24
 go_wp2_with (first
  | (go_at_call 47;refine (HD.out _ _ _).mono ?_;rintro e w1 ⟨rfl,hb⟩;replace S:=Lib.hid (S.out.below hb);clear hb)
  | ((with_reducible refine ak (vs:=aZ 0 Ii.zero) de (S.out.get 1 _ rfl) ?_ ?_ (bq _ _) rfl (.tmp 4) (.tmp 9) rfl ?_ ?_ ?_);(exact rfl);(exact rfl);(exact rfl);(exact rfl)))
 have S2:=Lib.hid (S.out.put 1 _ rfl (aZ 0 Ii.zero) rfl)
 exact bodyPost_ret (aL de _ 4 5 rfl _ (S2.out.get 1 _ rfl) rfl rfl rfl) rfl ⟨rfl,S2.out.bel⟩
theorem CE (w:World) (x0:Int) (x1:ByteArray) (x2:Int) (x3:Int):Calls Tryz.prog 22 #[.pointer none,.int .i64 x0,.string x1,.int .i64 x2,.int .i64 x3] w fun e w'=>e=.returned (.tuple #[fH 0 Ii.zero,.int .i64 5])∧Below w.heap.size w w':=by
 have hmf:∀ (fn:Fn) (first cap:Array Value) (w:World),(Instr.makeFunc fn first cap).run Tryz.prog w=.ok (.func fn first cap) w:=fun _ _ _ _=>rfl
 have S:=Lib.hid ((((((Lo.start (L:=[]) w (by simp)).alloc _ rfl [.int .i64 x0] 3).alloc (w.heap.size+1) (by simp) [.string x1] 9).alloc (w.heap.size+2) (by simp) [.int .i64 x2] 3).alloc (w.heap.size+3) (by simp) [.int .i64 x3] 3).alloc (w.heap.size+4) (by simp) (aZ 0 Ii.zero) 33)
 have HD:=Lib.hid (fun W g caps=>jX W g caps)
 go_enter Tryz.func22,Tryz.ntmps22
 go_wp2_with (first
  | (go_at_call 47;refine (HD.out _ _ _).mono ?_;rintro e w1 ⟨rfl,hb⟩;replace S:=Lib.hid (S.out.below hb);clear hb)
  | ((with_reducible refine ak (vs:=aZ 0 Ii.zero) de (S.out.get 4 _ rfl) ?_ ?_ (bq _ _) rfl (.tmp 10) (.tmp 15) rfl ?_ ?_ ?_);(exact rfl);(exact rfl);(exact rfl);(exact rfl)))
 have S2:=Lib.hid (S.out.put 4 _ rfl (aZ 0 Ii.zero) rfl)
 exact bodyPost_ret (aL de _ 10 11 rfl _ (S2.out.get 4 _ rfl) rfl rfl rfl) rfl ⟨rfl,S2.out.bel⟩
theorem FT (w:World) (x0:Int) (x1:ByteArray) (x2:Int) (x3:Int):Calls Tryz.prog 21 #[.pointer none,.int .i64 x0,.string x1,.int .i64 x2,.int .i64 x3] w fun e w'=>e=.returned (.tuple #[fH 0 Ii.zero,.int .i64 5])∧Below w.heap.size w w':=by
 have hmf:∀ (fn:Fn) (first cap:Array Value) (w:World),(Instr.makeFunc fn first cap).run Tryz.prog w=.ok (.func fn first cap) w:=fun _ _ _ _=>rfl
 have S:=Lib.hid ((((((Lo.start (L:=[]) w (by simp)).alloc _ rfl [.int .i64 x0] 3).alloc (w.heap.size+1) (by simp) [.string x1] 9).alloc (w.heap.size+2) (by simp) [.int .i64 x2] 3).alloc (w.heap.size+3) (by simp) [.int .i64 x3] 3).alloc (w.heap.size+4) (by simp) (aZ 0 Ii.zero) 33)
 have HD:=Lib.hid (fun W g caps=>jX W g caps)
 go_enter Tryz.func21,Tryz.ntmps21
 go_wp2_with (first
  | (go_at_call 47;refine (HD.out _ _ _).mono ?_;rintro e w1 ⟨rfl,hb⟩;replace S:=Lib.hid (S.out.below hb);clear hb)
  | ((with_reducible refine ak (vs:=aZ 0 Ii.zero) de (S.out.get 4 _ rfl) ?_ ?_ (bq _ _) rfl (.tmp 10) (.tmp 15) rfl ?_ ?_ ?_);(exact rfl);(exact rfl);(exact rfl);(exact rfl)))
 have S2:=Lib.hid (S.out.put 4 _ rfl (aZ 0 Ii.zero) rfl)
 exact bodyPost_ret (aL de _ 10 11 rfl _ (S2.out.get 4 _ rfl) rfl rfl rfl) rfl ⟨rfl,S2.out.bel⟩
theorem zK (w:World) (x0:Int) (x1:ByteArray) (x2:ByteArray) (x3:Int):Calls Tryz.prog 35 #[.pointer none,.int .i64 x0,.string x1,.string x2,.int .i64 x3] w fun e w'=>e=.returned (.tuple #[fH 0 Ii.zero,.int .i64 5])∧Below w.heap.size w w':=by
 have hmf:∀ (fn:Fn) (first cap:Array Value) (w:World),(Instr.makeFunc fn first cap).run Tryz.prog w=.ok (.func fn first cap) w:=fun _ _ _ _=>rfl
 have S:=Lib.hid ((((((Lo.start (L:=[]) w (by simp)).alloc _ rfl [.int .i64 x0] 3).alloc (w.heap.size+1) (by simp) [.string x1] 9).alloc (w.heap.size+2) (by simp) [.string x2] 9).alloc (w.heap.size+3) (by simp) [.int .i64 x3] 3).alloc (w.heap.size+4) (by simp) (aZ 0 Ii.zero) 33)
 have HD:=Lib.hid (fun W g caps=>jX W g caps)
 go_enter Tryz.func35,Tryz.ntmps35
 go_wp2_with (first
  | (go_at_call 47;refine (HD.out _ _ _).mono ?_;rintro e w1 ⟨rfl,hb⟩;replace S:=Lib.hid (S.out.below hb);clear hb)
  | ((with_reducible refine ak (vs:=aZ 0 Ii.zero) de (S.out.get 4 _ rfl) ?_ ?_ (bq _ _) rfl (.tmp 10) (.tmp 15) rfl ?_ ?_ ?_);(exact rfl);(exact rfl);(exact rfl);(exact rfl)))
 have S2:=Lib.hid (S.out.put 4 _ rfl (aZ 0 Ii.zero) rfl)
 exact bodyPost_ret (aL de _ 10 11 rfl _ (S2.out.get 4 _ rfl) rfl rfl rfl) rfl ⟨rfl,S2.out.bel⟩
theorem Jk (w:World) (x0:Int) (x1:ByteArray) (x2:Int):Calls Tryz.prog 37 #[.pointer none,.int .i64 x0,.string x1,.int .i64 x2] w fun e w'=>e=.returned (.tuple #[fH 0 Ii.zero,.int .i64 5])∧Below w.heap.size w w':=by
 have hmf:∀ (fn:Fn) (first cap:Array Value) (w:World),(Instr.makeFunc fn first cap).run Tryz.prog w=.ok (.func fn first cap) w:=fun _ _ _ _=>rfl
 have S:=Lib.hid (((((Lo.start (L:=[]) w (by simp)).alloc _ rfl [.int .i64 x0] 3).alloc (w.heap.size+1) (by simp) [.string x1] 9).alloc (w.heap.size+2) (by simp) [.int .i64 x2] 3).alloc (w.heap.size+3) (by simp) (aZ 0 Ii.zero) 33)
 have HD:=Lib.hid (fun W g caps=>jX W g caps)
 go_enter Tryz.func37,Tryz.ntmps37
 go_wp2_with (first
  | (go_at_call 47;refine (HD.out _ _ _).mono ?_;rintro e w1 ⟨rfl,hb⟩;replace S:=Lib.hid (S.out.below hb);clear hb)
  | ((with_reducible refine ak (vs:=aZ 0 Ii.zero) de (S.out.get 3 _ rfl) ?_ ?_ (bq _ _) rfl (.tmp 8) (.tmp 13) rfl ?_ ?_ ?_);(exact rfl);(exact rfl);(exact rfl);(exact rfl)))
 have S2:=Lib.hid (S.out.put 3 _ rfl (aZ 0 Ii.zero) rfl)
 exact bodyPost_ret (aL de _ 8 9 rfl _ (S2.out.get 3 _ rfl) rfl rfl rfl) rfl ⟨rfl,S2.out.bel⟩
theorem Jj (w:World) (x0:Int):Calls Tryz.prog 25 #[.pointer none,.int .i64 x0] w fun e w'=>e=.returned (.tuple #[.slice none 0 0,.int .i64 5])∧Below w.heap.size w w':=by
 have hmf:∀ (fn:Fn) (first cap:Array Value) (w:World),(Instr.makeFunc fn first cap).run Tryz.prog w=.ok (.func fn first cap) w:=fun _ _ _ _=>rfl
 have S:=Lib.hid ((Lo.start (L:=[]) w (by simp)).alloc _ rfl [.int .i64 x0] 3)
 have HD:=Lib.hid (fun W g caps=>Hh W g caps)
 go_enter Tryz.func25,Tryz.ntmps25
 go_wp2_with (go_at_call 63;refine (HD.out _ _ _).mono ?_;rintro e w1 ⟨rfl,hb⟩;replace S:=Lib.hid (S.out.below hb);clear hb)
 go_ret2
 exact ⟨rfl,S.out.bel⟩
theorem vU (w:World) (x0:Int):Calls Tryz.prog 36 #[.pointer none,.int .i64 x0] w fun e w'=>e=.returned (.tuple #[.string ⟨#[]⟩,.int .i64 5])∧Below w.heap.size w w':=by
 have hmf:∀ (fn:Fn) (first cap:Array Value) (w:World),(Instr.makeFunc fn first cap).run Tryz.prog w=.ok (.func fn first cap) w:=fun _ _ _ _=>rfl
 have S:=Lib.hid ((Lo.start (L:=[]) w (by simp)).alloc _ rfl [.int .i64 x0] 3)
 have HD:=Lib.hid (fun W g caps=>yp W g caps)
 go_enter Tryz.func36,Tryz.ntmps36
 go_wp2_with (go_at_call 68;refine (HD.out _ _ _).mono ?_;rintro e w1 ⟨rfl,hb⟩;replace S:=Lib.hid (S.out.below hb);clear hb)
 go_ret2
 exact ⟨rfl,S.out.bel⟩
theorem Lg (w:World) (x0:Int) (x1:Int) (x2:Int):Calls Tryz.prog 27 #[.pointer none,.int .i64 x0,.int .i64 x1,.int .i64 x2] w fun e w'=>e=.returned (.tuple #[.string ⟨#[]⟩,.int .i64 5])∧Below w.heap.size w w':=by
 have hmf:∀ (fn:Fn) (first cap:Array Value) (w:World),(Instr.makeFunc fn first cap).run Tryz.prog w=.ok (.func fn first cap) w:=fun _ _ _ _=>rfl
 have S:=Lib.hid ((((Lo.start (L:=[]) w (by simp)).alloc _ rfl [.int .i64 x0] 3).alloc (w.heap.size+1) (by simp) [.int .i64 x1] 3).alloc (w.heap.size+2) (by simp) [.int .i64 x2] 3)
 have HD:=Lib.hid (fun W g caps=>yp W g caps)
 go_enter Tryz.func27,Tryz.ntmps27
 go_wp2_with (go_at_call 68;refine (HD.out _ _ _).mono ?_;rintro e w1 ⟨rfl,hb⟩;replace S:=Lib.hid (S.out.below hb);clear hb)
 go_ret2
 exact ⟨rfl,S.out.bel⟩
theorem FW (w:World) (x0:Int) (x1:Int):Calls Tryz.prog 32 #[.pointer none,.int .i64 x0,.int .i64 x1] w fun e w'=>e=.returned (.int .i64 5)∧Below w.heap.size w w':=by
 have hmf:∀ (fn:Fn) (first cap:Array Value) (w:World),(Instr.makeFunc fn first cap).run Tryz.prog w=.ok (.func fn first cap) w:=fun _ _ _ _=>rfl
 have S:=Lib.hid (((Lo.start (L:=[]) w (by simp)).alloc _ rfl [.int .i64 x0] 3).alloc (w.heap.size+1) (by simp) [.int .i64 x1] 3)
 have HD:=Lib.hid (fun W g caps=>fo W g caps)
 go_enter Tryz.func32,Tryz.ntmps32
 go_wp2_with (go_at_call 55;refine (HD.out _ _ _).mono ?_;rintro e w1 ⟨rfl,hb⟩;replace S:=Lib.hid (S.out.below hb);clear hb)
 go_ret
 exact ⟨rfl,S.out.bel⟩
theorem FV (w:World) (x0:Int) (x1:Int):Calls Tryz.prog 33 #[.pointer none,.int .i64 x0,.int .i64 x1] w fun e w'=>e=.returned (.int .i64 5)∧Below w.heap.size w w':=by
 have hmf:∀ (fn:Fn) (first cap:Array Value) (w:World),(Instr.makeFunc fn first cap).run Tryz.prog w=.ok (.func fn first cap) w:=fun _ _ _ _=>rfl
 have S:=Lib.hid (((Lo.start (L:=[]) w (by simp)).alloc _ rfl [.int .i64 x0] 3).alloc (w.heap.size+1) (by simp) [.int .i64 x1] 3)
 have HD:=Lib.hid (fun W g caps=>fo W g caps)
 go_enter Tryz.func33,Tryz.ntmps33
 go_wp2_with (go_at_call 55;refine (HD.out _ _ _).mono ?_;rintro e w1 ⟨rfl,hb⟩;replace S:=Lib.hid (S.out.below hb);clear hb)
 go_ret
 exact ⟨rfl,S.out.bel⟩
theorem CB (w:World) (x0:Int) (x1:Int):Calls Tryz.prog 34 #[.pointer none,.int .i64 x0,.int .i64 x1] w fun e w'=>e=.returned (.int .i64 5)∧Below w.heap.size w w':=by
 have hmf:∀ (fn:Fn) (first cap:Array Value) (w:World),(Instr.makeFunc fn first cap).run Tryz.prog w=.ok (.func fn first cap) w:=fun _ _ _ _=>rfl
 have S:=Lib.hid (((Lo.start (L:=[]) w (by simp)).alloc _ rfl [.int .i64 x0] 3).alloc (w.heap.size+1) (by simp) [.int .i64 x1] 3)
 have HD:=Lib.hid (fun W g caps=>fo W g caps)
 go_enter Tryz.func34,Tryz.ntmps34
 go_wp2_with (go_at_call 55;refine (HD.out _ _ _).mono ?_;rintro e w1 ⟨rfl,hb⟩;replace S:=Lib.hid (S.out.below hb);clear hb)
 go_ret
 exact ⟨rfl,S.out.bel⟩
theorem CA (w:World) (x0:Int) (x1:ByteArray):Calls Tryz.prog 38 #[.pointer none,.int .i64 x0,.string x1] w fun e w'=>e=.returned (.int .i64 5)∧Below w.heap.size w w':=by
 have hmf:∀ (fn:Fn) (first cap:Array Value) (w:World),(Instr.makeFunc fn first cap).run Tryz.prog w=.ok (.func fn first cap) w:=fun _ _ _ _=>rfl
 have S:=Lib.hid (((Lo.start (L:=[]) w (by simp)).alloc _ rfl [.int .i64 x0] 3).alloc (w.heap.size+1) (by simp) [.string x1] 9)
 have HD:=Lib.hid (fun W g caps=>fo W g caps)
 go_enter Tryz.func38,Tryz.ntmps38
 go_wp2_with (go_at_call 55;refine (HD.out _ _ _).mono ?_;rintro e w1 ⟨rfl,hb⟩;replace S:=Lib.hid (S.out.below hb);clear hb)
 go_ret
 exact ⟨rfl,S.out.bel⟩
theorem FR (w:World) (x0:Int) (x1:ByteArray):Calls Tryz.prog 29 #[.pointer none,.int .i64 x0,.string x1] w fun e w'=>e=.returned (.int .i64 5)∧Below w.heap.size w w':=by
 have hmf:∀ (fn:Fn) (first cap:Array Value) (w:World),(Instr.makeFunc fn first cap).run Tryz.prog w=.ok (.func fn first cap) w:=fun _ _ _ _=>rfl
 have S:=Lib.hid (((Lo.start (L:=[]) w (by simp)).alloc _ rfl [.int .i64 x0] 3).alloc (w.heap.size+1) (by simp) [.string x1] 9)
 have HD:=Lib.hid (fun W g caps=>fo W g caps)
 go_enter Tryz.func29,Tryz.ntmps29
 go_wp2_with (go_at_call 55;refine (HD.out _ _ _).mono ?_;rintro e w1 ⟨rfl,hb⟩;replace S:=Lib.hid (S.out.below hb);clear hb)
 go_ret
 exact ⟨rfl,S.out.bel⟩
theorem CC (w:World) (x0:Int) (x1:ByteArray) (x2:Int) (x3:ByteArray):Calls Tryz.prog 28 #[.pointer none,.int .i64 x0,.string x1,.int .i64 x2,.string x3] w fun e w'=>e=.returned (.int .i64 5)∧Below w.heap.size w w':=by
 have hmf:∀ (fn:Fn) (first cap:Array Value) (w:World),(Instr.makeFunc fn first cap).run Tryz.prog w=.ok (.func fn first cap) w:=fun _ _ _ _=>rfl
 have S:=Lib.hid (((((Lo.start (L:=[]) w (by simp)).alloc _ rfl [.int .i64 x0] 3).alloc (w.heap.size+1) (by simp) [.string x1] 9).alloc (w.heap.size+2) (by simp) [.int .i64 x2] 3).alloc (w.heap.size+3) (by simp) [.string x3] 9)
 have HD:=Lib.hid (fun W g caps=>fo W g caps)
 go_enter Tryz.func28,Tryz.ntmps28
 go_wp2_with (go_at_call 55;refine (HD.out _ _ _).mono ?_;rintro e w1 ⟨rfl,hb⟩;replace S:=Lib.hid (S.out.below hb);clear hb)
 go_ret
 exact ⟨rfl,S.out.bel⟩
theorem Lf (w:World) (x0:Int) (x1:Int) (x2:ByteArray):Calls Tryz.prog 23 #[.pointer none,.int .i64 x0,.int .i64 x1,.string x2] w fun e w'=>e=.returned (.int .i64 5)∧Below w.heap.size w w':=by
 have hmf:∀ (fn:Fn) (first cap:Array Value) (w:World),(Instr.makeFunc fn first cap).run Tryz.prog w=.ok (.func fn first cap) w:=fun _ _ _ _=>rfl
 have S:=Lib.hid ((((Lo.start (L:=[]) w (by simp)).alloc _ rfl [.int .i64 x0] 3).alloc (w.heap.size+1) (by simp) [.int .i64 x1] 3).alloc (w.heap.size+2) (by simp) [.string x2] 9)
 have HD:=Lib.hid (fun W g caps=>fo W g caps)
 go_enter Tryz.func23,Tryz.ntmps23
 go_wp2_with (go_at_call 55;refine (HD.out _ _ _).mono ?_;rintro e w1 ⟨rfl,hb⟩;replace S:=Lib.hid (S.out.below hb);clear hb)
 go_ret
 exact ⟨rfl,S.out.bel⟩
theorem rR (w:World):Calls Tryz.prog 14 #[.pointer none] w fun e w'=>e=.returned (.bool true)∧w=w':=by
 go_enter Tryz.func14,Tryz.ntmps14
 go_wp2_with (first
  | (go_at_call 20;refine (gr _).mono ?_;rintro e w1 ⟨rfl,rfl⟩)
  | (go_at_call 42;refine (kJ _).mono ?_;rintro e w1 ⟨rfl,rfl⟩))
 go_ret
 exact ⟨rfl,rfl⟩
theorem nu (w:World) (i:Int):Calls Tryz.prog 17 #[.pointer none,.int .i64 i] w fun e w'=>e=.returned (.int .i64 0)∧w=w':=by
 go_enter Tryz.func17,Tryz.ntmps17
 go_wp2_with (go_at_call 14;refine (rR _).mono ?_;rintro e w1 ⟨rfl,rfl⟩)
 go_ret
 exact ⟨rfl,rfl⟩
theorem Ji (w:World) (x0:Int):Calls Tryz.prog 39 #[.pointer none,.int .i64 x0] w fun e w'=>e=.returned (.int .i64 5)∧Below w.heap.size w w':=by
 have hmf:∀ (fn:Fn) (first cap:Array Value) (w:World),(Instr.makeFunc fn first cap).run Tryz.prog w=.ok (.func fn first cap) w:=fun _ _ _ _=>rfl
 have S:=Lib.hid ((Lo.start (L:=[]) w (by simp)).alloc _ rfl [.int .i64 x0] 3)
 have HD:=Lib.hid (fun W g caps=>fo W g caps)
 go_enter Tryz.func39,Tryz.ntmps39
 go_wp2_with (go_at_call 55;refine (HD.out _ _ _).mono ?_;rintro e w1 ⟨rfl,hb⟩;replace S:=Lib.hid (S.out.below hb);clear hb)
 go_ret
 exact ⟨rfl,S.out.bel⟩
theorem FU (w:World) (x0:Int):Calls Tryz.prog 40 #[.pointer none,.int .i64 x0] w fun e w'=>e=.returned (.int .i64 5)∧Below w.heap.size w w':=by
 have hmf:∀ (fn:Fn) (first cap:Array Value) (w:World),(Instr.makeFunc fn first cap).run Tryz.prog w=.ok (.func fn first cap) w:=fun _ _ _ _=>rfl
 have S:=Lib.hid (((Lo.start (L:=[]) w (by simp)).alloc _ rfl [.int .i64 x0] 3).alloc (w.heap.size+1) (by simp) [.int .i64 (-1)] 3)
 have c0:=((((Lo.start (L:=[]) w (by simp)).alloc _ rfl [.int .i64 x0] 3)).get 0 _ rfl).cell 0 _ rfl
 have HO:=Lib.hid (fun W=>nu W x0)
 have HD:=Lib.hid (fun W g caps=>fo W g caps)
 go_enter Tryz.func40,Tryz.ntmps40
 go_wp2_with (first
  | (go_at_call 17;refine (HO.out _).mono ?_;rintro e w1 ⟨rfl,rfl⟩)
  | (go_at_call 55;refine (HD.out _ _ _).mono ?_;rintro e w1 ⟨rfl,hb⟩;replace S:=Lib.hid (S.out.below hb);clear hb))
 go_ret
 exact ⟨rfl,S.out.bel⟩
end Go.Proofs.YtagfoogfpabdfaaGreat

namespace Go.Proofs.YtagfoogfpabdfaaGreat

section
open Go.RowKit Go.Maps
open Dk (av aa)
open Ii (Ino)
open Jn (Chg)
def nc:Nat→List (List UInt8)→List Chg
 | _,[]=>[]
 | k,p::r=>⟨(k:Int),p⟩::nc (k+1) r
theorem DQ {ps:List (List UInt8)} {k:Nat} {p:List UInt8} (h:ps[k]?=some p):nc k (ps.drop k)=⟨(k:Int),p⟩::nc (k+1) (ps.drop (k+1)):=by
 obtain ⟨q1,q2⟩:=List.getElem?_eq_some_iff.1 h
 rw [List.drop_eq_getElem_cons q1,q2];rfl
structure Ly (w0:World) (d l m:Nat) (s:Dk.St) (g:Nat) (ps:List (List UInt8)) (w:World):Prop where
 ew:aG w d l m s
 rows:bG w g ps
 only:aB [d,l,m] w0 w
theorem Ly.below {w0 w w':World} {d l m:Nat} {s:Dk.St} {g:Nat} {ps:List (List UInt8)} (h:Ly w0 d l m s g ps w) (hg:g<w.heap.size) (hb:Below w.heap.size w w'):Ly w0 d l m s g ps w':=
 ⟨h.ew.below hb,h.rows.block (hb.block _ hg),h.only.oH hb⟩
theorem Ly.call {w0 w w':World} {d l m:Nat} {s s':Dk.St} {g:Nat} {ps:List (List UInt8)} (h:Ly w0 d l m s g ps w) (hg:g<w.heap.size) (hn:g∉[d,l,m]) (hd:aG w' d l m s') (ho:aB [d,l,m] w w'):Ly w0 d l m s' g ps w':=
 ⟨hd,h.rows.block (ho.block _ hg hn),h.only.trans ho⟩
theorem yy {w:World} {d l m:Nat} {s:Dk.St} {g:Nat} {ps:List (List UInt8)} {w0:World} (h:Ly w0 d l m s g ps w) (hg:g<w0.heap.size) (hn:g∉[d,l,m]) (i:Int) (p:List UInt8) (hp:p.length=64):Calls Tryz.prog 196 #[.pointer (some ⟨d,0,none⟩),.int .i64 i,an p] w fun e w'=>e=.returned (.int .i64 (Dk.dg s i))∧Ly w0 d l m (Dk.write s i p) g ps w':=
 (nF h.ew i p hp).mono fun e w' hh=>⟨hh.1,h.call (Nat.lt_of_lt_of_le hg h.only.size) hn hh.2.1 (hh.2.2.mono (by simp))⟩
theorem Ae {w:World} {d l m:Nat} {s:Dk.St} {g:Nat} {ps:List (List UInt8)} {w0:World} (h:Ly w0 d l m s g ps w) (hg:g<w0.heap.size) (hn:g∉[d,l,m]):Calls Tryz.prog 197 #[.pointer (some ⟨d,0,none⟩)] w fun e w'=>e=.returned (.int .i64 (Dk.kf s))∧Ly w0 d l m (Dk.flush s) g ps w':=
 (pj h.ew).mono fun e w' hh=>⟨hh.1,h.call (Nat.lt_of_lt_of_le hg h.only.size) hn hh.2.1 hh.2.2⟩
theorem Dd {w:World} {d l m:Nat} {s:Dk.St} {g c:Nat} {ps:List (List UInt8)} (h:aG w d l m s) (hr:bG w g ps) (hg:g<w.heap.size) (hn:g∉[d,l,m]) (hl:ps.length≤1000):
  Calls Tryz.prog 143 #[.pointer (some ⟨d,0,none⟩),.slice (some ⟨g,0,none⟩) ps.length c] w fun e w'=>e=.returned (.int .i64 (Jn.cj s (nc 0 ps)).2)∧aG w' d l m (Jn.cj s (nc 0 ps)).1∧aB [d,l,m] w w':=by
 have S0:=Lib.hid (show Ly w d l m s g ps w from ⟨h,hr,aB.refl _ _⟩)
 have HW:=Lib.hid (fun (W:World) (s':Dk.St) (i:Int) (p:List UInt8) (hp:p.length=64) (hy:Ly w d l m s' g ps W)=>yy hy hg hn i p hp)
 have HF:=Lib.hid (fun (W:World) (s':Dk.St) (hy:Ly w d l m s' g ps W)=>Ae hy hg hn)
 have HB:=Lib.hid (fun (W W':World) (s':Dk.St) (hy:Ly w d l m s' g ps W) (hb:Below W.heap.size W W')=>hy.below (Nat.lt_of_lt_of_le hg hy.only.size) hb)
 obtain ⟨R,hR⟩:∃ R,R=Jn.cj s (nc 0 ps):=⟨_,rfl⟩
 have HRR:Hid (Jn.cj s (nc 0 (ps.drop 0))=R):=Lib.hid (by rw [List.drop_zero,hR])
 rw [← hR]
 clear h hr hn hR
 obtain ⟨len,hlen⟩:∃ len,ps.length=len:=⟨_,rfl⟩
 have HLE:=Lib.hid hlen
 rw [hlen] at hl ⊢
 clear hlen
 go_enter Tryz.func143,Tryz.ntmps143
 go_wp2_with fail
 go_loopw [10] (fun i wr=>∃ (k:Nat) (s':Dk.St),k≤len∧i=.int .i64 k∧Ly w d l m s' g ps wr∧Hid (Jn.cj s' (nc k (ps.drop k))=R)) (fun i _=>len - (intOf i).toNat)
 case atStart=>exact ⟨0,s,Nat.zero_le _,rfl,S0.out,HRR⟩
 case round=>
  clear S0 HRR
  obtain ⟨k,s',hk,rfl,hS,HG⟩:=hrel
  have S:=Lib.hid hS
  clear hS
  by_cases hlt:k<len
  ·obtain ⟨p,hp⟩:∃ p,ps[k]?=some p:=⟨_,List.getElem?_eq_getElem (by rw [HLE.out];exact hlt)⟩
   have HP:Hid (p.length=64):=Lib.hid (S.out.rows.size p (List.mem_of_getElem? hp))
   rw [DQ hp,Jn.cj] at HG
   have HPK:=Lib.hid hp
   clear hp
   by_cases hw:Dk.dg s' (k:Int)=0
   ·have HWK:=Lib.hid (fun (W:World) (hy:Ly w d l m s' g ps W)=>HW.out W s' (k:Int) p HP.out hy)
    rw [if_pos hw] at HG
    rw [hw] at HWK
    clear hw
    go_wp2_with (first
     | (with_reducible refine wpList_load_row S.out.rows k HPK.out rfl (.tmp 13) rfl rfl ?_)
     | ((with_reducible refine aq rfl (.tmp 6) (.tmp 14) rfl rfl ?_ ?_ HP.out ?_);(exact rfl);(exact rfl);intro W2 hP hB2 hz2;have S1:=Lib.hid (HB.out _ _ _ S.out hB2);clear S;have S:=Lib.hid S1.out;have PG:=Lib.hid hP;clear hP hB2 hz2 S1)
     | (with_reducible refine ah PG.out rfl (.tmp 6) rfl rfl ?_)
     | (go_at_call 196;(with_reducible refine (HWK.out _ S.out).mono ?_);rintro e w3 ⟨rfl,hS3⟩;clear S;have S:=Lib.hid hS3;clear hS3))
    go_roundw
    case rel=>exact ⟨k+1,_,by omega,by go_num,S.out,HG⟩
    case measure=>simp [intOf];omega
   ·have HWK:=Lib.hid (fun (W:World) (hy:Ly w d l m s' g ps W)=>HW.out W s' (k:Int) p HP.out hy)
    have gk:(Dk.dg s' (k:Int) == 0)=false:=by simpa using hw
    rw [if_neg hw] at HG
    have hR2:=HG.out
    subst hR2
    clear hw HG
    generalize hwe:Dk.dg s' (k:Int)=we at HWK gk
    have HWE:=Lib.hid hwe
    clear hwe
    go_wp2_with (first
     | (with_reducible refine wpList_load_row S.out.rows k HPK.out rfl (.tmp 13) rfl rfl ?_)
     | ((with_reducible refine aq rfl (.tmp 6) (.tmp 14) rfl rfl ?_ ?_ HP.out ?_);(exact rfl);(exact rfl);intro W2 hP hB2 hz2;have S1:=Lib.hid (HB.out _ _ _ S.out hB2);clear S;have S:=Lib.hid S1.out;have PG:=Lib.hid hP;clear hP hB2 hz2 S1)
     | (with_reducible refine ah PG.out rfl (.tmp 6) rfl rfl ?_)
     | (go_at_call 196;(with_reducible refine (HWK.out _ S.out).mono ?_);rintro e w3 ⟨rfl,hS3⟩;clear S;have S:=Lib.hid hS3;clear hS3))
    go_ret
    exact ⟨by rw [HWE.out];rfl,S.out.ew,S.out.only⟩
  ·obtain rfl:k=len:=by omega
   have HZ:Hid (nc k (ps.drop k)=[]):=Lib.hid (by rw [List.drop_of_length_le (by rw [HLE.out];omega)];rfl)
   rw [HZ.out,Jn.cj] at HG
   have hR2:=HG.out
   subst hR2
   clear HG
   go_wp2_with (go_at_call 197;(with_reducible refine (HF.out _ _ S.out).mono ?_);rintro e w3 ⟨rfl,hS3⟩;clear S;have S:=Lib.hid hS3;clear hS3)
   go_ret
   exact ⟨rfl,S.out.ew,S.out.only⟩
end

section
open Go.RowKit Go.Maps
open Dk (av aa)
open Ii (Ino)
def zh:Ino:={ k:=2,p:=493,u:=0,l:=2,s:=0,a:=0,b:=0,c:=0,d:=0,e:=0,f:=0 }
def so:List UInt8:=Bt.za av 0 true
def mU:List UInt8:=Ii.uW av 0 zh
def cW (I:Int):List (List UInt8):=((List.replicate (Pl.aS I).toNat av).set 41 so).set 43 mU
structure Fr (w:World) (n I:Int) (g:Nat) (ps:List (List UInt8)) (W:World):Prop where
 rows:bG W g ps
 ge:w.heap.size<g
 lt:g<W.heap.size
 bel:Below w.heap.size w W
 pl:au W w.heap.size (bc n I)
theorem Fr.below {w W W':World} {n I:Int} {g:Nat} {ps:List (List UInt8)} (h:Fr w n I g ps W) (hb:Below W.heap.size W W'):Fr w n I g ps W':=
 ⟨h.rows.block (hb.block _ h.lt),h.ge,Nat.lt_of_lt_of_le h.lt hb.size,h.bel.trans (hb.mono h.bel.size),h.pl.step hb⟩
def FrS (w:World) (n I:Int) (g:Nat) (ps:List (List UInt8)) (z q:List UInt8):Option (Bool × Nat)→World→Prop
 | none,W=>Fr w n I g ps W
 | some (false,a),W=>Fr w n I g ps W∧au W a (ab z)∧a<W.heap.size
 | some (true,a),W=>Fr w n I g ps W∧W.rangeAt a 0 (ab q)∧a<W.heap.size
theorem FrS.fr {w W:World} {n I:Int} {g:Nat} {ps:List (List UInt8)} {z q:List UInt8}:∀ {k:Option (Bool × Nat)},FrS w n I g ps z q k W→Fr w n I g ps W
 | none,h=>h
 | some (false,_),h=>h.1
 | some (true,_),h=>h.1
theorem qD {B o:Nat} {p:List UInt8} (hp:p.length=64) (w:World) (h:w.rangeAt B o (ab p)):(loadVar 87 ⟨B,o,none⟩).run Tryz.prog w=.ok (.agg (ab p).toArray) w:=
 run_loadVar_mid (P:=Tryz.prog) w B o 87 (ab p) _ h Tryz.underlying87 rfl (by rw [aY,aj,hp])
theorem pf {o:Oper} {a:Act} {w:World} {b f:Nat} {p:List UInt8} {R:Value→World→Prop} (hp:p.length=64) (u:Operand) (ho:o.op=.load 87 u) (hx:a.eval u=.pointer (some ⟨b,f,none⟩)) (h:w.rangeAt b f (ab p)) (hR:R (.agg (ab p).toArray) w):dE Tryz.prog (execOp a.eval o) w R:=by
 have hl:=qD hp w h
 unfold dE execOp
 simp only [ho,hx,Instr.loadAt,Instr.sureAddr,Sem.run_bind,Sem.run_pure,Result.andThen_ok,hl]
 exact hR
theorem mX {o:Oper} {a:Act} {w:World} {b:Nat} {ps:List (List UInt8)} {R:Value→World→Prop} {p:List UInt8} (k:bG w b ps) (i:Nat) (hi:i<ps.length) (hp:p.length=64) (x y:Operand) (ho:o.op=.store 87 x y) (hx:a.eval x=.pointer (some ⟨b,i*64,none⟩)) (hy:a.eval y=.agg (ab p).toArray)
  (hR:R undef (w.setCells b (i*64) (ab p))):dE Tryz.prog (execOp a.eval o) w R:=by
 have hs:=run_storeVar_mid (P:=Tryz.prog) w b (i*64) 87 (ab p).toArray (by rw [List.size_toArray,aj,hp];exact k.qZ i hi) (by rw [aY,List.size_toArray,aj,hp]) (all_oneCell_toArray (bV p))
 have hrun:(execOp a.eval o).run Tryz.prog w=.ok .skip (w.setCells b (i*64) (ab p))∨(execOp a.eval o).run Tryz.prog w=.ok (.value undef) (w.setCells b (i*64) (ab p)):=by
  unfold execOp
  simp only [ho,hx,hy,Instr.storeAt,Instr.sureAddr,Sem.run_bind,Sem.run_pure,Result.andThen_ok,hs]
  simp
 unfold dE
 rcases hrun with h | h <;> (rw [h];exact hR)
theorem Fr.put {w W:World} {n I:Int} {g:Nat} {ps:List (List UInt8)} (h:Fr w n I g ps W) (i:Nat) (hi:i<ps.length) {p:List UInt8} (hp:p.length=64):Fr w n I g (ps.set i p) (W.setCells g (i*64) (ab p)):=
 ⟨h.rows.put i hi p hp,h.ge,by rw [bC];exact h.lt,below_setCells _ (Nat.le_of_lt h.ge) _ _ _ h.bel,h.pl.bl g _ _ (Nat.ne_of_lt h.ge)⟩
theorem DC {n I:Int} (w:World) (hpl:Pl.aA n I=true):Calls Tryz.prog 144 #[bz n I] w fun e w'=>∃ g,e=.returned (.slice (some ⟨g,0,none⟩) (cW I).length (cW I).length)∧Fr w n I g (cW I) w':=by
 obtain ⟨h1,h2,h3,h4⟩:=Pl.aW hpl
 have hd:=Pl.dZ h1 h2
 obtain ⟨D,hD⟩:∃ D:Nat,Pl.aS I=(D:Int):=⟨(Pl.aS I).toNat,by omega⟩
 have HDA:=Lib.hid (fun w=>qv n I w hpl)
 have HIB:=Lib.hid (fun w=>jx hpl w)
 have HPL:=Lib.hid (fun w=>ox n I 1 w hpl (by omega) h1)
 have S0:=Lib.hid ((Lo.start (L:=[]) w (by simp)).alloc _ rfl (bc n I) 132)
 rw [hD] at HDA
 have hmk:=fun (W:World)=>gH W D (by omega)
 unfold bz at HDA HIB HPL ⊢
 go_enter Tryz.func144,Tryz.ntmps144
 go_wp2_with (first
  | (with_reducible refine wpList_load_mid rfl 132 (.tmp 1) rfl _ 0 rfl [.int .i64 n,.int .i64 I] _ (S0.out.get 0 _ rfl).range Tryz.underlying132 rfl (by kernel_rfl) ?_)
  | (go_at_call 198;(with_reducible refine (HDA.out _).mono ?_);rintro e w1 ⟨rfl,hb⟩;replace S0:=Lib.hid (S0.out.below hb);clear hb)
  | (with_reducible refine wpList_load_mid rfl 132 (.tmp 1) rfl _ 0 rfl [.int .i64 n,.int .i64 I] _ ((S0.out.get 0 _ rfl).alloc _).range Tryz.underlying132 rfl (by kernel_rfl) ?_)
  | (go_at_call 151;(with_reducible refine (HIB.out _).mono ?_);rintro e w2 ⟨rfl,hb⟩))
 have FR0:=lO w1 D 87
 have S1:=Lib.hid ((S0.out.below (bK w1 (.cells (eO D) 87))).below hb)
 have hg1:=S0.out.only.size
 obtain ⟨g,hg⟩:∃ g,g=w1.heap.size:=⟨_,rfl⟩
 have F0:Hid (Fr w n I g (List.replicate D av) w2):=Lib.hid ⟨by rw [hg];exact FR0.block (hb.block _ (by simp)),by rw [hg];exact (S0.out.row _ (List.mem_cons_self ..)).2.2,by rw [hg];have:=hb.size;simp at this;omega,S1.out.bel,S1.out.get 0 _ rfl⟩
 rw [← hg]
 have hg0:w.heap.size<g:=by have:=(S0.out.row _ (List.mem_cons_self ..)).2.2;rw [hg];exact this
 clear hb FR0 S0 hg hg1 hmk HDA HIB
 generalize hps:List.replicate D av=ps at F0
 have hpl2:ps.length=D:=by rw [← hps];simp
 have hp41:ps[41]?=some av:=by rw [← hps,List.getElem?_replicate,if_pos (by omega)]
 have HL:=Lib.hid aa
 generalize hz:av=z at HL hp41
 have HBS:Hid (∀ a W,au W a (ab z)→a<W.heap.size→Calls Tryz.prog 199 #[.int .i64 0,.bool true,.slice (some ⟨a,0,none⟩) 1 1] W fun e w'=>∃ a' c,e=.returned (.slice (some ⟨a',0,none⟩) 1 c)∧W.heap.size≤a'∧a'<w'.heap.size∧w'.rangeAt a' 0 (ab so)∧Below W.heap.size W w'):=Lib.hid (fun a W hr ha=>(yn 0 true (some ⟨a,0,none⟩) 1 1 z W (iw (hr.aK HL.out) ha) (by omega)).mono (by
  rintro e w' ⟨v,rfl,ho,hb⟩
  obtain ⟨g,c,rfl,hg1,hg2,hgr⟩:=BJ ho
  exact ⟨g,c,rfl,hg1,hg2,by unfold so;rw [hz];exact hgr,hb⟩))
 have HQ:Hid (so.length=64):=Lib.hid (by unfold so;rw [Bt.ko,hz];exact HL.out)
 generalize hq:so=q at HBS HQ
 refine aO (FrS w n I g ps z q) (fun _ _=>False) (fun i=>i == 7 || i == 8 || i == 9 || i == 10 || i == 12) (fun i=>[.slice (some ⟨g,0,none⟩) D D,.int .i64 41,.int .i64 0,.slice (some ⟨g,0,none⟩) D D,.int .i64 41,.pointer (some ⟨g,41*64,none⟩),.agg (ab z).toArray,undef,undef,undef,undef,.pointer (some ⟨g,41*64,none⟩),undef].getD i undef) none (by kernel_rfl) (by kernel_rfl) (fun _ _ _ _ h=>h.elim) (show FrS w n I g ps z q none _ from F0.out.below ((Below.refl _ _).drew)) ?_
 refine ag (i:=0) (d:=some 12) (v:=(.slice (some ⟨g,0,none⟩) D D)) rfl rfl (by kernel_rfl) (by kernel_rfl) rfl rfl (ae (by kernel_rfl) ?_) ?_
 ·((intro _ _ _;go_simp) <;> kernel_rfl)
 try simp only [Act.put,puA,puB,puC]
 refine ag (i:=1) (d:=some 13) (v:=(.int .i64 41)) rfl rfl (by kernel_rfl) (by kernel_rfl) rfl rfl (ae (by kernel_rfl) ?_) ?_
 ·((intro _ _ _;go_simp) <;> kernel_rfl)
 try simp only [Act.put,puA,puB,puC]
 refine ag (i:=2) (d:=some 14) (v:=(.int .i64 0)) rfl rfl (by kernel_rfl) (by kernel_rfl) rfl rfl (aR (f:=152) (args:=#[.int .i64 1]) (by kernel_rfl) ?_ (fun k W hS=>(jy 1 W (by omega)).mono fun e w' hh=>⟨hh.1,hh.2 ▸ hS⟩)) ?_
 ·(intro _;go_simp)
 try simp only [Act.put,puA,puB,puC]
 refine ag (i:=3) (d:=some 15) (v:=(.slice (some ⟨g,0,none⟩) D D)) rfl rfl (by kernel_rfl) (by kernel_rfl) rfl rfl (ae (by kernel_rfl) ?_) ?_
 ·((intro _ _ _;go_simp) <;> kernel_rfl)
 try simp only [Act.put,puA,puB,puC]
 refine ag (i:=4) (d:=some 16) (v:=(.int .i64 41)) rfl rfl (by kernel_rfl) (by kernel_rfl) rfl rfl (ae (by kernel_rfl) ?_) ?_
 ·((intro _ _ _;go_simp) <;> kernel_rfl)
 try simp only [Act.put,puA,puB,puC]
 have h41:41<D:=by omega
 refine ag (i:=5) (d:=some 17) (v:=.pointer (some ⟨g,41*64,none⟩)) rfl rfl (by kernel_rfl) (by kernel_rfl) rfl rfl (ae (by kernel_rfl) ?_) ?_
 ·intro k W hS
  go_simp
  omega
 try simp only [Act.put,puA,puB,puC]
 refine ag (i:=6) (d:=some 18) (v:=(.agg (ab z).toArray)) rfl rfl (by kernel_rfl) (by kernel_rfl) rfl rfl (bM (qD HL.out) (by kernel_rfl) (.tmp 17) rfl rfl (fun k W hS=>(FrS.fr hS).rows.range 41 z hp41)) ?_
 try simp only [Act.put,puA,puB,puC]
 refine cO (i:=7) (d:=some 19) [8,9,10,12] (fun u k=>∃ a,u=.slice (some ⟨a,0,none⟩) 1 1∧k=some (false,a)) rfl rfl (by kernel_rfl) (by kernel_rfl) rfl (by kernel_rfl) ⟨_,_,0,rfl,rfl⟩ (by kernel_rfl) (fun W hS=>?_) ?_
 ·have hbl:(ab z).length=64:=by rw [aj];exact HL.out
  unfold eK
  go_simp
  rw [fh rfl HL.out]
  go_simp
  exact ⟨Fr.below hS (bK _ _),bh W (ab z) _,by simp⟩
 rintro _ _ ⟨a,rfl,rfl⟩
 try simp only [Act.put,puA,puB,puC]
 refine cO (i:=8) (d:=some 20) [9,10,12] (fun u k=>∃ a' c,u=.slice (some ⟨a',0,none⟩) 1 c∧k=some (true,a')) rfl rfl (by kernel_rfl) (by kernel_rfl) rfl (by kernel_rfl) ⟨_,_,0,0,rfl,rfl⟩ (by kernel_rfl) (bm (f:=199) (args:=#[.int .i64 0,.bool true,.slice (some ⟨a,0,none⟩) 1 1]) ?_ (fun W hS=>(HBS.out a W hS.2.1 hS.2.2).mono fun e w' hh=>by
  obtain ⟨a',c,rfl,_,k2,k3,k4⟩:=hh
  exact Or.inl ⟨_,rfl,some (true,a'),⟨a',c,rfl,rfl⟩,hS.1.below k4,k3,k2⟩)) ?_
 ·(intro _;go_simp)
 rintro _ _ ⟨a',c,rfl,rfl⟩
 try simp only [Act.put,puA,puB,puC]
 refine cO (i:=9) (d:=some 21) [10,12] (fun u k=>u=.pointer (some ⟨a',0,none⟩)∧k=some (true,a')) rfl rfl (by kernel_rfl) (by kernel_rfl) rfl (by kernel_rfl) ⟨_,_,rfl,rfl⟩ (by kernel_rfl) (fun W hS=>?_) ?_
 ·unfold eK
  go_simp
 rintro _ _ ⟨rfl,rfl⟩
 try simp only [Act.put,puA,puB,puC]
 refine cO (i:=10) (d:=some 22) [12] (fun u k=>u=.agg (ab q).toArray∧k=some (true,a')) rfl rfl (by kernel_rfl) (by kernel_rfl) rfl (by kernel_rfl) ⟨_,_,rfl,rfl⟩ (by kernel_rfl) (fun W hS=>cJ (pf HQ.out (.tmp 21) rfl rfl hS.2.1 ⟨_,⟨rfl,rfl⟩,hS⟩)) ?_
 rintro _ _ ⟨rfl,rfl⟩
 try simp only [Act.put,puA,puB,puC]
 refine ag (i:=11) (d:=some 23) (v:=.pointer (some ⟨g,41*64,none⟩)) rfl rfl (by kernel_rfl) (by kernel_rfl) rfl rfl (ae (by kernel_rfl) ?_) ?_
 ·intro k W hS
  go_simp
  omega
 try simp only [Act.put,puA,puB,puC]
 refine jt (i:=12) (d:=none) rfl rfl (by kernel_rfl) rfl (by kernel_rfl) (by kernel_rfl) fun W hS=>cJ (mX (p:=q) (FrS.fr hS).rows 41 (by omega) HQ.out (.tmp 23) (.tmp 22) rfl rfl rfl ?_)
 have F1:=Lib.hid ((FrS.fr hS).put 41 (by omega) HQ.out)
 clear hS F0
 generalize World.setCells _ _ _ _=w3 at F1 ⊢
 try simp only [Act.put,puA,puB,puC]
 have HPUT:Hid (∀ W,Calls Tryz.prog 183 #[an z,.int .i64 0,.agg #[.int .i64 2,.int .i64 493,.int .i64 0,.int .i64 2,.int .i64 0,.int .i64 0,.int .i64 0,.int .i64 0,.int .i64 0,.int .i64 0,.int .i64 0]] W fun e w'=>e=.returned (an mU)∧Below W.heap.size W w'):=Lib.hid (fun W=>by
  have:=xW z 1 zh W HL.out
  unfold mU
  rw [hz]
  exact this)
 have HRL:Hid (mU.length=64):=Lib.hid (by unfold mU;rw [hz];exact Ii.fV z 0 zh HL.out (by omega))
 have hp43:(ps.set 41 q)[43]?=some z:=by rw [List.getElem?_set_ne (by omega),← hps,List.getElem?_replicate,if_pos (by omega),hz]
 have hfl:cW I=(ps.set 41 q).set 43 mU:=by unfold cW;rw [hD,Int.toNat_natCast,hq,← hps,hz]
 have hfn:(cW I).length=D:=by rw [hfl];simp [hpl2]
 have HFL:=Lib.hid hfl
 have HFN:=Lib.hid hfn
 generalize mU=rp at HPUT HRL HFL
 clear hps hq hz hfl hfn
 generalize hps2:ps.set 41 q=ps2 at F1 hp43 HFL
 have hpl3:ps2.length=D:=by rw [← hps2];simp [hpl2]
 clear hps2 hp41 hpl2 HQ HBS
 have h43:43<D:=by omega
 go_wp2_with (first
  | (with_reducible refine wpList_load_mid rfl 132 (.tmp 1) rfl _ 0 rfl [.int .i64 n,.int .i64 I] _ F1.out.pl.range Tryz.underlying132 rfl (by kernel_rfl) ?_)
  | (go_at_call 181;(with_reducible refine (HPL.out _).mono ?_);rintro e w4 ⟨rfl,hb⟩;replace F1:=Lib.hid (F1.out.below hb);clear hb)
  | (with_reducible refine wpList_load_row F1.out.rows 43 hp43 rfl (.tmp 33) rfl rfl ?_)
  | (go_at_call 183;(with_reducible refine (HPUT.out _).mono ?_);rintro e w5 ⟨rfl,hb⟩;replace F1:=Lib.hid (F1.out.below hb);clear hb)
  | (with_reducible refine wpList_store_row F1.out.rows 43 (by omega) HRL.out rfl (.tmp 38) (.tmp 37) rfl rfl rfl ?_))
 have F2:=Lib.hid (F1.out.put 43 (by omega) HRL.out)
 go_ret
 exact ⟨g,by rw [HFN.out];rfl,by rw [HFL.out];exact F2.out⟩
end

section
open Dk (av aa)
open Go.RowKit
def Lj:ByteArray:={ data:=#[78,82,84,88] }
theorem vw (w:World):Calls Tryz.prog 122 #[an av,.int .i64 0,.string Lj] w fun e w'=>e=.returned (an (Pg.br Pl.kG 0 Pl.tP))∧Below w.heap.size w w':=
 kn av 0 Lj w aa (by decide)
theorem sX (w:World) (p i:Int) {w':World} (hb:Below (w.heap.size+2) ((w.alloc (.cells #[.int .i64 p,.int .i64 i] 132)).alloc (.cells zeroCells 87)) w'):
  au w' w.heap.size (bc p i)∧aD w' (w.heap.size+1) av∧Below w.heap.size w w':=by
 have h0:=(bh w (bc p i) 132).alloc (.cells zeroCells 87)
 have h1:=di (w.alloc (.cells (bc p i).toArray 132)) 87
 rw [World.size_alloc] at h1
 have hs:=hb.size
 simp at hs
 exact ⟨h0.below hb (by omega),h1.below hb (by omega),(((Below.refl _ _).alloc (Nat.le_refl _) _).alloc (by simp) _).trans (hb.mono (by omega))⟩
theorem Fc (p i:Int) (w:World) (h:Pl.aA p i=false):
  Calls Tryz.prog 142 #[bz p i] w fun e w'=>e=.returned (.tuple #[an av,.int .i64 22])∧Below w.heap.size w w':=by
 have HZ:=Lib.hid (fun (w':World) hb=>sX w p i (w':=w') hb)
 rw [az] at HZ
 have HL:=Lib.hid aa
 have hq:an av=.agg zeroCells:=rfl
 rw [az] at hq
 have HQ:=Lib.hid hq;clear hq
 unfold bz
 go_enter Tryz.func142,Tryz.ntmps142
 go_wp2_with (first
  | (go_at_call 162;refine (eh p i _ _ h).mono ?_;rintro e w3 ⟨rfl,hb⟩;have HB:=Lib.hid (HZ.out w3 (by simpa using hb));clear hb)
  | ((with_reducible refine ax (q:=av) HB.out.2.1 HL.out rfl (.tmp 2) (.tmp 8) rfl rfl ?_ ?_);(exact HQ.out.symm)))
 exact bodyPost_ret (kW _ 2 3 rfl _ (HB.out.2.1.put _ HL.out) rfl rfl) rfl ⟨rfl,below_setCells _ (by omega) _ _ _ HB.out.2.2⟩
structure Hq (w0:World) (v:Value) (vs:List Value) (D:Nat) (q:List UInt8) (W:World):Prop where
 own:au W w0.heap.size (v::vs)
 res:aD W (w0.heap.size+1) av
 aK:aD W D q
 gt:w0.heap.size+1<D
 below:Below w0.heap.size w0 W
theorem Hq.call {w0:World} {v:Value} {vs:List Value} {D:Nat} {q:List UInt8} {W W':World} (k:Hq w0 v vs D q W) (hb:Below W.heap.size W W'):Hq w0 v vs D q W':=
 ⟨k.own.step hb,k.res.step hb,k.aK.step hb,k.gt,k.below.trans (hb.mono k.below.size)⟩
theorem Hq.put {w0:World} {v:Value} {vs:List Value} {D:Nat} {q:List UInt8} {W:World} (k:Hq w0 v vs D q W) (q':List UInt8) (hq:q'.length=64):Hq w0 v vs D q' (W.setCells D 0 (ab q')):=
 ⟨k.own.bl _ _ _ (by have:=k.gt;omega),k.res.bl _ _ _ (by have:=k.gt;omega),k.aK.put q' hq,k.gt,below_setCells _ (by have:=k.gt;omega) _ _ _ k.below⟩
theorem Hq.back {w0:World} {v:Value} {vs:List Value} {D:Nat} {q:List UInt8} {W:World} (k:Hq w0 v vs D q W) (q':List UInt8) (hq:q'.length=64):
  aD (W.setCells (w0.heap.size+1) 0 (ab q')) (w0.heap.size+1) q'∧Below w0.heap.size w0 (W.setCells (w0.heap.size+1) 0 (ab q')):=
 ⟨k.res.put q' hq,below_setCells _ (by omega) _ _ _ k.below⟩
theorem sW (p i:Int) (w:World) (h:Pl.aA p i=true):
  Calls Tryz.prog 142 #[bz p i] w fun e w'=>e=.returned (.tuple #[an (Pl.bP p i),.int .i64 0])∧Below w.heap.size w w':=by
 have HZ:=Lib.hid (fun (w':World) hb=>sX w p i (w':=w') hb)
 rw [az] at HZ
 have L0:=Lib.hid Pl.kt
 have L1:=Lib.hid (Pl.lW p)
 have L2:=Lib.hid (Pl.dF p i)
 have C0:=Lib.hid (fun w=>vw w)
 have C1:=Lib.hid (fun w=>ek (Pg.br Pl.kG 0 Pl.tP) 4 2 p w Pl.kt (by omega) (by omega))
 have C2:=Lib.hid (fun w=>ek (Pg.eV (Pg.br Pl.kG 0 Pl.tP) 4 2 p) 6 2 i w (Pl.lW p) (by omega) (by omega))
 change Hid (∀ w,Calls Tryz.prog _ _ w fun e w'=>e=.returned (an (Pl.bP p i))∧_) at C2
 generalize Pl.bP p i=q2 at L2 C2 ⊢
 generalize Pg.eV (Pg.br Pl.kG 0 Pl.tP) 4 2 p=q1 at L1 C1 C2
 generalize Pg.br Pl.kG 0 Pl.tP=q0 at L0 C0 C1
 unfold bz
 go_enter Tryz.func142,Tryz.ntmps142
 go_wp2_with (go_at_call 162;refine (eh p i _ _ h).mono ?_;rintro e w3 ⟨rfl,hb⟩;have HB:=Lib.hid (HZ.out w3 (by simpa using hb));clear hb)
 rw [← az]
 refine (C0.out _).mono ?_
 rintro e w4 ⟨rfl,hb4⟩
 have H4:Hid (au w4 w.heap.size (bc p i)∧aD w4 (w.heap.size+1) av∧Below w.heap.size w w4∧w.heap.size+1<w4.heap.size):=Lib.hid ⟨HB.out.1.step hb4,HB.out.2.1.step hb4,HB.out.2.2.trans (hb4.mono HB.out.2.2.size),(HB.out.2.1.step hb4).lt⟩
 clear HB HZ hb4
 generalize zeroCells=Z
 go_wp2_with (first
  | ((with_reducible refine aq rfl (.tmp 4) (.tmp 10) rfl rfl ?_ ?_ L0.out ?_);(exact rfl);(exact rfl);intro W5 hP hb5 hz5;have S5:Hid (Hq w (.int .i64 p) [.int .i64 i] w4.heap.size q0 W5):=Lib.hid ⟨H4.out.1.step hb5,H4.out.2.1.step hb5,hP,H4.out.2.2.2,H4.out.2.2.1.trans (hb5.mono H4.out.2.2.1.size)⟩;clear hP hb5 hz5 H4;generalize w4.heap.size=D at S5 ⊢;have c5:=S5.out.own.cell 0 _ rfl)
  | (with_reducible refine ah S5.out.aK rfl (.tmp 4) rfl rfl ?_)
  | (go_at_call 195;refine (C1.out _).mono ?_;rintro e w6 ⟨rfl,hb6⟩;have S6:=Lib.hid (S5.out.call hb6);clear S5 hb6 c5 C1)
  | ((with_reducible refine ax S6.out.aK L1.out rfl (.tmp 4) (.tmp 14) rfl rfl rfl ?_);have S7:=Lib.hid (S6.out.put _ L1.out);clear S6;generalize w6.setCells D 0 (ab q1)=w7 at S7 ⊢;have c7:=S7.out.own.cell 1 _ rfl)
  | (with_reducible refine ah S7.out.aK rfl (.tmp 4) rfl rfl ?_)
  | (go_at_call 195;refine (C2.out _).mono ?_;rintro e w8 ⟨rfl,hb8⟩;have S8:=Lib.hid (S7.out.call hb8);clear S7 hb8 c7)
  | (with_reducible refine ax S8.out.res L2.out rfl (.tmp 2) (.tmp 18) rfl rfl rfl ?_))
 have hq:=S8.out.back q2 L2.out
 refine bodyPost_ret (kW _ 2 3 rfl _ hq.1 rfl rfl) rfl ⟨rfl,hq.2⟩
end

section
open Go.RowKit Go.Maps
open Dk (av aa)
open Ii (Ino)
open Jn (Chg Cl)
theorem nD:∀ (ps:List (List UInt8)) (k:Nat),nc k ps=Jn.dY k ps
 | [],_=>rfl
 | p::r,k=>by rw [nc,Jn.dY,nD r (k+1)]
def AF (n I:Int) (i:Nat):List UInt8:=if i=0 then Pl.bP n I else if i=41 then so else if i=43 then mU else av
structure Fmt (s:Dk.St) (n I:Int):Prop where
 cl:Cl s
 lim:s.lim=false
 len:(s.last.length:Int)=n
 dJ:∀ i,i<s.last.length→s.last.getD i []=AF n I i
theorem xq {s:Dk.St} {cs:List Chg} (h:Cl s) (hl:s.lim=false) (hv:Jn.Val s.last.length cs):(Jn.cj s cs).2=0∧Cl (Jn.cj s cs).1∧(Jn.cj s cs).1.lim=false∧(Jn.cj s cs).1.last=Jn.upd s.last cs:=by
 rcases Jn.tt cs s h.ok h.up hv with ⟨a1,a2,a3,a4⟩ | ⟨_,a2,_⟩
 ·exact ⟨a1,a2,a3.trans hl,by rw [a4,Jn.qA h.clean]⟩
 ·rw [hl] at a2;cases a2
theorem Dc {n:Nat} {ps:List (List UInt8)} (h:ps.length≤n) (hp:∀ p∈ps,p.length=64):Jn.Val n (nc 0 ps):=by
 rw [nD]
 intro c hc
 obtain ⟨h1,h2,h3,h4⟩:=Jn.gY ps 0 c hc
 refine ⟨?_,hp _ h4⟩
 rw [h3]
 exact Dk.pa (by omega)
theorem uG:so.length=64:=by unfold so;rw [Bt.ko];exact aa
theorem tw:mU.length=64:=Ii.fV _ _ _ aa (by omega)
theorem uk (I:Int):∀ p∈cW I,p.length=64:=fun p hp=>by
 unfold cW at hp
 rcases List.mem_or_eq_of_mem_set hp with hp | rfl
 ·rcases List.mem_or_eq_of_mem_set hp with hp | rfl
  ·rw [List.eq_of_mem_replicate hp];exact aa
  ·exact uG
 ·exact tw
theorem qN (I:Int):(cW I).length=(Pl.aS I).toNat:=by unfold cW;simp
theorem DD {n I:Int} (hd:44≤Pl.aS I) (i:Nat) (hi:i<(Pl.aS I).toNat) (h0:i≠0):(cW I).getD i []=AF n I i:=by
 unfold cW AF
 rw [if_neg h0,List.getD_eq_getElem?_getD]
 by_cases c1:i=43
 ·subst c1
  rw [List.getElem?_set_self (by simp;omega)];rfl
 ·rw [List.getElem?_set_ne (fun q=>c1 q.symm)]
  by_cases c2:i=41
  ·subst c2
   rw [List.getElem?_set_self (by simp;omega),if_pos rfl];rfl
  ·rw [List.getElem?_set_ne (fun q=>c2 q.symm),if_neg c2,if_neg c1,List.getElem?_replicate,if_pos hi];rfl
theorem Gx {N:Nat} {I:Int} (hpl:Pl.aA (N:Int) I=true):
  (Jn.cj (Dk.fresh N) (nc 0 (cW I))).2=0∧(Jn.cj (Jn.cj (Dk.fresh N) (nc 0 (cW I))).1 (nc 0 [Pl.bP (N:Int) I])).2=0 ∧
  Fmt (Jn.cj (Jn.cj (Dk.fresh N) (nc 0 (cW I))).1 (nc 0 [Pl.bP (N:Int) I])).1 (N:Int) I:=by
 obtain ⟨h1,h2,h3,h4⟩:=Pl.aW hpl
 have hd:=Pl.dZ h1 h2
 have hc:Cl (Dk.fresh N):=Gu (by omega) (by omega)
 have hlen:=uj N
 have hfl:=qN I
 obtain ⟨a1,a2,a3,a4⟩:=xq hc rfl (Dc (ps:=cW I) (n:=(Dk.fresh N).last.length) (by rw [hlen,hfl];omega) (uk I))
 generalize (Jn.cj (Dk.fresh N) (nc 0 (cW I)))=R1 at a1 a2 a3 a4 ⊢
 have hl1:R1.1.last.length=N:=by rw [a4,Jn.cw,hlen]
 obtain ⟨b1,b2,b3,b4⟩:=xq a2 a3 (Dc (ps:=[Pl.bP (N:Int) I]) (n:=R1.1.last.length) (by rw [hl1];simp;omega) (fun p hp=>by rw [List.mem_singleton] at hp;subst hp;exact Pl.dF _ _))
 refine ⟨a1,b1,⟨b2,b3,by rw [b4,Jn.cw,hl1],fun i hi=>?_⟩⟩
 rw [b4,Jn.cw,hl1] at hi
 rw [b4,nD]
 show (Jn.upd R1.1.last [⟨((0:Nat):Int),_⟩]).getD i []=_
 by_cases h0:i=0
 ·subst h0
  rw [Jn.jJ (by omega)]
  unfold AF;rw [if_pos rfl]
 ·rw [Jn.eC h0,a4,nD]
  by_cases hD:i<(Pl.aS I).toNat
  ·have:=Jn.nK (cW I) 0 (Dk.fresh N).last i (by rw [hfl];exact hD) (by rw [hlen,hfl];omega)
   rw [Nat.zero_add] at this
   rw [this,DD (n:=(N:Int)) hd.1 i hD h0]
  ·rw [Jn.db _ _ _ (fun c hc=>by
    obtain ⟨_,q2,_,_⟩:=Jn.gY _ _ _ hc
    rw [hfl] at q2;omega),Gv hi]
   unfold AF
   rw [if_neg h0,if_neg (by omega),if_neg (by omega)]
structure Dy (w:World) (d l m:Nat) (s:Dk.St) (W:World):Prop where
 ew:aG W d l m s
 only:aB [d,l,m] w W
theorem Dy.below {w W W':World} {d l m:Nat} {s:Dk.St} (h:Dy w d l m s W) (hb:Below W.heap.size W W'):Dy w d l m s W':=⟨h.ew.below hb,h.only.oH hb⟩
theorem Ad {w:World} {d l m N:Nat} {I:Int} (h:aG w d l m (Dk.fresh N)) (hpl:Pl.aA (N:Int) I=true):Calls Tryz.prog 81 #[.pointer (some ⟨d,0,none⟩),.int .i64 I] w fun e w'=>e=.returned (.int .i64 0)∧aB [d,l,m] w w'∧∃ s,Fmt s (N:Int) I∧aG w' d l m s:=by
 obtain ⟨f1,f2,f3⟩:=Gx hpl
 have HF3:=Lib.hid f3
 have HD:=Lib.hid (show Dy w d l m (Dk.fresh N) w from ⟨h,aB.refl _ _⟩)
 have HDN:=Lib.hid (lz h)
 have HPG:=Lib.hid (gT h)
 rw [uj] at HPG
 have hup:(Dk.fresh N).down=false:=rfl
 rw [hup] at HDN
 have HSU:Hid (∀ W,Calls Tryz.prog 142 #[.agg #[.int .i64 (N:Int),.int .i64 I]] W fun e w'=>e=.returned (.tuple #[an (Pl.bP (N:Int) I),.int .i64 0])∧Below W.heap.size W w'):=Lib.hid (fun W=>sW (N:Int) I W hpl)
 have HFR:Hid (∀ W,Calls Tryz.prog 144 #[.agg #[.int .i64 (N:Int),.int .i64 I]] W fun e w'=>∃ g,e=.returned (.slice (some ⟨g,0,none⟩) (cW I).length (cW I).length)∧Fr W (N:Int) I g (cW I) w'):=Lib.hid (fun W=>DC W hpl)
 have hll:(cW I).length≤1000:=by
  rw [qN]
  obtain ⟨h1,h2,h3,h4⟩:=Pl.aW hpl
  have hd:=Pl.dZ h1 h2
  omega
 have HLD:Hid (d<w.heap.size∧l<w.heap.size∧m<w.heap.size):=Lib.hid ⟨h.dlt,h.llt,h.mlt⟩
 have HL1:Hid (∀ W g c,Dy w d l m (Dk.fresh N) W→bG W g (cW I)→g<W.heap.size→w.heap.size≤g→Calls Tryz.prog 143 #[.pointer (some ⟨d,0,none⟩),.slice (some ⟨g,0,none⟩) (cW I).length c] W fun e w'=>e=.returned (.int .i64 0)∧Dy w d l m (Jn.cj (Dk.fresh N) (nc 0 (cW I))).1 w'∧aB [d,l,m] W w'):=Lib.hid (fun W g c hd hr hg hg2=>by
  have hh:=HLD.out
  have:=Dd (c:=c) hd.ew hr hg (by simp;omega) hll
  rw [f1] at this
  exact this.mono fun e w' hh=>⟨hh.1,⟨hh.2.1,hd.only.trans hh.2.2⟩,hh.2.2⟩)
 have HL2:Hid (∀ W g c,Dy w d l m (Jn.cj (Dk.fresh N) (nc 0 (cW I))).1 W→bG W g [Pl.bP (N:Int) I]→g<W.heap.size→w.heap.size≤g→Calls Tryz.prog 143 #[.pointer (some ⟨d,0,none⟩),.slice (some ⟨g,0,none⟩) 1 c] W fun e w'=>e=.returned (.int .i64 0)∧Dy w d l m (Jn.cj (Jn.cj (Dk.fresh N) (nc 0 (cW I))).1 (nc 0 [Pl.bP (N:Int) I])).1 w'):=Lib.hid (fun W g c hd hr hg hg2=>by
  have hh:=HLD.out
  have:=Dd (c:=c) hd.ew hr hg (by simp;omega) (by simp)
  rw [f2] at this
  exact this.mono fun e w' hh=>⟨hh.1,hh.2.1,hd.only.trans hh.2.2⟩)
 have HSL:Hid ((Pl.bP (N:Int) I).length=64):=Lib.hid (Pl.dF _ _)
 clear h hpl hup f1 f2 f3 hll
 generalize Pl.bP (N:Int) I=sp at HSU HL2 HSL HF3
 generalize cW I=fl at HFR HL1 HL2 HF3
 generalize (Jn.cj (Jn.cj (Dk.fresh N) (nc 0 fl)).1 (nc 0 [sp])).1=s2 at HL2 HF3
 generalize (Jn.cj (Dk.fresh N) (nc 0 fl)).1=s1 at HL1 HL2
 generalize Dk.fresh N=s0 at HD HL1
 have hbl:(ab sp).length=64:=by rw [aj];exact HSL.out
 have S0:=Lib.hid ((Lo.start (L:=[d,l,m]) w (by have:=HLD.out;simp;omega)).alloc _ rfl [.int .i64 (N:Int),.int .i64 I] 132)
 go_enter Tryz.func81,Tryz.ntmps81
 go_wp2_with (first
  | (go_at_call 96;(with_reducible refine HDN.out.mono ?_);rintro e w1 ⟨rfl,rfl⟩)
  | (go_at_call 141;(with_reducible refine HPG.out.mono ?_);rintro e w1 ⟨rfl,rfl⟩)
  | (go_at_call 142;(with_reducible refine (HSU.out _).mono ?_);rintro e w1 ⟨rfl,hb⟩;have S:=Lib.hid (S0.out.below hb);have HD1:=Lib.hid ((HD.out.below (bK _ _)).below hb);clear hb S0 HD)
  | ((with_reducible refine aq rfl (.tmp 6) (.tmp 18) rfl rfl ?_ ?_ HSL.out ?_);(exact rfl);(exact rfl);intro W2 hP hB2 hz2;have S2:=Lib.hid (S.out.made hP.rowAt hB2 hz2);have HD2:=Lib.hid (HD1.out.below hB2);clear hP hB2 hz2 S HD1)
  | (with_reducible refine wpList_load_mid rfl 132 (.tmp 5) rfl _ 0 rfl [.int .i64 (N:Int),.int .i64 I] _ (S2.out.get 0 _ rfl).range Tryz.underlying132 rfl (by kernel_rfl) ?_)
  | (go_at_call 144;(with_reducible refine (HFR.out _).mono ?_);rintro e w3 ⟨g,rfl,hfr⟩;have S3:=Lib.hid (S2.out.below hfr.bel);have HD3:=Lib.hid (HD2.out.below hfr.bel);have hgw:w.heap.size≤g:=(by have:=S2.out.only.size;have:=hfr.ge;omega);have HFP:=Lib.hid hfr;clear hfr S2 HD2)
  | (go_at_call 143;(with_reducible refine (HL1.out _ g _ HD3.out HFP.out.rows HFP.out.lt hgw).mono ?_);rintro e w4 ⟨rfl,hd4,ho4⟩;have S4:=Lib.hid (S3.out.call ho4 (fun k hk=>hk));have HD4:=Lib.hid hd4;clear hd4 ho4 S3 HD3 HFP)
  | (with_reducible refine wpList_load_mid rfl 87 (.tmp 6) rfl _ 0 rfl (ab sp) _ (S4.out.get 1 _ rfl).range Tryz.underlying87 rfl (by rw [aY,aj,HSL.out]) ?_))
 rw [fh rfl HSL.out]
 have HR5:Hid (bG (w4.alloc (.cells (ab sp).toArray 87)) w4.heap.size [sp]):=Lib.hid (by
  have hr:=bh w4 (ab sp) 87
  refine ⟨fun p hp=>by rw [List.mem_singleton] at hp;subst hp;exact HSL.out,fun i p hp=>?_,?_⟩
  ·have hi:i=0:=by have:=(List.getElem?_eq_some_iff.1 hp).1;simpa using this
   subst hi
   simp only [List.getElem?_cons_zero,Option.some.injEq] at hp
   subst hp
   exact hr.range
  ·have:=hr.free
   rw [hbl] at this
   exact this)
 have HD5:=Lib.hid (HD4.out.below (bK w4 (.cells (ab sp).toArray 87)))
 have hg5:w4.heap.size<(w4.alloc (.cells (ab sp).toArray 87)).heap.size:=by simp
 have hg6:=S4.out.only.size
 generalize World.alloc _ _=w5 at HR5 HD5 hg5 ⊢
 go_wp2_with (go_at_call 143;(with_reducible refine (HL2.out _ _ _ HD5.out HR5.out hg5 hg6).mono ?_);rintro e w6 ⟨rfl,hd6⟩)
 go_ret
 exact ⟨rfl,hd6.only,s2,HF3.out,hd6.ew⟩
end

section
open Dk (av aa)
open Go.RowKit
structure sv (w0:World) (x:List UInt8) (W:World):Prop where
 aK:aD W w0.heap.size x
 res:au W (w0.heap.size+1) (bc 0 0)
 below:Below w0.heap.size w0 W
theorem sv.call {w0:World} {x:List UInt8} {W W':World} (k:sv w0 x W) (hb:Below W.heap.size W W'):sv w0 x W':=
 ⟨k.aK.step hb,k.res.step hb,k.below.trans (hb.mono k.below.size)⟩
theorem sv.drew {w0:World} {x:List UInt8} {W:World} (k:sv w0 x W):sv w0 x W.drew:=⟨k.aK.drew,k.res.drew,k.below.drew⟩
def RfS (w0:World) (x:List UInt8) (p i:Int):Option (Nat × Bool)→World→Prop
 | none,W=>sv w0 x W
 | some (g,b),W=>sv w0 x W∧w0.heap.size+1<g∧au W g (if b then bc p i else bc 0 0)
theorem RfS.base {w0:World} {x:List UInt8} {p i:Int} {s:Option (Nat × Bool)} {W:World} (k:RfS w0 x p i s W):sv w0 x W:=by
 cases s with
 | none=>exact k
 | some gb=>exact k.1
theorem RfS.call {w0:World} {x:List UInt8} {p i:Int} {s:Option (Nat × Bool)} {W W':World} (k:RfS w0 x p i s W) (hb:Below W.heap.size W W'):RfS w0 x p i s W':=by
 cases s with
 | none=>exact sv.call k hb
 |
  some gb=>
  obtain ⟨g,b⟩:=gb
  obtain ⟨h1,h2,h3⟩:=k
  refine ⟨h1.call hb,h2,?_⟩
  cases b <;> exact au.step h3 hb
theorem FA (w:World) (x:List UInt8) (hx:x.length=64):sv w x ((w.alloc (.cells (ab x).toArray 87)).alloc (.cells #[.int .i64 0,.int .i64 0] 132)):=by
 have h0:=(bF w x 87 hx).alloc (.cells #[.int .i64 0,.int .i64 0] 132)
 have h1:=bh (w.alloc (.cells (ab x).toArray 87)) (bc 0 0) 132
 rw [World.size_alloc] at h1
 exact ⟨h0,h1,((Below.refl _ _).alloc (Nat.le_refl _) _).alloc (by simp) _⟩
theorem sv.alloc {w0:World} {x:List UInt8} {p i:Int} {W:World} (k:sv w0 x W):RfS w0 x p i (some (W.heap.size,false)) (W.alloc (.cells #[.int .i64 0,.int .i64 0] 132)):=
 ⟨⟨k.aK.alloc _,k.res.alloc _,k.below.alloc k.below.size _⟩,au.lt k.res,bh W (bc 0 0) _⟩
theorem RfS.put {w0:World} {x:List UInt8} {p i:Int} {g:Nat} {W:World} (k:RfS w0 x p i (some (g,false)) W):RfS w0 x p i (some (g,true)) (W.setCells g 0 (bc p i)):=by
 obtain ⟨h1,h2,h3⟩:=k
 exact ⟨⟨h1.aK.bl _ _ _ (by omega),h1.res.bl _ _ _ (by omega),below_setCells _ (by omega) _ _ _ h1.below⟩,h2,au.put h3 _ rfl⟩
theorem sv.back {w0:World} {x:List UInt8} {W:World} (k:sv w0 x W) (p i:Int):au (W.setCells (w0.heap.size+1) 0 (bc p i)) (w0.heap.size+1) (bc p i)∧Below w0.heap.size w0 (W.setCells (w0.heap.size+1) 0 (bc p i)):=
 ⟨k.res.put _ rfl,below_setCells _ (by omega) _ _ _ k.below⟩
theorem CN (x:List UInt8) (w:World) (hx:x.length=64):
  Calls Tryz.prog 156 #[an x] w fun e w'=>e=.returned (if Pl.BQ x=true then .tuple #[bz (Pg.ba x 4 2) (Pg.ba x 6 2),.int .i64 0] else .tuple #[bz 0 0,.int .i64 22])∧Below w.heap.size w w':=by
 have G4:=Lib.hid (fun (w:World)=>bx x 4 2 w hx (by omega) (by omega))
 have G6:=Lib.hid (fun (w:World)=>bx x 6 2 w hx (by omega) (by omega))
 have HR:Hid (Pl.BQ x=(Pl.aA (Pg.ba x 4 2) (Pg.ba x 6 2) && decide (Pl.bP (Pg.ba x 4 2) (Pg.ba x 6 2)=x))):=Lib.hid rfl
 have HS:=Lib.hid (FA w x hx)
 generalize Pl.BQ x=r at HR ⊢
 generalize Pg.ba x 4 2=p at *
 generalize Pg.ba x 6 2=i at *
 unfold an
 go_enter Tryz.func156,Tryz.ntmps156
 go_wp2_with fail
 rw [tM]
 refine cq (RfS w x p i) (fun i=>i == 5 || i == 6) (fun n=>[an x,.int .i64 p,an x,.int .i64 i,bz p i].getD n undef) (none) (by kernel_rfl) (by kernel_rfl) (sv.drew HS.out) ?_
 refine ar (i:=0) (d:=some 7) (v:=an x) rfl rfl (by kernel_rfl) (by kernel_rfl) rfl rfl (bf (by kernel_rfl) (.tmp 1) rfl rfl (fun _ _ hS=>(RfS.base hS).aK)) ?_
 (try simp only [Act.put,puA,puB,puC])
 refine ar (i:=1) (d:=some 8) (v:=.int .i64 p) rfl rfl (by kernel_rfl) (by kernel_rfl) rfl rfl (aR (f:=205) (args:=#[an x,.int .i64 4,.int .i64 2]) (by kernel_rfl) ?_ (fun _ _ hS=>(G4.out _).mono fun _ _ ⟨he,hb⟩=>⟨he,RfS.call hS hb⟩)) ?_
 ·intro _;go_simp
 (try simp only [Act.put,puA,puB,puC])
 refine ar (i:=2) (d:=some 9) (v:=an x) rfl rfl (by kernel_rfl) (by kernel_rfl) rfl rfl (bf (by kernel_rfl) (.tmp 1) rfl rfl (fun _ _ hS=>(RfS.base hS).aK)) ?_
 (try simp only [Act.put,puA,puB,puC])
 refine ar (i:=3) (d:=some 10) (v:=.int .i64 i) rfl rfl (by kernel_rfl) (by kernel_rfl) rfl rfl (aR (f:=205) (args:=#[an x,.int .i64 6,.int .i64 2]) (by kernel_rfl) ?_ (fun _ _ hS=>(G6.out _).mono fun _ _ ⟨he,hb⟩=>⟨he,RfS.call hS hb⟩)) ?_
 ·intro _;go_simp
 (try simp only [Act.put,puA,puB,puC])
 refine ar (i:=4) (d:=some 11) (v:=bz p i) rfl rfl (by kernel_rfl) (by kernel_rfl) rfl rfl (ae (by kernel_rfl) ?_) ?_
 ·intro _ _ _;go_simp;rfl
 (try simp only [Act.put,puA,puB,puC])
 refine dS (i:=5) (d:=some 4) (fun u s=>∃ g,w.heap.size+1<g∧u=.pointer (some ⟨g,0,none⟩)∧s=some (g,false)) rfl rfl (by kernel_rfl) (by kernel_rfl) rfl (by kernel_rfl) (⟨_,_,w.heap.size+2,by omega,rfl,rfl⟩) (by kernel_rfl) (fun W hS=>eX (v:=.pointer (some ⟨W.heap.size,0,none⟩)) (w':=W.alloc (.cells #[.int .i64 0,.int .i64 0] 132)) (by go_simp) ⟨some (W.heap.size,false),⟨W.heap.size,au.lt (sv.res hS),rfl,rfl⟩,sv.alloc hS⟩) ?_
 rintro _ _ ⟨g,hg,rfl,rfl⟩
 (try simp only [Act.put,puA,puB,puC])
 refine dS (i:=6) (d:=none) (fun u s=>u=undef∧s=some (g,true)) rfl rfl (by kernel_rfl) (by kernel_rfl) rfl (by kernel_rfl) (⟨_,_,rfl,rfl⟩) (by kernel_rfl) (fun W hS=>bA fc (us:=bc 0 0) (vs:=bc p i) hS.2.2 rfl rfl (la p i) (.tmp 4) (.tmp 11) rfl rfl rfl ⟨some (g,true),⟨rfl,rfl⟩,RfS.put hS⟩) ?_
 rintro _ _ ⟨rfl,rfl⟩
 (try simp only [Act.put,puA,puB,puC])
 refine fz (by kernel_rfl) ?_
 intro W2 hS
 have S2:Hid (sv w x W2):=Lib.hid hS.1
 have H2:Hid (au W2 g (bc p i)):=Lib.hid hS.2.2
 clear hS G4 G6 HS
 have HQ:Hid (an x=.agg (ab x).toArray):=Lib.hid rfl
 cases hr:Pl.aA p i with
 |
  false=>
  have hr0:r=false:=by have:=HR.out;rw [hr] at this;simpa using this
  subst hr0
  have HN:=Lib.hid (fun w=>Fc p i w hr)
  have LZ:=Lib.hid aa
  clear HR hr HQ
  generalize av=z at HN LZ
  go_wp2_with (first
   | (with_reducible refine af fc H2.out rfl rfl (.tmp 4) rfl rfl ?_)
   | (go_at_call 142;refine (HN.out _).mono ?_;rintro e w3 ⟨rfl,hb3⟩;have S3:=Lib.hid (S2.out.call hb3);clear S2 H2 HN hb3)
   | ((with_reducible refine aq rfl (.tmp 5) (.tmp 15) rfl rfl ?_ ?_ LZ.out ?_);(exact rfl);(exact rfl);intro W4 hP hb4 hz4;have S4:=Lib.hid (S3.out.call hb4);clear S3 hP hb4 hz4)
   | ((with_reducible refine ak fc (vs:=bc 0 0) S4.out.res rfl rfl (la 0 0) rfl (.tmp 2) (.tmp 24) rfl rfl ?_ ?_);(exact rfl)))
  have hq:=S4.out.back 0 0
  exact bodyPost_ret (aL fc _ 2 3 rfl _ hq.1 rfl rfl rfl) rfl ⟨rfl,hq.2⟩
 |
  true=>
  have HN:=Lib.hid (fun w=>sW p i w hr)
  have LZ:=Lib.hid (Pl.dF p i)
  by_cases hx2:Pl.bP p i=x
  ·have hr0:r=true:=by have:=HR.out;rw [hr,hx2] at this;simpa using this
   subst hr0
   rw [hx2] at HN LZ
   have E1:=fun (a b:Operand) (w:World)=>bB w a b x x
   have E2:=fun (w:World)=>gA w x hx
   clear HR hr HQ hx2
   go_wp2_with (first
    | (with_reducible refine af fc H2.out rfl rfl (.tmp 4) rfl rfl ?_)
    | (go_at_call 142;refine (HN.out _).mono ?_;rintro e w3 ⟨rfl,hb3⟩;have S3:=Lib.hid (S2.out.call hb3);have H3:=Lib.hid (au.step H2.out hb3);clear S2 H2 HN hb3)
    | ((with_reducible refine aq rfl (.tmp 5) (.tmp 15) rfl rfl ?_ ?_ LZ.out ?_);(exact rfl);(exact rfl);intro W4 hP hb4 hz4;have S4:=Lib.hid (S3.out.call hb4);have H4:=Lib.hid (au.step H3.out hb4);have P4:=Lib.hid hP;clear S3 H3 hP hb4 hz4;generalize w3.heap.size=D at P4 ⊢)
    | ((with_reducible refine bo P4.out (.tmp 5) rfl rfl ?_ ?_);(exact rfl))
    | ((with_reducible refine bo S4.out.aK (.tmp 1) rfl rfl ?_ ?_);(exact rfl))
    | (with_reducible refine af fc H4.out rfl rfl (.tmp 4) rfl rfl ?_)
    | ((with_reducible refine ak fc (vs:=bc p i) S4.out.res rfl rfl (la p i) rfl (.tmp 2) (.tmp 25) rfl rfl ?_ ?_);(exact rfl)))
   have hq:=S4.out.back p i
   exact bodyPost_ret (aL fc _ 2 3 rfl _ hq.1 rfl rfl rfl) rfl ⟨rfl,hq.2⟩
  ·have hr0:r=false:=by have:=HR.out;rw [hr,decide_eq_false hx2] at this;simpa using this
   subst hr0
   have E1:=fun (a b:Operand) (w:World)=>bB w a b (Pl.bP p i) x
   have E2:∀ (w:World),(binOp .neq 87 (an (Pl.bP p i)) (an x)).run Tryz.prog w=.ok (.bool true) w:=fun (w:World)=>by
    rw [gB w (Pl.bP p i) x (Pl.dF p i) hx,decide_eq_false hx2];rfl
   clear HR hr HQ hx2
   generalize Pl.bP p i=z at HN LZ E1 E2
   go_wp2_with (first
    | (with_reducible refine af fc H2.out rfl rfl (.tmp 4) rfl rfl ?_)
    | (go_at_call 142;refine (HN.out _).mono ?_;rintro e w3 ⟨rfl,hb3⟩;have S3:=Lib.hid (S2.out.call hb3);clear S2 H2 HN hb3)
    | ((with_reducible refine aq rfl (.tmp 5) (.tmp 15) rfl rfl ?_ ?_ LZ.out ?_);(exact rfl);(exact rfl);intro W4 hP hb4 hz4;have S4:=Lib.hid (S3.out.call hb4);have P4:=Lib.hid hP;clear S3 hP hb4 hz4;generalize w3.heap.size=D at P4 ⊢)
    | ((with_reducible refine bo P4.out (.tmp 5) rfl rfl ?_ ?_);(exact rfl))
    | ((with_reducible refine bo S4.out.aK (.tmp 1) rfl rfl ?_ ?_);(exact rfl))
    | ((with_reducible refine ak fc (vs:=bc 0 0) S4.out.res rfl rfl (la 0 0) rfl (.tmp 2) (.tmp 24) rfl rfl ?_ ?_);(exact rfl)))
   have hq:=S4.out.back 0 0
   exact bodyPost_ret (aL fc _ 2 3 rfl _ hq.1 rfl rfl rfl) rfl ⟨rfl,hq.2⟩
end

section
open Go.RowKit Go.Maps
open Dk (av aa)
open Ii (Ino)
open Jn (Chg Cl)
theorem zA {w:World} {d l m:Nat} {s:Dk.St} {n I:Int} (h:aG w d l m s) (hc:Cl s) (hn:(s.last.length:Int)=n) (hp:s.last.getD 0 []=Pl.bP n I) (hpl:Pl.aA n I=true):Calls Tryz.prog 97 #[.pointer (some ⟨d,0,none⟩)] w fun e w'=>e=.returned (.tuple #[bz n I,.int .i64 0])∧Below w.heap.size w w':=by
 obtain ⟨h1,h2,h3,h4⟩:=Pl.aW hpl
 have hd:=Pl.dZ h1 h2
 obtain ⟨q1,q2,q3⟩:=Pl.zj n I hpl
 have HRD:Hid (∀ W,Below w.heap.size w W→Calls Tryz.prog 155 #[.pointer (some ⟨d,0,none⟩),.int .i64 0] W fun e w'=>e=.returned (.tuple #[an (Pl.bP n I),.int .i64 0])∧Below W.heap.size W w'):=Lib.hid (fun W hb=>by
  have:=rD (h.below hb) 0
  have e1:Dk.dh s 0=0:=Dk.kZ hc.up (Dk.pa (k:=0) (by omega))
  have e2:Dk.gJ s ((0:Nat):Int)=s.last.getD 0 []:=lQ hc (by omega)
  have e3:Dk.gJ s 0=Pl.bP n I:=e2.trans hp
  rw [e1,e3] at this
  exact this)
 have HPR:Hid (∀ W,Calls Tryz.prog 156 #[an (Pl.bP n I)] W fun e w'=>e=.returned (.tuple #[.agg #[.int .i64 n,.int .i64 I],.int .i64 0])∧Below W.heap.size W w'):=Lib.hid (fun W=>by
  have:=CN (Pl.bP n I) W (Pl.dF _ _)
  rw [q1,if_pos rfl,q2,q3] at this
  exact this)
 have HPG:Hid (∀ W,Below w.heap.size w W→Calls Tryz.prog 141 #[.pointer (some ⟨d,0,none⟩)] W fun e w'=>e=.returned (.int .i64 n)∧W=w'):=Lib.hid (fun W hb=>by
  have:=gT (h.below hb)
  rw [hn] at this
  exact this)
 have HSL:Hid ((Pl.bP n I).length=64):=Lib.hid (Pl.dF _ _)
 have S:=Lib.hid ((Lo.start (L:=[]) w (by simp)).alloc _ rfl [.int .i64 0,.int .i64 0] 132)
 clear h hc hp hpl h1 h2 h3 h4 hd q1 q2 q3
 generalize Pl.bP n I=sp at HRD HPR HSL
 go_enter Tryz.func97,Tryz.ntmps97
 go_wp2_with fail
 generalize hw:World.alloc _ _=w1
 have S1:Hid (Lo [] w [(w.heap.size,[.int .i64 0,.int .i64 0])] w1):=Lib.hid (by rw [← hw];exact S.out)
 clear hw S
 go_wp2_with (first
  | (go_at_call 155;(with_reducible refine (HRD.out _ S1.out.bel).mono ?_);rintro e w2 ⟨rfl,hb⟩;replace S1:=Lib.hid (S1.out.below hb);clear hb)
  | ((with_reducible refine aq rfl (.tmp 4) (.tmp 10) rfl rfl ?_ ?_ HSL.out ?_);(exact rfl);(exact rfl);intro W2 hP hB2 hz2;have S2:=Lib.hid (S1.out.made hP.rowAt hB2 hz2);clear hP hB2 hz2 S1)
  | (with_reducible refine ah (S2.out.aK 1 rfl HSL.out) rfl (.tmp 4) rfl rfl ?_)
  | (go_at_call 156;(with_reducible refine (HPR.out _).mono ?_);rintro e w2 ⟨rfl,hb⟩;replace S2:=Lib.hid (S2.out.below hb);clear hb)
  | ((with_reducible refine ai (vs:=[.int .i64 n,.int .i64 I]) qt ?_ (jP n I) rfl (.tmp 6) (.tmp 19) rfl rfl ?_ ?_ ?_);(exact rfl);(exact rfl);(exact rfl);intro W2 hP hB2 hz2;have S3:=Lib.hid (S2.out.made hP hB2 hz2);clear hP hB2 hz2 S2))
 have c0:=(S3.out.get 2 _ rfl).cell 0 _ rfl
 go_quiet ((go_at_call 141;refine Calls.quiet_of_same ((HPG.out _ (S3.out.drewN _).bel).mono fun e w' h=>⟨h.1,h.2.symm⟩)))
 have S4:=Lib.hid (S3.out.drewN nq)
 generalize World.drewN _ _=W5 at S4 ⊢
 go_wp2_with (first
  | (with_reducible refine wpList_load_mid rfl 132 (.tmp 6) rfl _ 0 rfl [.int .i64 n,.int .i64 I] _ (S4.out.get 2 _ rfl).range Tryz.underlying132 rfl (by kernel_rfl) ?_)
  | ((with_reducible refine ak (vs:=[.int .i64 n,.int .i64 I]) qt (S4.out.get 0 _ rfl) ?_ ?_ (jP n I) rfl (.tmp 2) (.tmp 31) rfl ?_ ?_ ?_);(exact rfl);(exact rfl);(exact rfl);(exact rfl)))
 have S5:=Lib.hid (S4.out.put 0 _ rfl [.int .i64 n,.int .i64 I] rfl)
 exact bodyPost_ret (aL qt _ 2 3 rfl _ (S5.out.get 0 _ rfl) rfl rfl rfl) rfl ⟨rfl,S5.out.bel⟩
theorem CH (w:World):Calls Tryz.prog 44 #[.pointer none] w fun e w'=>e=.returned (.tuple #[.pointer none,.int .i64 5])∧Below w.heap.size w w':=by
 go_enter Tryz.func44,Tryz.ntmps44
 go_wp2_with (go_at_call 96;(with_reducible refine (GN _).mono ?_);rintro e w1 ⟨rfl,rfl⟩)
 go_ret2
 exact ⟨rfl,Below.refl _ _⟩
end

end Go.Proofs.YtagfoogfpabdfaaGreat
set_option maxRecDepth 100000
namespace Go.Proofs.YtagfoogfpabdfaaGreat
open Go.RowKit Go.Maps
open Dk (av aa)
open Ii (Ino)
theorem sH (w:World):Calls Tryz.prog 103 #[.pointer none] w fun e w'=>e=.returned (bz 0 0)∧Below w.heap.size w w':=by
 go_enter Tryz.func103,Tryz.ntmps103
 go_wp2_with ((with_reducible refine ai (vs:=[.int .i64 0,.int .i64 0]) qt ?_ (jP 0 0) rfl (.tmp 2) (.tmp 5) rfl ?_ ?_ ?_ ?_);(exact rfl);(exact rfl);(exact rfl);(exact rfl);intro W4 hP hB2 hz2)
 exact bodyPost_ret (aC qt _ 2 rfl _ hP rfl rfl) rfl ⟨rfl,hB2⟩
theorem AO (w:World) (i:Int):Calls Tryz.prog 102 #[.pointer none,.int .i64 i] w fun e w'=>e=.returned (.tuple #[an av,.int .i64 5])∧Below w.heap.size w w':=by
 have S0:=Lib.hid (EP w)
 go_enter Tryz.func102,Tryz.ntmps102
 go_wp2_with fail
 rw [← az]
 generalize hw:World.alloc _ _=w1
 have S:Hid (Lo [] w [(w.heap.size,ab av)] w1):=Lib.hid (by rw [← hw];exact S0.out)
 clear hw S0
 go_wp2_with (first
  | (go_at_call 42;refine (kJ _).mono ?_;rintro e w1 ⟨rfl,rfl⟩)
  | ((with_reducible refine ax (S.out.aK 0 rfl aa) aa rfl (.tmp 4) (.tmp 8) rfl ?_ ?_ ?_);(simp [Act.eval]);(exact rfl)))
 have S2:=Lib.hid (S.out.Ig 0 rfl aa av aa)
 exact bodyPost_ret (aU _ 4 5 rfl _ (S2.out.aK 0 rfl aa) rfl) rfl ⟨rfl,S2.out.bel⟩
theorem AQ (w:World):Calls Tryz.prog 45 #[.pointer none] w fun e w'=>e=.returned (.int .i64 0)∧Below w.heap.size w w':=by
 have S0:=Lib.hid (Lo.start (L:=[]) w (by simp))
 have HZ:Hid (∀ w,Calls Tryz.prog 104 #[bz 0 0] w fun e w'=>e=.returned (.int .i64 0)∧Below w.heap.size w w'):=Lib.hid (fun w=>by
  have:=ed 0 0 w
  rw [if_neg (by decide)] at this
  exact this)
 have HL:Hid (av.length=64):=Lib.hid aa
 obtain ⟨zp,hzp⟩:∃ zp,zp=av:=⟨_,rfl⟩
 rw [← hzp] at HL
 have HG:Hid (∀ W,Calls Tryz.prog 102 #[.pointer none,.int .i64 0] W fun e w'=>e=.returned (.tuple #[an zp,.int .i64 5])∧Below W.heap.size W w'):=Lib.hid (fun W=>by rw [hzp];exact AO W 0)
 clear hzp
 go_enter Tryz.func45,Tryz.ntmps45
 go_wp2_with (first
  | (go_at_call 103;(with_reducible refine (sH _).mono ?_);rintro e w1 ⟨rfl,hb⟩;replace S0:=Lib.hid (S0.out.below hb);clear hb)
  | (go_at_call 104;(with_reducible refine (HZ.out _).mono ?_);rintro e w1 ⟨rfl,hb⟩;replace S0:=Lib.hid (S0.out.below hb);clear hb)
  | (go_at_call 102;refine (HG.out _).mono ?_;rintro e w1 ⟨rfl,hb⟩;replace S0:=Lib.hid (S0.out.below hb);clear hb)
  | ((with_reducible refine aq rfl (.tmp 3) (.tmp 12) rfl rfl ?_ ?_ HL.out ?_);(exact rfl);(exact rfl);intro W2 hP hB2 hz2;have S1:=Lib.hid (S0.out.made hP.rowAt hB2 hz2);clear hP hB2 hz2 S0;have S0:=Lib.hid S1.out;clear S1))
 go_ret
 exact ⟨rfl,S0.out.bel⟩
theorem yE (w:World):Calls Tryz.prog 46 #[.pointer none] w fun e w'=>e=.returned (.int .i64 0)∧Below w.heap.size w w':=by
 have S0:=Lib.hid (Lo.start (L:=[]) w (by simp))
 have hfd:∀ W:World,(Instr.field 132 (.agg #[.int .i64 0,.int .i64 0]) 1).run Tryz.prog W=.ok (.int .i64 0) W:=fun _=>by kernel_rfl
 have HP:Hid (∀ W,Calls Tryz.prog 103 #[.pointer none] W fun e w'=>e=.returned (.agg #[.int .i64 0,.int .i64 0])∧Below W.heap.size W w'):=Lib.hid (fun W=>sH W)
 go_enter Tryz.func46,Tryz.ntmps46
 go_wp2_with fail
 go_loopw [3,4] (fun t i wr=>t=.int .i64 0∧i=.int .i64 1∧Lo [] w [] wr) (fun _ _ _=>0)
 case atStart=>exact ⟨rfl,rfl,S0.out⟩
 case round=>
  obtain ⟨rfl,rfl,hS⟩:=hrel
  have S:=Lib.hid hS
  go_wp2_with (go_at_call 103;refine (HP.out _).mono ?_;rintro e w1 ⟨rfl,hb⟩;replace S:=Lib.hid (S.out.below hb);clear hb)
  go_ret
  exact ⟨rfl,S.out.bel⟩
theorem vV (w:World):Calls Tryz.prog 18 #[.pointer none] w fun e w'=>e=.returned (.int .i64 0)∧Below w.heap.size w w':=by
 have S0:=Lib.hid (Lo.start (L:=[]) w (by simp))
 go_enter Tryz.func18,Tryz.ntmps18
 go_wp2_with (first
  | (go_at_call 20;refine (gr _).mono ?_;rintro e w1 ⟨rfl,rfl⟩)
  | (go_at_call 45;refine (AQ _).mono ?_;rintro e w1 ⟨rfl,hb⟩;replace S0:=Lib.hid (S0.out.below hb);clear hb))
 go_ret
 exact ⟨rfl,S0.out.bel⟩
theorem rQ (w:World):Calls Tryz.prog 19 #[.pointer none] w fun e w'=>e=.returned (.int .i64 0)∧Below w.heap.size w w':=by
 have S0:=Lib.hid (Lo.start (L:=[]) w (by simp))
 go_enter Tryz.func19,Tryz.ntmps19
 go_wp2_with (first
  | (go_at_call 20;refine (gr _).mono ?_;rintro e w1 ⟨rfl,rfl⟩)
  | (go_at_call 46;refine (yE _).mono ?_;rintro e w1 ⟨rfl,hb⟩;replace S0:=Lib.hid (S0.out.below hb);clear hb))
 go_ret
 exact ⟨rfl,S0.out.bel⟩
theorem Jh (w:World):Calls Tryz.prog 41 #[.pointer none] w fun e w'=>e=.returned (.int .i64 5)∧w=w':=by
 go_enter Tryz.func41,Tryz.ntmps41
 go_wp2_with (first
  | (go_at_call 20;refine (gr _).mono ?_;rintro e w1 ⟨rfl,rfl⟩)
  | (go_at_call 94;refine (AM _).mono ?_;rintro e w1 ⟨rfl,rfl⟩))
 go_ret
 exact ⟨rfl,rfl⟩
theorem yK (w:World):Calls Tryz.prog 16 #[.pointer none] w fun e w'=>e=.returned (.tuple #[.pointer none,.int .i64 5])∧Below w.heap.size w w':=by
 have S0:=Lib.hid (Lo.start (L:=[]) w (by simp))
 go_enter Tryz.func16,Tryz.ntmps16
 go_wp2_with (go_at_call 44;refine (CH _).mono ?_;rintro e w1 ⟨rfl,hb⟩;replace S0:=Lib.hid (S0.out.below hb);clear hb)
 go_ret2
 exact ⟨rfl,S0.out.bel⟩
end Go.Proofs.YtagfoogfpabdfaaGreat

namespace Go.Proofs.YtagfoogfpabdfaaGreat
end Go.Proofs.YtagfoogfpabdfaaGreat
