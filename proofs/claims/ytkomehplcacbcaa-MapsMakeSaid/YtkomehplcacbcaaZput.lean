/-
  Put: a key's value is set.
-/
import Derived.Test.YtkomehplcacbcaaZput1
import Derived.Test.YtkomehplcacbcaaZput2
import Derived.Test.YtkomehplcacbcaaZput3
namespace Go.Proofs.Ytkomehplcacbcaa
open Go.RowKit Go.Maps

/-- Put, in one -/
theorem put_any (lru : Bool) (base b : Nat) (sv : Value) (room : Nat) (l : List Z.En) (x : Z.En) (w : World) (h : MpAt 62 (kd lru) w base b sv room l) (hn : l.length ≤ room) (hr1 : 1 ≤ room) (hr : room ≤ 1000) (hbase : base ≤ w.heap.size) :
    Calls Try.prog 10 #[.pointer (some ⟨b, 0, none⟩), .int .i64 x.key, .agg #[.int .i64 x.a, .int .i64 x.b, .int .i64 x.c, .int .i64 x.d]] w fun e w' => e = .returned (.int .i64 (Z.putC lru room l x)) ∧ ∃ sv', MpTo 62 (kd lru) w base b sv room (Z.putI lru room l x) w' sv' := by
  unfold Z.putC Z.putI
  cases hp : Z.pos x.key l with
  | some i =>
    cases lru with
    | false => exact put_there_hash base b sv room l x i w h hp (by omega) hbase
    | true => exact put_there_lru base b sv room l x i w h hp (by omega) hbase
  | none =>
    by_cases hf : l.length = room
    · simp only [hf, if_true]
      cases lru with
      | false => exact put_hash_full base b sv room l x w h hp (by omega) hf hr1 hbase
      | true => exact put_lru_full base b sv room l x w h hp (by omega) hf hr1 hbase
    · simp only [hf, if_false]
      cases lru with
      | false => exact put_hash_room base b sv room l x w h hp (by omega) (by omega) hr1 hbase
      | true => exact put_lru_room base b sv room l x w h hp (by omega) (by omega) hr1 hbase
end Go.Proofs.Ytkomehplcacbcaa
