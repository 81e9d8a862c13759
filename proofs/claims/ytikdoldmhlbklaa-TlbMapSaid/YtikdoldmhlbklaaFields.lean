/-
  When two structs are the same: field by field.
-/
import Derived.Test.YtikdoldmhlbklaaProg
import Derived.Test.YtikdoldmhlbklaaLib
import Derived.Laws.StructEq
namespace Go.Proofs.Ytikdoldmhlbklaa
open Go.RowKit

theorem part_bool (w : World) (t : TypeId) (ht : Try.prog.underlying t = some .bool) (xs : Array Value) (i : Nat) (b : Bool) (h : xs[i]? = some (.bool b)) : (part t xs i).run Try.prog w = .ok (.bool b) w := by
  simp [part, isAgg, run_underlying ht, h]
theorem part_int (w : World) (t : TypeId) (k : IntKind) (ht : Try.prog.underlying t = some (.int k)) (xs : Array Value) (i : Nat) (b : Int) (h : xs[i]? = some (.int k b)) : (part t xs i).run Try.prog w = .ok (.int k b) w := by
  simp [part, isAgg, run_underlying ht, h]

theorem fields_nil {d : Nat} {xs ys : Array Value} {w : World} : (Op.eqFields d xs ys []).run Try.prog w = .ok true w := by simp [Op.eqFields]
theorem fields_step {d : Nat} {xs ys : Array Value} {w : World} {f : Field} {fs : List Field} {x y : Value} {c r : Bool} (hn : f.name ≠ "_") (hx : (part f.type xs f.offset).run Try.prog w = .ok x w) (hy : (part f.type ys f.offset).run Try.prog w = .ok y w)
    (he : (Op.equalIn d f.type x y).run Try.prog w = .ok c w) (h : (Op.eqFields d xs ys fs).run Try.prog w = .ok r w) : (Op.eqFields d xs ys (f :: fs)).run Try.prog w = .ok (c && r) w := by
  simp only [Op.eqFields, if_pos hn, Sem.run_bind, hx, hy, he, Result.andThen_ok]
  cases c
  · simp
  · simpa using h
theorem fields_bool {d : Nat} {xs ys : Array Value} {w : World} {f : Field} {fs : List Field} {a b r : Bool} (hn : f.name ≠ "_") (ht : f.type = 4) (hx : (part 4 xs f.offset).run Try.prog w = .ok (.bool a) w) (hy : (part 4 ys f.offset).run Try.prog w = .ok (.bool b) w)
    (h : (Op.eqFields (d + 1) xs ys fs).run Try.prog w = .ok r w) : (Op.eqFields (d + 1) xs ys (f :: fs)).run Try.prog w = .ok (a == b && r) w :=
  fields_step hn (ht ▸ hx) (ht ▸ hy) (run_equalIn_bool' w d _ a b (ht ▸ Try.underlying4)) h
theorem fields_int {d : Nat} {xs ys : Array Value} {w : World} {f : Field} {fs : List Field} {a b : Int} {k : IntKind} (hu : Try.prog.underlying 3 = some (.int k)) (hn : f.name ≠ "_") (ht : f.type = 3) (hx : (part 3 xs f.offset).run Try.prog w = .ok (.int k a) w) (hy : (part 3 ys f.offset).run Try.prog w = .ok (.int k b) w)
    (h : (Op.eqFields (d + 1) xs ys fs).run Try.prog w = .ok true w) : (Op.eqFields (d + 1) xs ys (f :: fs)).run Try.prog w = .ok (a == b) w := by
  have := fields_step hn (ht ▸ hx) (ht ▸ hy) (run_equalIn_int w d _ k k a b (ht ▸ hu)) h
  simpa using this

theorem fields_last {d : Nat} {xs ys : Array Value} {w : World} {f : Field} {fs : List Field} {a b : Bool} (hn : f.name ≠ "_") (ht : f.type = 4) (hx : (part 4 xs f.offset).run Try.prog w = .ok (.bool a) w) (hy : (part 4 ys f.offset).run Try.prog w = .ok (.bool b) w)
    (h : (Op.eqFields (d + 1) xs ys fs).run Try.prog w = .ok true w) : (Op.eqFields (d + 1) xs ys (f :: fs)).run Try.prog w = .ok (a == b) w := by
  have := fields_bool hn ht hx hy h
  simpa using this

end Go.Proofs.Ytikdoldmhlbklaa
