/-
  The contract of pte.Put for every entry; a word, used; when two entries are the same.
-/
import Derived.Test.YtgmdnglododhfaaPteW
import Derived.Laws.StructEq
namespace Go.Proofs.Ytgmdnglododhfaa
open Go.RowKit

/-- two entries are the same -/
def Ent.eqb (a b : Ent) : Bool := a.p == b.p && (a.w == b.w && (a.u == b.u && (a.a == b.a && (a.d == b.d && (a.s == b.s && (a.n == b.n && (a.bad == b.bad && a.f == b.f)))))))
theorem eqb_iff (a b : Ent) : a.eqb b = true ↔ a = b := by
  simp only [Ent.eqb, Bool.and_eq_true, beq_iff_eq]
  constructor
  · rintro ⟨h1, h2, h3, h4, h5, h6, h7, h8, h9⟩; exact Ent.ext_ h1 h2 h3 h4 h5 h6 h7 h8 h9
  · rintro rfl; simp
theorem eqb_self (a : Ent) : a.eqb a = true := (eqb_iff a a).2 rfl
theorem eqb_false {a b : Ent} (h : a ≠ b) : a.eqb b = false := by rw [← Bool.not_eq_true, eqb_iff]; exact h

theorem part_bool (w : World) (t : TypeId) (ht : Try.prog.underlying t = some .bool) (xs : Array Value) (i : Nat) (b : Bool) (h : xs[i]? = some (.bool b)) : (part t xs i).run Try.prog w = .ok (.bool b) w := by
  simp [part, isAgg, run_underlying ht, h]
theorem part_int (w : World) (t : TypeId) (k : IntKind) (ht : Try.prog.underlying t = some (.int k)) (xs : Array Value) (i : Nat) (b : Int) (h : xs[i]? = some (.int k b)) : (part t xs i).run Try.prog w = .ok (.int k b) w := by
  simp [part, isAgg, run_underlying ht, h]

theorem fields_nil {d : Nat} {xs ys : Array Value} {w : World} : (Op.eqFields d xs ys []).run Try.prog w = .ok true w := by simp [Op.eqFields]
theorem fields_step {d : Nat} {xs ys : Array Value} {w : World} {f : Field} {fs : List Field} {x y : Value} {c r : Bool} (hn : f.name ≠ "_") (hx : (part f.type xs f.offset).run Try.prog w = .ok x w) (hy : (part f.type ys f.offset).run Try.prog w = .ok y w)
    (he : (Op.equalIn d f.type x y).run Try.prog w = .ok c w) (h : (Op.eqFields d xs ys fs).run Try.prog w = .ok r w) : (Op.eqFields d xs ys (f :: fs)).run Try.prog w = .ok (c && r) w := by
  simp only [Op.eqFields, if_pos hn, Sem.run_bind, hx, hy, he, Result.andThen_ok]
  cases c
  · simp
  · simpa using h
theorem fields_bool {d : Nat} {xs ys : Array Value} {w : World} {f : Field} {fs : List Field} {a b r : Bool} (hn : f.name ≠ "_") (ht : f.type = 4) (hx : (part 4 xs f.offset).run Try.prog w = .ok (.bool a) w) (hy : (part 4 ys f.offset).run Try.prog w = .ok (.bool b) w)
    (h : (Op.eqFields (d + 1) xs ys fs).run Try.prog w = .ok r w) : (Op.eqFields (d + 1) xs ys (f :: fs)).run Try.prog w = .ok (a == b && r) w :=
  fields_step hn (ht ▸ hx) (ht ▸ hy) (run_equalIn_bool' w d _ a b (ht ▸ Try.underlying4)) h
theorem fields_int {d : Nat} {xs ys : Array Value} {w : World} {f : Field} {fs : List Field} {a b : Int} {k : IntKind} (hu : Try.prog.underlying 3 = some (.int k)) (hn : f.name ≠ "_") (ht : f.type = 3) (hx : (part 3 xs f.offset).run Try.prog w = .ok (.int k a) w) (hy : (part 3 ys f.offset).run Try.prog w = .ok (.int k b) w)
    (h : (Op.eqFields (d + 1) xs ys fs).run Try.prog w = .ok true w) : (Op.eqFields (d + 1) xs ys (f :: fs)).run Try.prog w = .ok (a == b) w := by
  have := fields_step hn (ht ▸ hx) (ht ▸ hy) (run_equalIn_int w d _ k k a b (ht ▸ hu)) h
  simpa using this

set_option maxRecDepth 100000 in
theorem run_eqE (a b : Ent) (w : World) : (binOp .eql 24 (.agg a.cs) (.agg b.cs)).run Try.prog w = .ok (.bool (a.eqb b)) w := by
  have h : (Op.equalIn 10000 24 (.agg a.cs) (.agg b.cs)).run Try.prog w = .ok (a.eqb b) w := by
    rw [run_equalIn_struct w 9999 _ _ _ (by kernel_rfl) (by kernel_rfl)]
    simp only [Program.fieldsOf, Try.underlying24]
    exact (fields_bool (by decide) rfl (part_bool w _ Try.underlying4 a.cs 0 a.p rfl) (part_bool w _ Try.underlying4 b.cs 0 b.p rfl) (fields_bool (by decide) rfl (part_bool w _ Try.underlying4 a.cs 1 a.w rfl) (part_bool w _ Try.underlying4 b.cs 1 b.w rfl) (fields_bool (by decide) rfl (part_bool w _ Try.underlying4 a.cs 2 a.u rfl) (part_bool w _ Try.underlying4 b.cs 2 b.u rfl) (fields_bool (by decide) rfl (part_bool w _ Try.underlying4 a.cs 3 a.a rfl) (part_bool w _ Try.underlying4 b.cs 3 b.a rfl) (fields_bool (by decide) rfl (part_bool w _ Try.underlying4 a.cs 4 a.d rfl) (part_bool w _ Try.underlying4 b.cs 4 b.d rfl) (fields_bool (by decide) rfl (part_bool w _ Try.underlying4 a.cs 5 a.s rfl) (part_bool w _ Try.underlying4 b.cs 5 b.s rfl) (fields_bool (by decide) rfl (part_bool w _ Try.underlying4 a.cs 6 a.n rfl) (part_bool w _ Try.underlying4 b.cs 6 b.n rfl) (fields_bool (by decide) rfl (part_bool w _ Try.underlying4 a.cs 7 a.bad rfl) (part_bool w _ Try.underlying4 b.cs 7 b.bad rfl) (fields_int Try.underlying3 (by decide) rfl (part_int w _ .i64 Try.underlying3 a.cs 8 a.f rfl) (part_int w _ .i64 Try.underlying3 b.cs 8 b.f rfl) fields_nil)))))))))
  rw [run_eql_struct, h]; rfl
theorem run_neE (a b : Ent) (w : World) : (binOp .neq 24 (.agg a.cs) (.agg b.cs)).run Try.prog w = .ok (.bool (!a.eqb b)) w := by
  have h : (Op.equalIn 10000 24 (.agg a.cs) (.agg b.cs)).run Try.prog w = .ok (a.eqb b) w := by
    rw [run_equalIn_struct w 9999 _ _ _ (by kernel_rfl) (by kernel_rfl)]
    simp only [Program.fieldsOf, Try.underlying24]
    exact (fields_bool (by decide) rfl (part_bool w _ Try.underlying4 a.cs 0 a.p rfl) (part_bool w _ Try.underlying4 b.cs 0 b.p rfl) (fields_bool (by decide) rfl (part_bool w _ Try.underlying4 a.cs 1 a.w rfl) (part_bool w _ Try.underlying4 b.cs 1 b.w rfl) (fields_bool (by decide) rfl (part_bool w _ Try.underlying4 a.cs 2 a.u rfl) (part_bool w _ Try.underlying4 b.cs 2 b.u rfl) (fields_bool (by decide) rfl (part_bool w _ Try.underlying4 a.cs 3 a.a rfl) (part_bool w _ Try.underlying4 b.cs 3 b.a rfl) (fields_bool (by decide) rfl (part_bool w _ Try.underlying4 a.cs 4 a.d rfl) (part_bool w _ Try.underlying4 b.cs 4 b.d rfl) (fields_bool (by decide) rfl (part_bool w _ Try.underlying4 a.cs 5 a.s rfl) (part_bool w _ Try.underlying4 b.cs 5 b.s rfl) (fields_bool (by decide) rfl (part_bool w _ Try.underlying4 a.cs 6 a.n rfl) (part_bool w _ Try.underlying4 b.cs 6 b.n rfl) (fields_bool (by decide) rfl (part_bool w _ Try.underlying4 a.cs 7 a.bad rfl) (part_bool w _ Try.underlying4 b.cs 7 b.bad rfl) (fields_int Try.underlying3 (by decide) rfl (part_int w _ .i64 Try.underlying3 a.cs 8 a.f rfl) (part_int w _ .i64 Try.underlying3 b.cs 8 b.f rfl) fields_nil)))))))))
  rw [run_neq_struct, h]; rfl

/-- the word v, used -/
def usedN (v : Nat) (t : Bool) : Nat := (if t then v ||| 64 else v) ||| 32
theorem usedN_lt {v : Nat} (t : Bool) (hv : v < 18446744073709551616) : usedN v t < 18446744073709551616 := by
  refine Nat.or_lt_two_pow (n := 64) ?_ (by decide)
  split
  · exact Nat.or_lt_two_pow (n := 64) hv (by decide)
  · exact hv
theorem or_lt {v n : Nat} (hv : v < 18446744073709551616) (hn : n < 18446744073709551616) : v ||| n < 18446744073709551616 := Nat.or_lt_two_pow (n := 64) hv hn

/-- the word that is put -/
def putV (e : Ent) : Nat := if e.ok then putK e 7 else 0
theorem putV_ok {e : Ent} (h : e.ok = true) : putV e = putK e 7 := by simp [putV, h]
theorem putV_no {e : Ent} (h : e.ok = false) : putV e = 0 := by simp [putV, h]
theorem putV_lt (e : Ent) : putV e < 18446744073709551616 := by
  cases h : e.ok
  · rw [putV_no h]; decide
  · rw [putV_ok h]; exact putK_lt e 7 (ok_parts h).2.2
theorem Put_at (e : Ent) (w : World) : Calls Try.prog 10 #[.agg e.cs] w fun x w' => x = .returned (.tuple #[.int .u64 (putV e : Nat), .bool e.ok]) ∧ Chg [] w w' := by
  cases h : e.ok
  · rw [putV_no h]; exact Put_no e w h
  · rw [putV_ok h]; exact Put_yes e w h
end Go.Proofs.Ytgmdnglododhfaa
