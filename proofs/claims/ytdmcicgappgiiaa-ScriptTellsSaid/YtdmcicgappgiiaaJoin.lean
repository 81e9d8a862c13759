/-
  Operations that are guarded by what is not known: whether they are done or not, the walk goes on once, with what they yield known if they were done. No program is named here.
-/
import Derived.Test.YtdmcicgappgiiaaG0
namespace Go.Proofs.Ytdmcicgappgiiaa
open Go.RowKit

section
variable {P : Program} {ops : Array Oper} {Q : Exit → Act → World → Prop} {a : Act} {w : World} {rest : List Oper} {o : Oper}
theorem join_val (d : Option Tmp) (hd : o.dst = d) (z : Bool) (v0 : Value) (hw : Region.wanted o (yielded ops a.tmps) = z) (h1 : z = true → (execOp a.eval o).run P w = .ok (.value v0) w)
    (h : ∀ v, (z = true → v = v0) → wpList P ops Q rest (a.put d v) w) : wpList P ops Q (o :: rest) a w := by
  subst hd
  unfold wpList
  cases z with
  | true => rw [if_pos hw]; left; unfold Oper.wp; rw [h1 rfl]; exact h v0 (fun _ => rfl)
  | false => rw [if_neg (by rw [hw]; simp)]; exact h undef (fun e => by cases e)
/-- a call that changes nothing -/
theorem join_call (d : Option Tmp) (hd : o.dst = d) (z : Bool) (v0 : Value) (f : FuncId) (args : Array Value) (hw : Region.wanted o (yielded ops a.tmps) = z) (h1 : z = true → (execOp a.eval o).run P w = .ok (.enter f args) w)
    (hc : z = true → Calls P f args w fun e w' => e = .returned v0 ∧ w = w') (h : ∀ v, (z = true → v = v0) → wpList P ops Q rest (a.put d v) w) : wpList P ops Q (o :: rest) a w := by
  subst hd
  unfold wpList
  cases z with
  | true =>
    rw [if_pos hw]; left
    unfold Oper.wp
    rw [h1 rfl]
    exact (hc rfl).mono fun e w' ⟨he, hw'⟩ => by subst he; subst hw'; exact h v0 (fun _ => rfl)
  | false => rw [if_neg (by rw [hw]; simp)]; exact h undef (fun e => by cases e)
/-- a call that makes memory -/
theorem join_callM (d : Option Tmp) (hd : o.dst = d) (z : Bool) (v0 : Value) (f : FuncId) (args : Array Value) (hw : Region.wanted o (yielded ops a.tmps) = z) (h1 : z = true → (execOp a.eval o).run P w = .ok (.enter f args) w)
    (hc : z = true → Calls P f args w fun e w' => e = .returned v0 ∧ Chg [] w w') (h : ∀ v w', (z = true → v = v0) → Chg [] w w' → wpList P ops Q rest (a.put d v) w') : wpList P ops Q (o :: rest) a w := by
  subst hd
  unfold wpList
  cases z with
  | true =>
    rw [if_pos hw]; left
    unfold Oper.wp
    rw [h1 rfl]
    exact (hc rfl).mono fun e w' ⟨he, hw'⟩ => by subst he; exact h v0 w' (fun _ => rfl) hw'
  | false => rw [if_neg (by rw [hw]; simp)]; exact h undef w (fun e => by cases e) (Chg.refl [] w)
end

end Go.Proofs.Ytdmcicgappgiiaa
