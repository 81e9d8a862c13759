/-
  Regions that draw their order: what is held may be made more on the way; two calls that come up in either order are one step. No program is named here.
-/
import Derived.Test.YtdmcicgappgiiaaG0
namespace Go.Proofs.Ytdmcicgappgiiaa
open Go.RowKit

section
variable {P : Program} {md : Region.Mode} {ops : Array Oper} {Q : Exit → Act → World → Prop} {S S' : World → Prop}
theorem held_up (h : ∀ w, S' w → S w) : ∀ {fuel : Nat} {listed : Array Bool} {a : Act} {w : World}, wpAnyH P md ops Q S' fuel listed a w → wpAnyH P md ops Q S fuel listed a w
  | 0, _, _, _, H => H
  | _ + 1, _, _, _, H => ⟨H.1, fun i hi => wpOp_mono (fun _ _ h' => ⟨h _ h'.1, held_up h h'.2⟩) (H.2 i hi)⟩
/-- one call, that comes up in this frame -/
theorem call_step {i : Nat} {oi : Oper} {f : FuncId} {args : Array Value} {a : Act} {w : World} {K : Act → World → Prop} {V : Value → World → Prop} (hi : ops[i]? = some oi) (hw : Region.wanted oi (yielded ops a.tmps) = true)
    (e : ∀ w, (execOp a.eval oi).run P w = .ok (.enter f args) w) (c : Calls P f args w fun e w'' => ∃ v, e = .returned v ∧ V v w'' ∧ Chg [] w w'')
    (h : ∀ v w', V v w' → Chg [] w w' → K (a.put oi.dst v) w') : wpOp P ops Q i K a w := by
  unfold wpOp
  simp only [hi, hw, if_true]
  refine .inl ?_
  unfold Oper.wp
  rw [e]
  exact c.mono fun e w' ⟨v, he, hv, hc⟩ => by subst he; exact h v w' hv hc
/-- two calls in either order: their values, and what is known of them, whichever came first -/
theorem two_calls (i j : Nat) (d e : Option Tmp) (Vi Vj : Value → World → Prop) {oi oj : Oper} {fi fj : FuncId} {ai aj : Array Value} {fuel : Nat} {listed : Array Bool} {a : Act} {w : World}
    (hi : ops[i]? = some oi) (hj : ops[j]? = some oj) (hd : oi.dst = d) (he : oj.dst = e) (hr : Region.ready md ops listed = [i, j]) (hri : Region.ready md ops (listed.setIfInBounds i true) = [j]) (hrj : Region.ready md ops (listed.setIfInBounds j true) = [i])
    (hne : i ≠ j) (hap : oi.apart ops oj = true) (hns : Region.noSelect ops = true) (hwi : Region.wanted oi (yielded ops a.tmps) = true) (hwj : Region.wanted oj (yielded ops a.tmps) = true)
    (ei : ∀ w, (execOp a.eval oi).run P w = .ok (.enter fi ai) w) (ej : ∀ w, (execOp a.eval oj).run P w = .ok (.enter fj aj) w)
    (hS : ∀ w', Chg [] w w' → S w')
    (ci : ∀ w', Chg [] w w' → Calls P fi ai w' fun e w'' => ∃ v, e = .returned v ∧ Vi v w'' ∧ Chg [] w' w'') (cj : ∀ w', Chg [] w w' → Calls P fj aj w' fun e w'' => ∃ v, e = .returned v ∧ Vj v w'' ∧ Chg [] w' w'')
    (si : ∀ v w' w'', Vi v w' → Chg [] w' w'' → Vi v w'') (sj : ∀ v w' w'', Vj v w' → Chg [] w' w'' → Vj v w'')
    (h : ∀ vi vj w', Chg [] w w' → Vi vi w' → Vj vj w' → wpAnyH P md ops Q S fuel ((listed.setIfInBounds i true).setIfInBounds j true) ((a.put d vi).put e vj) w') :
    wpAnyH P md ops Q S (fuel + 2) listed a w := by
  subst hd; subst he
  obtain ⟨h1, h2, h3⟩ := Oper.apart_spec hap
  have hsi := fun cs b => Region.noSelect_spec hns i oi cs b hi
  have hsj := fun cs b => Region.noSelect_spec hns j oj cs b hj
  refine wpAnyH_all hr (by simp) fun x hx => ?_
  simp only [List.mem_cons, List.not_mem_nil, or_false] at hx
  rcases hx with rfl | rfl
  · refine call_step hi hwi ei (ci w (Chg.refl _ _)) fun v w' hv hc => ⟨hS _ hc, ?_⟩
    refine wpAnyH_all hri (by simp) fun y hy => ?_
    simp only [List.mem_cons, List.not_mem_nil, or_false] at hy
    subst hy
    refine call_step hj (by rw [wanted_put oj a oi.dst v h1]; exact hwj) (fun w => by rw [execOp_put oj hsj a oi.dst v h1]; exact ej w) (cj w' hc) fun u w'' hu hc' => ⟨hS _ (hc.trans hc' (by simp)), ?_⟩
    exact h v u w'' (hc.trans hc' (by simp)) (si _ _ _ hv hc') hu
  · refine call_step hj hwj ej (cj w (Chg.refl _ _)) fun u w' hu hc => ⟨hS _ hc, ?_⟩
    refine wpAnyH_all hrj (by simp) fun y hy => ?_
    simp only [List.mem_cons, List.not_mem_nil, or_false] at hy
    subst hy
    refine call_step hi (by rw [wanted_put oi a oj.dst u h3]; exact hwi) (fun w => by rw [execOp_put oi hsi a oj.dst u h3]; exact ei w) (ci w' hc) fun v w'' hv hc' => ⟨hS _ (hc.trans hc' (by simp)), ?_⟩
    have := h v u w'' (hc.trans hc' (by simp)) hv (sj _ _ _ hu hc')
    rw [Act.put_comm a v u h2, Array.setIfInBounds_comm _ _ hne] at this
    exact this
end

end Go.Proofs.Ytdmcicgappgiiaa
