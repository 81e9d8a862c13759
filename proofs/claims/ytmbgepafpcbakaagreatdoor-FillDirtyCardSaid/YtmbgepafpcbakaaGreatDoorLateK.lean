/-
 A region that draws its order and whose last operation writes a cell that the others read: what is held of the worlds is held up to that operation alone. No program is named here.
-/
import Derived.Test.YtmbgepafpcbakaaGreatDoorG0K
namespace Go.Proofs.YtmbgepafpcbakaaGreatDoor
open Go.RowKit
section
variable {P : Program} {md : Region.Mode} {ops : Array Oper} {Q : Exit → Act → World → Prop} {S : World → Prop} {Z : Nat}
def Late (P : Program) (md : Region.Mode) (ops : Array Oper) (Q : Exit → Act → World → Prop) (S : World → Prop) (Z : Nat) : Nat → Array Bool → Act → World → Prop
 | 0, l, a, w => Region.ready md ops l = [] ∧ Q .normal a w
 | k + 1, l, a, w => (Region.ready md ops l = [] → Q .normal a w) ∧ ∀ j ∈ Region.ready md ops l, wpOp P ops Q j (fun a' w' => (j ≠ Z → S w') ∧ Late P md ops Q S Z k (l.setIfInBounds j true) a' w') a w
theorem Late.any : ∀ (k : Nat) (l : Array Bool) (a : Act) (w : World), Late P md ops Q S Z k l a w → wpAny P md ops Q k l a w
 | 0, _, _, _, h => h
 | k + 1, _, _, _, h => ⟨h.1, fun j hj => wpOp_mono (fun a' w' h' => Late.any k _ a' w' h'.2) (h.2 j hj)⟩
theorem late_region {id : Nat} {a : Act} {w : World} (hm : P.follows .mixedOrders = true) (hS : S w.drew) (h : S w.drew → Late P .any ops Q S Z ops.size (Array.replicate ops.size false) a w.drew) : (Code.region id ops true).wp P Q a w :=
 wp_region_any hm (Late.any _ _ _ _ (h hS))
theorem late_done {l : Array Bool} {a : Act} {w : World} (hr : Region.ready md ops l = []) (h : Q .normal a w) : ∀ k, Late P md ops Q S Z k l a w
 | 0 => ⟨hr, h⟩
 | _ + 1 => ⟨fun _ => h, by rw [hr]; simp⟩
theorem not_yet {i : Nat} {l : Array Bool} (hz : (ops[Z]?.any fun o => o.after.any fun e => Region.binds md e && e.on == i) = true) (hr : i ∈ Region.ready md ops l) {j : Nat} (hj : j ∈ Region.ready md ops l) : j ≠ Z := by
 rintro rfl
 obtain ⟨_, o, ho, hall⟩ := mem_ready.1 hj
 rw [ho, Option.any_some] at hz
 obtain ⟨e, he, hb⟩ := Array.any_eq_true'.1 hz
 rw [Bool.and_eq_true, beq_iff_eq] at hb
 have h1 := hall e he hb.1
 have h0 := (mem_ready.1 hr).1
 rw [hb.2] at h1
 rcases Nat.lt_or_ge i l.size with h' | h'
 ·simp [h'] at h0 h1; rw [h0] at h1; cases h1
 simp [Array.getElem?_eq_none h'] at h1
theorem late_ahead {i : Nat} {oi : Oper} {v : Value} (hi : ops[i]? = some oi) (hs : Region.noSelect ops = true) (hQ : ∀ c a w, Q (.panic c) (a.put oi.dst v) w → Q (.panic c) a w)
  (hz : (ops[Z]?.any fun o => o.after.any fun e => Region.binds md e && e.on == i) = true) :
  ∀ (k : Nat) (l : Array Bool) (a : Act) (w : World), (∀ j oj, ops[j]? = some oj → j ≠ i → l.getD j true = false → (∀ e ∈ oj.after, Region.binds md e = true → e.on ≠ i) → oi.apart ops oj = true) →
   i ∈ Region.ready md ops l → YieldsIf P ops S oi v a → S w → Late P md ops Q S Z k (l.setIfInBounds i true) (a.put oi.dst v) w → Late P md ops Q S Z (k + 1) l a w := by
 intro k
 induction k with
 | zero =>
  intro l a w _ hr hy hS H
  refine ⟨fun e => absurd hr (by rw [e]; simp), fun j hj => ?_⟩
  by_cases e : j = i
  ·subst e; exact hy.wpOp hi hS ⟨fun _ => hS, H⟩
  exact absurd (ready_mono hj e) (by rw [H.1]; simp)
 | succ k ih =>
  intro l a w hf hr hy hS H
  refine ⟨fun e => absurd hr (by rw [e]; simp), fun j hj => ?_⟩
  by_cases e : j = i
  ·subst e; exact hy.wpOp hi hS ⟨fun _ => hS, H⟩
  have hjZ := not_yet hz hr hj
  obtain ⟨hun, oj, hoj, hall⟩ := mem_ready.1 hj
  have hno : ∀ x ∈ oj.after, Region.binds md x = true → x.on ≠ i := fun x hx hb he => by
   have h1 := hall x hx hb
   have h0 := (mem_ready.1 hr).1
   rw [he] at h1
   rcases Nat.lt_or_ge i l.size with h' | h'
   ·simp [h'] at h0 h1; rw [h0] at h1; cases h1
   simp [Array.getElem?_eq_none h'] at h1
  have h2 := wpOp_putIf hoj (hf j oj hoj e hun hno) (fun cs b => Region.noSelect_spec hs i oi cs b hi) (fun cs b => Region.noSelect_spec hs j oj cs b hoj) hQ hy (H.2 j (ready_mono hj e))
  refine wpOp_mono (fun a' w' h3 => ⟨h3.2.1, ih (l.setIfInBounds j true) a' w' (fun x ox hx hxi hxu hxn => hf x ox hx hxi ?_ hxn) (ready_mono hr (Ne.symm e)) h3.1 (h3.2.1 hjZ) ?_⟩) h2
  ·by_cases e2 : j = x
   ·subst e2; exact hun
   rw [getD_set_ne true e2] at hxu; exact hxu
  rw [Array.setIfInBounds_comm _ _ e]; exact h3.2.2
theorem late_on (i : Nat) (d : Option Tmp) {oi : Oper} {v : Value} {k : Nat} {l : Array Bool} {a : Act} {w : World} (hi : ops[i]? = some oi) (hd : oi.dst = d) (hs : Region.noSelect ops = true) (hf : Region.free md ops l i = true) (hr : (Region.ready md ops l).contains i = true)
  (hz : (ops[Z]?.any fun o => o.after.any fun e => Region.binds md e && e.on == i) = true) (hQ : ∀ c a w, Q (.panic c) (a.put oi.dst v) w → Q (.panic c) a w) (hw : Region.wanted oi (yielded ops a.tmps) = true) (hS : S w) (hy : ∀ w, S w → (execOp a.eval oi).run P w = .ok (.value v) w)
  (h : Late P md ops Q S Z k (l.setIfInBounds i true) (a.put d v) w) : Late P md ops Q S Z (k + 1) l a w :=
 late_ahead hi hs hQ hz k l a w (Region.free_spec hi hf) (by simpa using hr) (.inl ⟨hw, hy⟩) hS (hd ▸ h)
def AllLate (P : Program) (md : Region.Mode) (ops : Array Oper) (Q : Exit → Act → World → Prop) (S : World → Prop) (Z k : Nat) (l : Array Bool) (a : Act) (w : World) (rs : List Nat) : Prop :=
 ∀ j ∈ rs, wpOp P ops Q j (fun a' w' => (j ≠ Z → S w') ∧ Late P md ops Q S Z k (l.setIfInBounds j true) a' w') a w
theorem AllLate.nil {k : Nat} {l : Array Bool} {a : Act} {w : World} : AllLate P md ops Q S Z k l a w [] := fun _ h => by cases h
theorem AllLate.cons {k : Nat} {l : Array Bool} {a : Act} {w : World} {j : Nat} {o : Oper} {rs : List Nat} (ho : ops[j]? = some o)
  (h : ∀ K' : Act → World → Prop, Shut (∀ a w, (j ≠ Z → S w) → Late P md ops Q S Z k (l.setIfInBounds j true) a w → K' a w) → if Region.wanted o (yielded ops a.tmps) = true then Oper.wp P o a w K' Q else K' (a.put o.dst undef) w)
  (hs : AllLate P md ops Q S Z k l a w rs) : AllLate P md ops Q S Z k l a w (j :: rs) := fun x hx => by
 rcases List.mem_cons.1 hx with rfl | hx
 ·exact wpOp_step ho fun K' hK => h K' fun a w h1 h2 => hK a w ⟨h1, h2⟩
 exact hs x hx
theorem late_ready {rs : List Nat} {k : Nat} {l : Array Bool} {a : Act} {w : World} (hr : Region.ready md ops l = rs) (hne : rs ≠ []) (h : AllLate P md ops Q S Z k l a w rs) : Late P md ops Q S Z (k + 1) l a w :=
 ⟨fun h0 => absurd (hr ▸ h0) hne, hr ▸ h⟩
end
section
variable {P : Program} {md : Region.Mode} {ops : Array Oper} {Q : Exit → Act → World → Prop} {S : World → Prop} {Z k : Nat} {l : Array Bool} {a : Act} {w : World}
theorem lk (i d : Nat) (v : Value) {oi : Oper} (hy : ∀ w, S w → (execOp a.eval oi).run P w = .ok (.value v) w) (h : Late P md ops Q S Z k (l.setIfInBounds i true) (a.put (some d) v) w) (hi : ops[i]? = some oi := by exact rfl) (hd : oi.dst = some d := by exact rfl)
    (hs : Region.noSelect ops = true := by kernel_rfl) (hf : Region.free md ops l i = true := by kernel_rfl) (hr : (Region.ready md ops l).contains i = true := by kernel_rfl) (hz : (ops[Z]?.any fun o => o.after.any fun e => Region.binds md e && e.on == i) = true := by kernel_rfl)
    (hQ : ∀ c a w, Q (.panic c) (a.put oi.dst v) w → Q (.panic c) a w := by exact fun _ _ _ h => h) (hw : Region.wanted oi (yielded ops a.tmps) = true := by rfl) (hS : S w := by assumption) : Late P md ops Q S Z (k + 1) l a w :=
  late_on i (some d) hi hd hs hf hr hz hQ hw hS hy h
theorem lrdy (i : Nat) {o : Oper} (h : ∀ K' : Act → World → Prop, Shut (∀ a w, (i ≠ Z → S w) → Late P md ops Q S Z k (l.setIfInBounds i true) a w → K' a w) → if Region.wanted o (yielded ops a.tmps) = true then Oper.wp P o a w K' Q else K' (a.put o.dst undef) w)
    (hi : ops[i]? = some o := by exact rfl) (hr : Region.ready md ops l = [i] := by kernel_rfl) : Late P md ops Q S Z (k + 1) l a w :=
  late_ready hr (by simp) (AllLate.cons hi h AllLate.nil)
end
end Go.Proofs.YtmbgepafpcbakaaGreatDoor
