/-
  The document's model and its guest as things that lie apart.
-/
import Derived.Test.YtgebfagiomcmbaaGreatDoorSepK
import Derived.Test.YtgebfagiomcmbaaGreatDoorModelRDK
namespace Go.Proofs.YtgebfagiomcmbaaGreatDoor
open Go.RowKit

/-! a model -/
def rmodT (_w0 : World) (m t q : Nat) (S : List Nat) (p : Nat) (L : List Int) (h b n : Nat) (s : Ms) : Th where
  at_ w U := ∃ X, U = mB m q S h b ++ X ∧ RTAt w X t 512 s.T ∧ (∀ i ∈ X, i ∉ mB m q S h b) ∧ RGuIn w q S p L h b n s.W ∧ Blk w m 95 #[.pointer (some ⟨q, 0, none⟩), .int .i64 s.r, .pointer (some ⟨t, 0, none⟩)] ∧ OkM n L s ∧ m ∉ b :: q :: h :: S
  lt := by
    rintro w U ⟨X, rfl, ht, _, g, st, _⟩ i hi
    rw [List.mem_append, mB, List.mem_cons] at hi
    rcases hi with (rfl | hi) | hi
    · exact st.lt
    · exact g.lt i hi
    · exact ht.lt i hi
  chg := by
    rintro w w' U T ⟨X, rfl, ht, hx, g, st, ok, ms⟩ hc hn
    have hm : ∀ i ∈ mB m q S h b, i ∉ T := fun i hi => hn i (by simp [hi])
    exact ⟨X, rfl, ht.chg hc (fun i hi => hn i (by simp [hi])), hx, g.other hc (hm q (by simp [mB])) (fun i hi => hm i (by simp [mB, hi])) (hm h (by simp [mB])) (hm b (by simp [mB])), hc.blk st (hm m (by simp [mB])), ok, ms⟩
section
variable {w0 w w' : World} {l : List Th} {m t q p h b n : Nat} {S : List Nat} {L : List Int} {s s1 : Ms}
theorem rmodT.to {U F : List Nat} (h0 : Chg [] w0 w) (H : (rmodT w0 m t q S p L h b n s).at_ w U) (hU : ∀ i ∈ U, w0.heap.size ≤ i ∧ i ∉ F) (hF : ∀ i ∈ F, i < w.heap.size) : RModB w0 F w m t q S p L h b n s := by
  have hlt := (rmodT w0 m t q S p L h b n s).lt H
  obtain ⟨X, rfl, ht, hx, g, st, ok, ms⟩ := H
  refine ⟨⟨h0, fun i hi => ?_, X, ht, fun i hi => ⟨(hU i (by simp [hi])).1, fun hm => ?_⟩⟩, g, st, ok, (hU m (by simp [mB])).1, (hU b (by simp [mB])).1, fun i hi => (hU i (by simp [hi])).2, ms⟩
  · rw [List.mem_append] at hi
    rcases hi with hi | hi
    · exact hlt i (by simp [hi])
    · exact hF i hi
  · rw [List.mem_append] at hm
    rcases hm with hm | hm
    · exact hx i hi hm
    · exact (hU i (by simp [hi])).2 hm
theorem rmodT.of {F : List Nat} (H : RModB w0 F w m t q S p L h b n s) : ∃ U, (rmodT w0 m t q S p L h b n s).at_ w U ∧ (∀ i ∈ U, i ∈ mB m q S h b ∨ i ∉ F) := by
  obtain ⟨⟨_, _, X, ht, hx⟩, g, st, ok, _, _, ap, ms⟩ := H
  refine ⟨mB m q S h b ++ X, ⟨X, rfl, ht, fun i hi hm => (hx i hi).2 (by simp [hm]), g, st, ok, ms⟩, fun i hi => ?_⟩
  rw [List.mem_append] at hi
  exact hi.imp id fun hi hm => (hx i hi).2 (by simp [hm])
/-- a call of a model: its contract holds whatever lies beside; the next thing may be looked at meanwhile -/
theorem SepC.rmod2 {f : FuncId} {args : Array Value} {v : Value} {prog : Program} {Q : Th} (H : SepC w0 w (rmodT w0 m t q S p L h b n s :: Q :: l))
    (hc : ∀ F, RModB w0 F w m t q S p L h b n s → (∀ w', Far F w w' → ∃ T, Q.at_ w' T) → Calls prog f args w fun e w' => e = .returned v ∧ RModB w0 F w' m t q S p L h b n s1 ∧ Far F w w') :
    Calls prog f args w fun e w' => e = .returned v ∧ SepC w0 w' (rmodT w0 m t q S p L h b n s1 :: Q :: l) := by
  have h0 := H.1
  refine H.callV fun U V hU hn hV => ?_
  have hB := rmodT.to (F := (List.range w.heap.size).filter fun i => decide (i ∉ U)) h0 hU (fun i hi => ⟨(hn i hi).1, by simp [hi]⟩) (by simp; intro i hi _; exact hi)
  obtain ⟨T, V2, rfl, hQ, _, _⟩ := hV
  refine (hc _ hB (fun w' ⟨X, hX, hXF⟩ => ⟨T, Q.chg hQ hX fun i hi hm => hXF i hm (by simp [Q.lt hQ i hi]; exact fun hm2 => (hn i hm2).2 (by simp [hi]))⟩)).mono fun e w' ⟨he, H1, X, hX, hXF⟩ => ⟨he, ?_⟩
  obtain ⟨U2, hU2, hd⟩ := rmodT.of H1
  have hm : ∀ i ∈ mB m q S h b, i ∈ U := by obtain ⟨X, rfl, _⟩ := hU; intro i hi; simp [hi]
  refine ⟨U2, hU2, hX.weak fun i hl hi => Decidable.byContradiction fun hne => hXF i hi (by simp [hl, hne]), fun i hi => ?_⟩
  by_cases hiU : i ∈ U
  · exact .inl hiU
  · rcases hd i hi with h1 | h1
    · exact absurd (hm i h1) hiU
    · right
      apply Decidable.byContradiction
      intro hlt
      exact h1 (by simp [hiU]; omega)
theorem SepC.rmod {f : FuncId} {args : Array Value} {v : Value} {prog : Program} (H : SepC w0 w (rmodT w0 m t q S p L h b n s :: l))
    (hc : ∀ F, RModB w0 F w m t q S p L h b n s → Calls prog f args w fun e w' => e = .returned v ∧ RModB w0 F w' m t q S p L h b n s1 ∧ Far F w w') :
    Calls prog f args w fun e w' => e = .returned v ∧ SepC w0 w' (rmodT w0 m t q S p L h b n s1 :: l) := by
  have H1 : SepC w0 w (rmodT w0 m t q S p L h b n s :: nilT :: l) := H.under fun V hV => ⟨V, ⟨[], V, rfl, rfl, by simp, hV⟩, fun _ hi => hi⟩
  exact (H1.rmod2 fun F hF _ => hc F hF).mono fun e w' ⟨he, h⟩ => ⟨he, h.under fun V hV => by obtain ⟨T, V2, rfl, hT, _, hr⟩ := hV; exact ⟨V2, hr, fun i hi => by simp [hi]⟩⟩
/-- what only reads a model -/
theorem SepC.rmodB (H : SepC w0 w (rmodT w0 m t q S p L h b n s :: l)) : RModB w0 [] w m t q S p L h b n s := by
  obtain ⟨U, hU, hn⟩ := H.fst
  exact rmodT.to H.1 hU (fun i hi => ⟨hn i hi, by simp⟩) (by simp)
end

/-! a guest's memory that no model has yet -/
def rgueT (q : Nat) (S : List Nat) (p : Nat) (L : List Int) (h b n : Nat) (W : List Int) : Th := ⟨fun w U => U = b :: q :: h :: S ∧ RGuIn w q S p L h b n W, fun h i hi => h.2.lt i (by rw [← h.1]; exact hi),
  fun h hc hn => ⟨h.1, h.2.other hc (hn _ (by rw [h.1]; simp)) (fun i hi => hn i (by rw [h.1]; simp [hi])) (hn _ (by rw [h.1]; simp)) (hn _ (by rw [h.1]; simp))⟩⟩
section
variable {w0 w w' : World} {l : List Th} {m t q p h b n : Nat} {S : List Nat} {L : List Int} {s s1 : Ms}
set_option maxHeartbeats 1000000 in
theorem SepC.rnewMod (r : Int) {W : List Int} (hW : WdW W) (H : SepC w0 w (rgueT q S p L h b n W :: l)) :
    Calls Tryz.prog 13 #[.pointer (some ⟨q, 0, none⟩), .int .i64 r] w fun e w' => ∃ m t, e = .returned (.pointer (some ⟨m, 0, none⟩)) ∧ SepC w0 w' (rmodT w0 m t q S p L h b n ⟨W, r, []⟩ :: l) := by
  have hT := RTNew_in 512 w (by omega) (by omega)
  go_enter Tryz.func13, Tryz.ntmps13
  go_wp2_with fail
  refine hT.mono ?_; rintro e w1 ⟨rfl, k1, h3⟩
  go_wp2_with fail
  go_ret
  refine ⟨w1.heap.size, w.heap.size, rfl, H.step (P' := rmodT w0 w1.heap.size w.heap.size q S p L h b n ⟨W, r, []⟩) (S := b :: q :: h :: S) (fun _ h => h.1) ((k1.alloc _).weak (by simp)) (S' := mB w1.heap.size q S h b ++ [w.heap.size]) ?_ ?_⟩
  · obtain ⟨U, ⟨hU, g⟩, _⟩ := H.fst
    have hlt := g.lt
    have h4 := h3.lt _ (List.mem_singleton.2 rfl)
    have h5 := k1.size
    refine ⟨[w.heap.size], rfl, h3.self ((Chg.refl [] w1).alloc _), fun i hi hm => ?_, g.self (k1.alloc _), Blk.new _ _ _, ⟨hW, g.hm.len, by simp⟩, fun hm => ?_⟩
    · simp only [List.mem_singleton] at hi
      subst hi
      rw [mB, List.mem_cons] at hm
      rcases hm with hm | hm
      · omega
      · have := hlt _ hm; omega
    · have := hlt _ hm; omega
  · intro i hi
    have h5 := k1.size
    rw [mB, List.cons_append, List.mem_cons, List.mem_append, List.mem_singleton] at hi
    rcases hi with rfl | hi | rfl
    · exact .inr h5
    · exact .inl hi
    · exact .inr (Nat.le_refl _)
end

end Go.Proofs.YtgebfagiomcmbaaGreatDoor
