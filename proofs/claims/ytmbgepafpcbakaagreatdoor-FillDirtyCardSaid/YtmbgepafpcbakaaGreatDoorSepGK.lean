/-
 Things that lie side by side and apart: each has blocks of its own, all new since a world w0. No function of the program is named here.
-/
import Derived.Test.YtmbgepafpcbakaaGreatDoorRowGK
namespace Go.Proofs.YtmbgepafpcbakaaGreatDoor
open Go.RowKit
structure Th where
 at_ : World → List Nat → Prop
 lt : ∀ {w S}, at_ w S → ∀ i ∈ S, i < w.heap.size
 chg : ∀ {w w' S T}, at_ w S → Chg T w w' → (∀ i ∈ S, i ∉ T) → at_ w' S
def Sep (w0 w : World) : List Th → List Nat → Prop
 | [], U => U = []
 | P :: l, U => ∃ S V, U = S ++ V ∧ P.at_ w S ∧ (∀ i ∈ S, w0.heap.size ≤ i ∧ i ∉ V) ∧ Sep w0 w l V
def SepC (w0 w : World) (l : List Th) : Prop := Chg [] w0 w ∧ ∃ U, Sep w0 w l U
section
variable {w0 w w' : World} {P P' Q : Th} {l : List Th} {U : List Nat}
theorem Sep.lt : ∀ {l : List Th} {U : List Nat}, Sep w0 w l U → ∀ i ∈ U, i < w.heap.size
 | [], _, h, i, hi => by rw [show _ = [] from h] at hi; simp at hi
 | P :: l, U, ⟨S, V, e, hp, _, hr⟩, i, hi => by
  rw [e, List.mem_append] at hi
  rcases hi with hi | hi
  ·exact P.lt hp i hi
  exact Sep.lt hr i hi
theorem Sep.ge : ∀ {l : List Th} {U : List Nat}, Sep w0 w l U → ∀ i ∈ U, w0.heap.size ≤ i
 | [], _, h, i, hi => by rw [show _ = [] from h] at hi; simp at hi
 | P :: l, U, ⟨S, V, e, _, hn, hr⟩, i, hi => by
  rw [e, List.mem_append] at hi
  rcases hi with hi | hi
  ·exact (hn i hi).1
  exact Sep.ge hr i hi
theorem Sep.chg {T : List Nat} : ∀ {l : List Th} {U : List Nat}, Sep w0 w l U → Chg T w w' → (∀ i ∈ U, i ∉ T) → Sep w0 w' l U
 | [], _, h, _, _ => h
 | P :: l, U, ⟨S, V, e, hp, hn, hr⟩, hc, hd => ⟨S, V, e, P.chg hp hc (fun i hi => hd i (by rw [e]; simp [hi])), hn, Sep.chg hr hc (fun i hi => hd i (by rw [e]; simp [hi]))⟩
theorem SepC.nil (w : World) : SepC w w [] := ⟨Chg.refl _ _, [], rfl⟩
theorem SepC.new (H : SepC w0 w l) (hc : Chg [] w w') : SepC w0 w' l := by
 obtain ⟨h0, U, h⟩ := H
 exact ⟨h0.trans hc (by simp), U, h.chg hc (by simp)⟩
theorem SepC.swap (H : SepC w0 w (P :: Q :: l)) : SepC w0 w (Q :: P :: l) := by
 obtain ⟨h0, U, S, V, e, hp, hn, S', V', e', hq, hn', hr⟩ := H
 subst e'
 refine ⟨h0, S' ++ (S ++ V'), S', S ++ V', rfl, hq, fun i hi => ⟨(hn' i hi).1, fun hm => ?_⟩, S, V', rfl, hp, fun i hi => ⟨(hn i hi).1, fun hm => (hn i hi).2 (by simp [hm])⟩, hr⟩
 rw [List.mem_append] at hm
 rcases hm with hm | hm
 ·exact (hn i hm).2 (by simp [hi])
 exact (hn' i hi).2 hm
theorem Sep.pickV : ∀ (i : Nat) {l : List Th} {U : List Nat} {P : Th}, Sep w0 w l U → l[i]? = some P → ∃ U', Sep w0 w (P :: l.eraseIdx i) U' ∧ ∀ j ∈ U', j ∈ U
 | 0, [], _, _, _, h => by simp at h
 | 0, Q :: l, U, P, H, h => by simp at h; subst h; exact ⟨U, H, fun _ hi => hi⟩
 | i + 1, [], _, _, _, h => by simp at h
 | i + 1, Q :: l, U, P, ⟨S, V, e, hp, hn, hr⟩, h => by
  rw [qS] at h
  obtain ⟨V1, ⟨S', V2, e', hq, hn', hr'⟩, hs⟩ := Sep.pickV i hr h
  subst e; subst e'
  refine ⟨S' ++ (S ++ V2), ⟨S', S ++ V2, rfl, hq, fun j hj => ⟨(hn' j hj).1, fun hm => ?_⟩, S, V2, rfl, hp, fun j hj => ⟨(hn j hj).1, fun hm => (hn j hj).2 (hs j (by simp [hm]))⟩, hr'⟩, fun j hj => ?_⟩
  ·rw [List.mem_append] at hm
   rcases hm with hm | hm
   ·exact (hn j hm).2 (hs j (by simp [hj]))
   exact (hn' j hj).2 hm
  simp only [List.mem_append] at hj ⊢
  rcases hj with hj | hj | hj
  ·exact .inr (hs j (by simp [hj]))
  ·exact .inl hj
  exact .inr (hs j (by simp [hj]))
theorem SepC.tail (H : SepC w0 w (P :: l)) : SepC w0 w l := by
 obtain ⟨h0, U, S, V, e, hp, hn, hr⟩ := H
 exact ⟨h0, V, hr⟩
theorem SepC.pick (i : Nat) (H : SepC w0 w l) (h : l[i]? = some P) : SepC w0 w (P :: l.eraseIdx i) := by
 obtain ⟨h0, U, hU⟩ := H
 obtain ⟨U', h', _⟩ := Sep.pickV i hU h
 exact ⟨h0, U', h'⟩
theorem SepC.fst (H : SepC w0 w (P :: l)) : ∃ S, P.at_ w S ∧ ∀ i ∈ S, w0.heap.size ≤ i := by
 obtain ⟨h0, U, S, V, e, hp, hn, hr⟩ := H
 exact ⟨S, hp, fun i hi => (hn i hi).1⟩
theorem SepC.callV {f : FuncId} {args : Array Value} {v : Value} {prog : Program} (H : SepC w0 w (P :: l))
  (hc : ∀ S V, P.at_ w S → (∀ i ∈ S, w0.heap.size ≤ i ∧ i ∉ V) → Sep w0 w l V → Calls prog f args w fun e w' => e = .returned v ∧ ∃ S', P'.at_ w' S' ∧ Chg S w w' ∧ ∀ i ∈ S', i ∈ S ∨ w.heap.size ≤ i) :
  Calls prog f args w fun e w' => e = .returned v ∧ SepC w0 w' (P' :: l) := by
 obtain ⟨h0, U, S, V, e, hp, hn, hr⟩ := H
 refine (hc S V hp hn hr).mono fun e w' ⟨he, S', hp', hch, hg⟩ => ⟨he, h0.trans hch (fun i hi hm => by have := (hn i hm).1; omega), S' ++ V, S', V, rfl, hp', fun i hi => ?_, hr.chg hch fun i hi hm => (hn i hm).2 hi⟩
 rcases hg i hi with h | h
 ·exact hn i h
 exact ⟨Nat.le_trans h0.size h, fun hm => by have := hr.lt i hm; omega⟩
theorem SepC.lay {S : List Nat} (H : SepC w0 w l) (hc : Chg [] w w') (hp : P.at_ w' S) (hn : ∀ i ∈ S, w.heap.size ≤ i) : SepC w0 w' (P :: l) := by
 obtain ⟨h0, U, h⟩ := H
 exact ⟨h0.trans hc (by simp), S ++ U, S, U, rfl, hp, fun i hi => ⟨Nat.le_trans h0.size (hn i hi), fun hm => by have := h.lt i hm; have := hn i hi; omega⟩, h.chg hc (by simp)⟩
theorem SepC.step {S S' : List Nat} (H : SepC w0 w (P :: l)) (h1 : ∀ T, P.at_ w T → T = S) (hc : Chg S w w') (hp : P'.at_ w' S') (hn : ∀ i ∈ S', i ∈ S ∨ w.heap.size ≤ i) : SepC w0 w' (P' :: l) := by
 obtain ⟨h0, U, T, V, e, hq, hm, hr⟩ := H
 obtain rfl := h1 T hq
 refine ⟨h0.trans hc (fun i hi hm' => by have := (hm i hm').1; omega), S' ++ V, S', V, rfl, hp, fun i hi => ?_, hr.chg hc fun i hi hm' => (hm i hm').2 hi⟩
 rcases hn i hi with h | h
 ·exact hm i h
 exact ⟨Nat.le_trans h0.size h, fun hm => by have := hr.lt i hm; omega⟩
end
def blkT (g : Nat) (t : TypeId) (cs : Array Value) : Th := ⟨fun w S => S = [g] ∧ Blk w g t cs, fun h i hi => by rw [h.1] at hi; simp at hi; rw [hi]; exact h.2.lt, fun h hc hn => ⟨h.1, hc.blk h.2 (hn g (by rw [h.1]; simp))⟩⟩
def ownT {α : Type} (E : Enc α) (t : TypeId) (v : Value) (L : List α) : Th := ⟨fun w S => S = v.ownBlock.toList ∧ OwnG E w t v L, fun h i hi => h.2.lt i (by rw [← h.1]; exact hi), fun h hc hn => ⟨h.1, h.2.chg hc (fun g hg => hn g (by rw [h.1]; exact hg))⟩⟩
section
variable {w0 w w' : World} {l : List Th} {g : Nat} {t : TypeId} {cs : Array Value} {α : Type} {E : Enc α} {v v' : Value} {L M : List α}
theorem SepC.alloc (H : SepC w0 w l) (cs : Array Value) (t : TypeId) : SepC w0 (w.alloc (.cells cs t)) (blkT w.heap.size t cs :: l) :=
 H.lay (S := [w.heap.size]) ((Chg.refl [] w).alloc _) ⟨rfl, Blk.new w t cs⟩ (by simp)
theorem SepC.allocN (H : SepC w0 w l) (hg : w.heap.size = g) (cs : Array Value) (t : TypeId) : SepC w0 (w.alloc (.cells cs t)) (blkT g t cs :: l) := hg ▸ H.alloc cs t
theorem SepC.blk (H : SepC w0 w (blkT g t cs :: l)) : Blk w g t cs := by
 obtain ⟨S, h, _⟩ := H.fst; exact h.2
theorem SepC.own (H : SepC w0 w (ownT E t v L :: l)) : OwnG E w t v L := by
 obtain ⟨S, h, _⟩ := H.fst; exact h.2
theorem SepC.ownNil (H : SepC w0 w l) (E : Enc α) (t : TypeId) : SepC w0 w (ownT E t (.slice none 0 0) [] :: l) :=
 H.lay (S := []) (Chg.refl [] w) ⟨rfl, OwnG.none_ _ _⟩ (by simp)
theorem SepC.app (H : SepC w0 w (ownT E t v L :: l)) (ho : OwnG E w' t v' M) (hc : Chg v.ownBlock.toList w w') (hb : v'.ownBlock = v.ownBlock ∨ v'.ownBlock = some w.heap.size) : SepC w0 w' (ownT E t v' M :: l) :=
 H.step (S := v.ownBlock.toList) (S' := v'.ownBlock.toList) (fun _ h => h.1) hc ⟨rfl, ho⟩ fun i hi => by
  rcases hb with e | e
  ·exact .inl (e ▸ hi)
  rw [e] at hi; simp at hi; exact .inr (by omega)
end
end Go.Proofs.YtmbgepafpcbakaaGreatDoor
