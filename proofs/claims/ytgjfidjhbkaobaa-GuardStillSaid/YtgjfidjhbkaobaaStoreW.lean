/-
  Facts for the laws of stores: behind a Clear; the words of all frames, one frame behind the other; a number of a list of one's own turns.
-/
import Derived.Test.YtgjfidjhbkaobaaGS4
namespace Go.Proofs.Ytgjfidjhbkaobaa
open Go.RowKit Go.Maps
theorem own_gi {w : World} {t : TypeId} {k : IntKind} {v : Value} {L : List Int} : OwnG (numE k) w t v L ↔ OwnI w t k v L := by
  unfold OwnG OwnI; rw [numE_all]; rfl
theorem OwnN.set_ {w : World} {t : TypeId} {k : IntKind} {g n c : Nat} {L : List Int} (h' : OwnG (numE k) w t (.slice (some ⟨g, 0, none⟩) n c) L) (i : Nat) (y : Int) : OwnG (numE k) (w.setCell ⟨g, i, none⟩ (.int k y)) t (.slice (some ⟨g, 0, none⟩) n c) (L.set i y) := by
  have h := own_gi.1 h'
  refine own_gi.2 ?_
  have hn := h.slice
  subst hn
  unfold OwnI
  refine ⟨by simp [vals], ?_⟩
  rcases h.2 with ⟨h0, _⟩ | ⟨g', c', cur, hv, hg, hb, h1, h2, h3, h4⟩
  · cases h0
  · injection hv with e1 e2 e3
    injection e1 with e1; injection e1 with e1 _ _
    subst e1; subst e3
    refine .inr ⟨g, c, cur.setIfInBounds i (.int k y), by simp, hg, heap_setCell_same w g i cur t _ hb, by simpa using h1, h2, by simpa using h3, ?_⟩
    rw [Nat.mul_one] at h4 ⊢
    rw [List.length_set, Array.toList_setIfInBounds]
    have : (cur.toList.set i (Value.int k y)).take L.length = (cur.toList.take L.length).set i (Value.int k y) := by rw [List.take_set]
    rw [this, h4]
    simp [vals]
/-- where a list of one's own lies, and that its places may be written -/
theorem own_spot {w : World} {t : TypeId} {k : IntKind} {A : Option Addr} {n c : Nat} {L : List Int} (h : OwnG (numE k) w t (.slice A n c) L) {i : Nat} (hi : i < n) : ∃ g, A = some ⟨g, 0, none⟩ ∧ g < w.heap.size ∧ (∃ u, w.cell? ⟨g, i, none⟩ = some (.int k u)) ∧ w.frozen? ⟨g, i, none⟩ = false := by
  obtain ⟨_, _, hl⟩ := h.cap
  obtain ⟨A', c', e, hn, ha⟩ := h.form
  injection e with e1 e2 e3
  subst e1
  cases A with
  | none => have := (hn rfl).1; omega
  | some a =>
    obtain ⟨g, rfl, hg⟩ := ha a rfl
    obtain ⟨cs, hb⟩ := own_cells h g (by simp [Value.ownBlock])
    obtain ⟨b, o, x, e', _, _, hc⟩ := SlN.get h.slg hi
    cases e'
    rw [Nat.zero_add] at hc
    exact ⟨g, rfl, hg, ⟨_, hc⟩, hb.frozen _⟩
theorem SlG.slu {w : World} {A : Option Addr} {n : Nat} {L : List Int} (h : SlG (numE .u64) w A n L) : SlU w A n L := by
  refine ⟨h.len, fun h0 => ?_⟩
  obtain ⟨b, off, _, e, hb, _, _⟩ := SlN.get h h0
  refine ⟨b, off, e, hb, fun j u hu => ?_⟩
  have hj : j < n := by rw [← h.len]; exact (List.getElem?_eq_some_iff.1 hu).1
  obtain ⟨b', off', x, e', _, hx, hc⟩ := SlN.get h hj
  rw [e] at e'; cases e'
  rw [hu] at hx; cases hx
  exact hc
section
variable {n a m : Nat} {s : Sr}
theorem SrOk.cleared (h : SrOk n a m s) {q : Pg} (hq : q ∈ s.L) {i : Nat} (hi : i < 8) : ∃ (x : Slt) (F : Nat), q.f = (F : Int) ∧ F < n ∧ slotP s.L q.f (i : Int) = some x ∧ clearB s q.f (i : Int) = decide (x.kind ≠ 0) ∧ slotP (clearS n s q.f (i : Int)).L q.f (i : Int) = some Slt.no ∧
    clearB (clearS n s q.f (i : Int)) q.f (i : Int) = false ∧ (clearS n s q.f (i : Int)).W = s.W.set (8 * F + i) 0 := by
  obtain ⟨x, hx, hs⟩ := h.slot hq hi
  have hin := h.inL hq
  have hle := h.le
  obtain ⟨F, hF⟩ := Int.eq_ofNat_of_zero_le (show 0 ≤ q.f by omega)
  have hb : clearB s q.f (i : Int) = decide (x.kind ≠ 0) := by unfold clearB; rw [hs]
  have hc0 : ∀ s' : Sr, slotP s'.L q.f (i : Int) = some Slt.no → clearB s' q.f (i : Int) = false := fun s' e => by unfold clearB; rw [e]; rfl
  by_cases hk : x.kind = 0
  · have e : clearS n s q.f (i : Int) = s := by unfold clearS; rw [hb, if_neg (by simp [hk])]
    have hxn : x = Slt.no := by
      rcases h.kinds q hq x (List.mem_of_getElem? hx) with ⟨_, h1⟩ | ⟨h1, _⟩ | ⟨h1, _⟩
      · exact h1
      · omega
      · omega
    subst hxn
    rw [e]
    refine ⟨Slt.no, F, hF, by omega, hs, hb, hs, hc0 s hs, ?_⟩
    obtain ⟨v, _, _, _, hw⟩ := h.words q hq i _ hx
    rw [hF, Int.toNat_natCast] at hw
    have hw0 : wordS Slt.no v = 0 := rfl
    rw [hw0, Nat.mul_comm] at hw
    apply List.ext_getElem?
    intro j
    rw [List.getElem?_set]
    by_cases hj : 8 * F + i = j
    · subst hj
      rw [if_pos rfl, if_pos (List.getElem?_eq_some_iff.1 hw).1, hw]
    · rw [if_neg hj]
  · have e : clearS n s q.f (i : Int) = setS n s q.f (i : Int) Slt.no 0 := by unfold clearS; rw [hb, if_pos (by simp [hk])]
    have hsl : slotP (clearS n s q.f (i : Int)).L q.f (i : Int) = some Slt.no := by
      rw [e, setS_L, Int.toNat_natCast, slot_setP _ _ _ _ _ h.eight hi, if_pos ⟨rfl, rfl⟩, hs]; rfl
    refine ⟨x, F, hF, by omega, hs, hb, hsl, hc0 _ hsl, ?_⟩
    rw [e, setS_W, hF]
    unfold setW
    rw [if_pos (by unfold hasW; rw [decide_eq_true_eq]; omega), Int.toNat_natCast, Int.toNat_natCast, Nat.mul_comm]
    rfl
end

end Go.Proofs.Ytgjfidjhbkaobaa
