/-
  Hits that are put one behind the other; lists that a law builds beside what is known.
-/
import Derived.Test.YtikdoldmhlbklaaTlbL
namespace Go.Proofs.Ytikdoldmhlbklaa
open Go.RowKit Go.Shelf

/-- what is known behind the first k Puts -/
def putsT (most : Nat) (l : List Ht) (k : Nat) : List Ht := (l.take k).foldl (putT most) []
theorem putsT_zero (most : Nat) (l : List Ht) : putsT most l 0 = [] := by simp [putsT]
theorem putsT_succ (most : Nat) (l : List Ht) {k : Nat} (hk : k < l.length) : putsT most l (k + 1) = putT most (putsT most l k) (l.getD k default) := by
  unfold putsT
  rw [List.take_succ_eq_append_getElem hk, List.foldl_append, getD_lt hk]; rfl

theorem putT_pos (most : Nat) (L : List Ht) (h : Ht) : 0 < (putT most L h).length := by simp [putT]
theorem puts_ne (most : Nat) (l : List Ht) (k : Nat) : k ≤ l.length → 0 < k → 0 < (putsT most l k).length := fun hk h0 => by
  obtain ⟨j, rfl⟩ : ∃ j, k = j + 1 := ⟨k - 1, by omega⟩
  rw [putsT_succ most l (by omega)]; exact putT_pos _ _ _

section
variable {w0 w w' : World} {F : List Nat} {p most : Nat} {L M : List Ht} {v v' : Value}
/-- a list of one's own that is apart from what is known -/
def LB (w0 : World) (F : List Nat) (w : World) (v : Value) (M : List Ht) : Prop := OwnH w v M ∧ ∀ g ∈ v.ownBlock.toList, g ∈ F ∧ w0.heap.size ≤ g
theorem LB.nil (w0 w : World) (F : List Nat) : LB w0 F w (.slice none 0 0) [] := ⟨OwnH.none_ w, by simp [Value.ownBlock]⟩
theorem LB.far (h : LB w0 F w v M) (hf : Far F w w') : LB w0 F w' v M := ⟨hf.own h.1 fun g hg => (h.2 g hg).1, h.2⟩
theorem LB.new (h : LB w0 F w v M) (hc : Chg [] w w') : LB w0 F w' v M := ⟨h.1.chg hc (by simp), h.2⟩
theorem LB.more {G : List Nat} (h : LB w0 F w v M) : LB w0 (G ++ F) w v M := ⟨h.1, fun g hg => ⟨List.mem_append.2 (.inr (h.2 g hg).1), (h.2 g hg).2⟩⟩
/-- something was appended to it -/
theorem TB.app (h : TB w0 F w p most L) (hl : LB w0 F w v M) {M' : List Ht} (ho : OwnH w' v' M') (hc : Chg v.ownBlock.toList w w') (hb : v'.ownBlock = v.ownBlock ∨ v'.ownBlock = some w.heap.size) :
    TB w0 (v'.ownBlock.toList ++ F) w' p most L ∧ LB w0 (v'.ownBlock.toList ++ F) w' v' M' := by
  have hT := h.other hc (fun i hi => (hl.2 i hi).1) (fun i hi => (hl.2 i hi).2)
  have h0 := h.1
  obtain ⟨k1, k2, S, k3, k4⟩ := hT
  obtain ⟨_, _, S0, j3, j4⟩ := h
  have hnew : ∀ g ∈ v'.ownBlock.toList, g ∈ F ∧ w0.heap.size ≤ g ∨ g = w.heap.size := fun g hg => by
    rcases hb with e | e
    · rw [e] at hg; exact .inl (hl.2 g hg)
    · rw [e] at hg; simp at hg; exact .inr hg
  have hS0 : TAt w' S0 p most L := j3.chg hc (fun i hi hm => (j4 i hi).2 (hl.2 i hm).1)
  refine ⟨⟨k1, fun i hi => ?_, S0, hS0, fun i hi => ⟨(j4 i hi).1, fun hm => ?_⟩⟩, ho, fun g hg => ⟨List.mem_append.2 (.inl hg), ?_⟩⟩
  · rw [List.mem_append] at hi
    rcases hi with hi | hi
    · exact ho.lt i hi
    · exact k2 i hi
  · rw [List.mem_append] at hm
    rcases hm with hm | hm
    · rcases hnew i hm with h | h
      · exact (j4 i hi).2 h.1
      · have := j3.lt i hi; omega
    · exact (j4 i hi).2 hm
  · rcases hnew g hg with h | h
    · exact h.2
    · rw [h]; exact h0.size
end

/-- the operands of an append of one hit: at the world behind its own block -/
theorem LB.alloc {w0 w : World} {F : List Nat} {v : Value} {M : List Ht} (h : LB w0 F w v M) (o : Obj) : LB w0 F (w.alloc o) v M := h.new ((Chg.refl [] w).alloc o)
theorem TB.alloc {w0 w : World} {F : List Nat} {p most : Nat} {L : List Ht} (h : TB w0 F w p most L) (o : Obj) : TB w0 F (w.alloc o) p most L := h.new ((Chg.refl [] w).alloc o)

end Go.Proofs.Ytikdoldmhlbklaa
