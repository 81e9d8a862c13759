/-
  The contracts of the document's list of free frames.
-/
import Derived.Test.YteccjemmdaalpaaFreeC
namespace Go.Proofs.Yteccjemmdaalpaa
open Go.RowKit Go.Maps

/-- p is the document's list of the frames from a on, n many, of which those of L are free; its blocks are S -/
def RAt (w : World) (S : List Nat) (p a n : Nat) (L : List Int) : Prop :=
  ∃ v, Blk w p 47 #[.int .i64 a, .int .i64 n, v] ∧ OwnI w 3 .i64 v L ∧ S = p :: v.ownBlock.toList

section
variable {w w' : World} {S T : List Nat} {p a n : Nat} {L : List Int}
theorem RAt.chg (h : RAt w S p a n L) (hc : Chg T w w') (hd : ∀ i ∈ S, i ∉ T) : RAt w' S p a n L := by
  obtain ⟨v, h1, h2, rfl⟩ := h
  exact ⟨v, hc.blk h1 (hd p (by simp)), h2.chg hc (fun g hg => hd g (by simp only [List.mem_cons]; exact .inr hg)), rfl⟩
theorem RAt.lt (h : RAt w S p a n L) : ∀ i ∈ S, i < w.heap.size := by
  obtain ⟨v, h1, h2, rfl⟩ := h
  intro i hi
  simp only [List.mem_cons] at hi
  rcases hi with rfl | hi
  · exact h1.lt
  · exact h2.lt i hi
theorem blkc3 {g : Nat} {t : TypeId} {u0 u1 u2 : Value} (h : Blk w g t #[u0, u1, u2]) : w.cell? ⟨g, 0, none⟩ = some u0 ∧ w.cell? ⟨g, 1, none⟩ = some u1 ∧ w.cell? ⟨g, 2, none⟩ = some u2 := by
  have h0 := h.cell 0; have h1 := h.cell 1; have h2 := h.cell 2
  simp only [List.getElem?_toArray, List.getElem?_cons_succ, List.getElem?_cons_zero] at h0 h1 h2
  exact ⟨h0, h1, h2⟩
end

set_option maxHeartbeats 400000 in
theorem RFNew_no (a n : Int) (w : World) (hn : -9223372036854775808 ≤ n ∧ n ≤ 9223372036854775807) (h : a < 0 ∨ n < 0 ∨ 256 < a + n) :
    Calls Try.prog 11 #[.int .i64 a, .int .i64 n] w fun e w' => e = .returned (.pointer none) ∧ w = w' := by
  by_cases h1 : a < 0
  · clear h
    go_enter Try.func11, Try.ntmps11
    go_wp2
    all_goals go_ret
    all_goals exact ⟨rfl, rfl⟩
  · by_cases h2 : n < 0
    · clear h
      go_enter Try.func11, Try.ntmps11
      go_wp2
      all_goals go_ret
      all_goals exact ⟨rfl, rfl⟩
    · have h4 : 0 ≤ n ∧ 0 ≤ a := by omega
      by_cases h5 : 256 < a
      · clear h
        go_enter Try.func11, Try.ntmps11
        go_wp2
        all_goals go_ret
        all_goals exact ⟨rfl, rfl⟩
      · have h3 : 256 - a < n := by omega
        clear h
        go_enter Try.func11, Try.ntmps11
        go_wp2
        all_goals go_ret
        all_goals exact ⟨rfl, rfl⟩

set_option maxHeartbeats 1000000 in
theorem RFNew_at (a n : Nat) (w : World) (h : a + n ≤ 256) :
    Calls Try.prog 11 #[.int .i64 a, .int .i64 n] w fun e w' => ∃ p S, e = .returned (.pointer (some ⟨p, 0, none⟩)) ∧ Chg [] w w' ∧ RAt w' S p a n (dnk a n) ∧ ∀ i ∈ S, w.heap.size ≤ i := by
  obtain ⟨i0, hi0, hz0, hz1, hz2⟩ := info_parts int_info
  go_enter Try.func11, Try.ntmps11
  go_wp2
  go_loopw [6] (fun i w' => ∃ (j : Int) (k : Nat) (v : Value), (j + 1 ≤ k ∧ k ≤ j + 1) ∧ k ≤ n ∧ i = .int .i64 j ∧ Chg [] w w' ∧ Blk w' w.heap.size 47 #[.int .i64 a, .int .i64 n, v] ∧ OwnI w' 3 .i64 v (dnk (a + k) (n - k)) ∧ (∀ g ∈ v.ownBlock.toList, w.heap.size < g)) (fun i _ => (intOf i + 1).toNat)
  case atStart => exact ⟨_, n, .slice none 0 0, by omega, by omega, rfl, (Chg.refl _ _).alloc _, Blk.new _ _ _, by rw [Nat.sub_self]; exact OwnI.none_ _ _ _, by simp [Value.ownBlock]⟩
  case round =>
    obtain ⟨j, k, v, hj, hk, rfl, hc, hb, ho, hg⟩ := hrel
    obtain ⟨A, c, rfl⟩ := ho.form
    obtain ⟨c0, c1, c2⟩ := blkc3 hb
    have f2 := hb.frozen 2
    have hlen := dnk_len (a + k) (n - k)
    have hne := ho.lt
    have hbl := hb.lt
    have HL := Lib.hid hlen
    cases k with
    | zero =>
      clear hlen
      have hj0 : j < 0 := by omega
      go_wp2
      go_ret
      have ho' := ho
      rw [Nat.add_zero, Nat.sub_zero] at ho'
      refine ⟨_, _, rfl, hc, ⟨_, hb, ho', rfl⟩, ?_⟩
      intro i hi
      simp only [List.mem_cons] at hi
      rcases hi with rfl | hi
      · omega
      · have := hg i hi; omega
    | succ k =>
      have hj0 : 0 ≤ j := by omega
      have hX : dnk (a + k) (n - k) = dnk (a + (k + 1)) (n - (k + 1)) ++ [(a : Int) + j] := by
        rw [show n - k = n - (k + 1) + 1 by omega, dnk_snoc, show ((a + k : Nat) : Int) = (a : Int) + j by omega]; rfl
      have HX := Lib.hid hX
      clear hlen hX
      generalize dnk (a + (k + 1)) (n - (k + 1)) = X at *
      go_wp2_with (at_builtin
                   refine wpList_append_src rfl _ _ 39 rfl 0 3 i0 _ 1 8 Try.underlying39 hi0 hz0 hz1 hz2 rfl (by omega) (.slice A X.length c) _ _ rfl (World.ownsRow.alloc ho _) (some ⟨wr.heap.size, 0, none⟩) 1 1 [.int .i64 (a + j)] rfl ⟨by simp, by simp [Value.oneCell'], by simp, cell_src _ wr⟩ (by rw [HL.out]; simp [maxLen]; omega) (by rw [HL.out]; omega) (by simp) ?_
                   intro v3 w3 hown3 hc3 hv3
                   obtain ⟨A3, k3, rfl, _, _⟩ := own_form hown3
                   have hst3 := hc3.blk (hb.alloc _) (fun hm => absurd (hg _ hm) (by omega))
                   obtain ⟨d0, d1, d2⟩ := blkc3 hst3
                   have g2 := hst3.frozen 2)
      go_roundw
      have hcl : Chg [w.heap.size] w3 (w3.setCell ⟨w.heap.size, 2, none⟩ (.slice A3 (X.length + 1) k3)) := (Chg.refl _ _).setCell (by simp) _
      have hsz3 := hc3.size
      have hg3 : ∀ g ∈ (Value.slice A3 (X.length + 1) k3).ownBlock.toList, w.heap.size < g := by
        intro i hi
        rcases hv3 with e | e
        · rw [e] at hi; exact hg i hi
        · rw [e] at hi; simp at hi; omega
      case rel =>
        refine ⟨_, k, .slice A3 (X.length + 1) k3, by omega, by omega, rfl, ?_, hst3.set_ 2 _, ?_, hg3⟩
        · exact ((hc.alloc _).trans hc3 (by intro i hi hm; have := hg i hm; omega)).setCell (by simp) _
        · rw [HX.out]
          refine OwnI.chg ?_ hcl (by intro i hi hm; simp at hm; have := hg3 i hi; omega)
          unfold OwnI
          rw [vals_app, vals_one, List.length_append]
          exact hown3
      case measure => simp [intOf]; omega

end Go.Proofs.Yteccjemmdaalpaa
