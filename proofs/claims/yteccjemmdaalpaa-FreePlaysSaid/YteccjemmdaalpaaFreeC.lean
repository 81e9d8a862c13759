/-
  The contract of free's Give.
-/
import Derived.Test.YteccjemmdaalpaaFreeB
namespace Go.Proofs.Yteccjemmdaalpaa
open Go.RowKit Go.Maps

set_option maxHeartbeats 400000 in
theorem FGive_no (p m a n x : Nat) (v : Value) (back : List Int) (f : Int) (w : World) (h : FIn w p m a n x v back) (hf : -9223372036854775808 ≤ f ∧ f ≤ 9223372036854775807) (ht : takenB a x back f = false) :
    Calls Try.prog 12 #[.pointer (some ⟨p, 0, none⟩), .int .i64 f] w fun e w' => e = .returned (.bool false) ∧ Chg [] w w' := by
  obtain ⟨c0, c1, c2, c3, c4⟩ := h.c
  have hwf := WalkArith.wf_i64 hf
  have hm := h.mp
  clear h
  go_enter Try.func12, Try.ntmps12
  go_wp2_with (at_lookup; refine wpList_lookup_set rfl _ _ 43 rfl 48 lawI Try.underlying43 Try.underlying3 (zeroU _) m _ _ rfl hm f rfl hwf ?_; rw [ht])
  go_ret
  exact ⟨rfl, (Chg.refl _ _).alloc _⟩

theorem cell_src (f : Int) (w2 : World) : ∀ a, some (⟨w2.heap.size, 0, none⟩ : Addr) = some a → ∀ j u, [Value.int .i64 f][j]? = some u → (w2.alloc (.cells #[.int .i64 f] 3)).cell? (a.add j) = some u := fun a ha j u hu => by
  injection ha with ha; subst ha
  rw [add_at]
  rw [(Blk.new w2 3 #[.int .i64 f]).cell]
  simpa using hu

set_option maxHeartbeats 1000000 in
theorem FGive_yes (p m a n x : Nat) (v : Value) (back : List Int) (f : Int) (w : World) (h : FIn w p m a n x v back) (hf : -9223372036854775808 ≤ f ∧ f ≤ 9223372036854775807) (ht : takenB a x back f = true) :
    Calls Try.prog 12 #[.pointer (some ⟨p, 0, none⟩), .int .i64 f] w fun e w' => e = .returned (.bool true) ∧ Chg (p :: m :: v.ownBlock.toList) w w' ∧ ∃ v', FIn w' p m a n x v' (back ++ [f]) ∧ (∀ g ∈ v'.ownBlock.toList, g ∈ v.ownBlock.toList ∨ w.heap.size ≤ g) := by
  obtain ⟨c0, c1, c2, c3, c4⟩ := h.c
  have hwf := WalkArith.wf_i64 hf
  have hm := h.mp
  have hmp := h.ne1; have hgp := h.ne2; have hgm := h.ne3
  have hlt := h.st.lt; have hltm := h.mp.lt; have hltg := h.bk.lt
  have h1 := h.ax; have h2 := h.xn; have h3 := h.le
  obtain ⟨i0, hi0, hz0, hz1, hz2⟩ := info_parts int_info
  have hm1 := hm.chg (T := []) ((Chg.refl _ w).alloc (Obj.cells #[] 48)) (by simp)
  have hc01 : Chg [] w (w.alloc (Obj.cells #[] 48)) := (Chg.refl _ _).alloc _
  have hp : p ≠ w.heap.size := Nat.ne_of_lt hlt
  have hst1 := hc01.blk h.st (by simp)
  have hb1 := h.bk.chg hc01 (by simp)
  have d4 := hst1.cell 4
  simp only [List.getElem?_toArray, List.getElem?_cons_succ, List.getElem?_cons_zero] at d4
  go_enter Try.func12, Try.ntmps12
  go_wp2_with (first
    | (at_lookup; refine wpList_lookup_set rfl _ _ 43 rfl 48 lawI Try.underlying43 Try.underlying3 (zeroU _) m _ _ rfl hm f rfl hwf ?_; rw [ht])
    | (at_delete; refine wpList_delete_set rfl _ _ 43 rfl 48 lawI Try.underlying43 Try.underlying3 m _ _ rfl hm1 f rfl hwf ht ?_
       intro w2 hm2 h0 hc2
       have hst2 := hc2.blk hst1 (by simpa using fun e => hmp e.symm)
       have hb2 := hb1.chg hc2 (by simpa using hgm)
       have d3 := hst2.cell 3
       have f3 := hst2.frozen 3
       simp only [List.getElem?_toArray, List.getElem?_cons_succ, List.getElem?_cons_zero] at d3
       have hsz2 := hc2.size)
    | (at_builtin
       refine wpList_append_src rfl _ _ 39 rfl 0 3 i0 _ 1 8 Try.underlying39 hi0 hz0 hz1 hz2 rfl (by omega) v back.length (vals .i64 back) rfl (World.ownsRow.alloc hb2 _) (some ⟨w2.heap.size, 0, none⟩) 1 1 [.int .i64 f] rfl ⟨by simp, by simp [Value.oneCell'], by simp, cell_src f w2⟩ (by simp [maxLen]; omega) (by omega) (by simp) ?_
       intro v3 w3 hown3 hc3 hv3
       obtain ⟨A3, k3, rfl, _, _⟩ := own_form hown3
       have hst3 := hc3.blk (hst2.alloc _) (fun hm => hgp p hm rfl)
       have e3 := hst3.cell 3
       have g3 := hst3.frozen 3
       simp only [List.getElem?_toArray, List.getElem?_cons_succ, List.getElem?_cons_zero] at e3))
  go_ret
  have hc23 : Chg v.ownBlock.toList w2 w3 := ((Chg.refl _ _).alloc _).trans hc3 (by simp)
  have hm3 := hm2.chg hc23 (fun hm => hgm m hm rfl)
  have hv3m : ∀ g ∈ (Value.slice A3 (back.length + 1) k3).ownBlock.toList, g ∈ v.ownBlock.toList ∨ w.heap.size ≤ g ∧ w2.heap.size ≤ g := by
    intro g hg
    rcases hv3 with e | e
    · left; rw [← e]; exact hg
    · right; rw [e] at hg; simp at hg hsz2; omega
  have hn3 : ∀ g ∈ (Value.slice A3 (back.length + 1) k3).ownBlock.toList, g ≠ p ∧ g ≠ m := by
    intro g hg
    have hp2 := hst2.lt; have hm2' := hm2.lt
    rcases hv3m g hg with h | h
    · exact ⟨hgp g h, hgm g h⟩
    · omega
  have hown : OwnI w3 3 .i64 (.slice A3 (back.length + 1) k3) (back ++ [f]) := by
    unfold OwnI
    rw [vals_app, vals_one, List.length_append]
    exact hown3
  have ht' := ht
  simp only [takenB, Bool.and_eq_true, decide_eq_true_eq, Bool.not_eq_true', List.contains_eq_mem, decide_eq_false_iff_not] at ht'
  have hcl : Chg [p] w3 (w3.setCell ⟨p, 3, none⟩ (.slice A3 (back.length + 1) k3)) := (Chg.refl _ _).setCell (by simp) _
  refine ⟨rfl, ?_, .slice A3 (back.length + 1) k3, ⟨?_, hown.chg hcl (by simpa using fun g hg => (hn3 g hg).1), ?_, by simp; omega, h2, h3, ?_, ?_⟩, fun g hg => (hv3m g hg).imp id And.left⟩
  · exact (((hc01.weak (T := p :: m :: v.ownBlock.toList) (by simp)).trans hc2 (by intro k _ hk; simp at hk; subst hk; simp)).trans hc23 (by intro k _ hk; simp only [List.mem_cons]; exact .inr (.inr hk))).trans hcl (by intro k _ hk; simp at hk; subst hk; simp)
  · have := hst3.set_ 3 (.slice A3 (back.length + 1) k3)
    exact this
  · have e : x - a - (back ++ [f]).length = x - a - back.length - 1 := by simp; omega
    rw [e]
    refine (hm3.chg hcl (by simpa using hmp)).congr fun y => ?_
    rw [Bool.eq_iff_iff]
    by_cases hy : y = f
    · subst hy; simp [delS, takenB]
    · simp [delS, takenB, hy]
  · intro y hy
    rw [List.mem_append] at hy
    rcases hy with hy | hy
    · exact h.mem y hy
    · simp at hy; subst hy; exact ht'.1
  · rw [List.nodup_append]
    exact ⟨h.nd, by simp, fun y hy z hz => by simp at hz; subst hz; exact fun e => ht'.2 (e ▸ hy)⟩

/-- does a Give go through, and what is free behind it -/
def giveB (a n : Nat) (L : List Int) (f : Int) : Bool := decide ((a : Int) ≤ f ∧ f < a + n) && !L.contains f
def giveL (a n : Nat) (L : List Int) (f : Int) : List Int := if giveB a n L f then L ++ [f] else L

theorem FGive_at (S : List Nat) (p a n : Nat) (L : List Int) (f : Int) (w : World) (h : FAt w S p a n L) (hf : -9223372036854775808 ≤ f ∧ f ≤ 9223372036854775807) :
    Calls Try.prog 12 #[.pointer (some ⟨p, 0, none⟩), .int .i64 f] w fun e w' => ∃ S', e = .returned (.bool (giveB a n L f)) ∧ Chg S w w' ∧ FAt w' S' p a n (giveL a n L f) ∧ Grew w S S' := by
  obtain ⟨m, x, v, back, h, rfl, rfl⟩ := h
  have hmem := h.mem_iff f
  have h1 := h.ax; have h2 := h.xn
  cases ht : takenB a x back f with
  | true =>
    have hb : giveB a n (dnk x (a + n - x) ++ back) f = true := by
      have hL : (dnk x (a + n - x) ++ back).contains f = false := by
        rw [← Bool.not_eq_true, List.contains_iff_mem, hmem]; simp [ht]
      have ht' := ht
      simp only [takenB, Bool.and_eq_true, decide_eq_true_eq] at ht'
      rw [giveB, hL]; simp; omega
    refine (FGive_yes p m a n x v back f w h hf ht).mono fun _ _ ⟨he, hc, v', h', hv'⟩ => ⟨_, by rw [he, hb], hc, ⟨m, x, v', _, h', rfl, by rw [giveL, hb, if_pos rfl, List.append_assoc]⟩, ?_⟩
    intro i hi
    simp only [List.mem_cons] at hi ⊢
    rcases hi with rfl | rfl | hi
    · exact .inl (.inl rfl)
    · exact .inl (.inr (.inl rfl))
    · exact (hv' i hi).imp (fun h => .inr (.inr h)) id
  | false =>
    have hb : giveB a n (dnk x (a + n - x) ++ back) f = false := by
      unfold giveB
      by_cases hr : (a : Int) ≤ f ∧ f < a + n
      · rw [List.contains_iff_mem.2 (hmem.2 ⟨hr, ht⟩)]; simp
      · simp only [hr, decide_false, Bool.false_and]
    refine (FGive_no p m a n x v back f w h hf ht).mono fun _ _ ⟨he, hc⟩ => ⟨_, by rw [he, hb], hc.weak (by simp), ⟨m, x, v, back, h.chg hc (by simp) (by simp) (by simp), rfl, by rw [giveL, hb]; rfl⟩, Grew.refl _ _⟩

end Go.Proofs.Yteccjemmdaalpaa
