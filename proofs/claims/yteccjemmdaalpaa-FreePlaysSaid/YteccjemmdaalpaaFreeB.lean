/-
  The contracts of free's New, Take, Give, Has, Left, in one list: those that are free, the one that is taken next last.
-/
import Derived.Test.YteccjemmdaalpaaFreeA
namespace Go.Proofs.Yteccjemmdaalpaa
open Go.RowKit Go.Maps

/-- p is a list of the frames from a on, n many, of which those of L are free; its blocks are S -/
def FAt (w : World) (S : List Nat) (p a n : Nat) (L : List Int) : Prop :=
  ∃ m x v back, FIn w p m a n x v back ∧ S = p :: m :: v.ownBlock.toList ∧ L = dnk x (a + n - x) ++ back

section
variable {w w' : World} {S T : List Nat} {p a n : Nat} {L : List Int}
theorem FAt.chg (h : FAt w S p a n L) (hc : Chg T w w') (hd : ∀ i ∈ S, i ∉ T) : FAt w' S p a n L := by
  obtain ⟨m, x, v, back, h, rfl, rfl⟩ := h
  exact ⟨m, x, v, back, h.chg hc (hd p (by simp)) (hd m (by simp)) (fun g hg => hd g (by simp only [List.mem_cons]; exact .inr (.inr hg))), rfl, rfl⟩
theorem FAt.lt (h : FAt w S p a n L) : ∀ i ∈ S, i < w.heap.size := by
  obtain ⟨m, x, v, back, h, rfl, rfl⟩ := h
  intro i hi
  simp only [List.mem_cons] at hi
  rcases hi with rfl | rfl | hi
  · exact h.st.lt
  · exact h.mp.lt
  · exact h.bk.lt i hi
theorem FAt.mem_self (h : FAt w S p a n L) : p ∈ S := by
  obtain ⟨m, x, v, back, h, rfl, rfl⟩ := h
  simp
theorem FAt.bounds (h : FAt w S p a n L) : a + n ≤ 256 := by
  obtain ⟨m, x, v, back, h, rfl, rfl⟩ := h
  exact h.le
theorem FIn.mem_iff {m x : Nat} {v : Value} {back : List Int} (h : FIn w p m a n x v back) (f : Int) : f ∈ dnk x (a + n - x) ++ back ↔ ((a : Int) ≤ f ∧ f < a + n) ∧ takenB a x back f = false := by
  have h1 := h.ax; have h2 := h.xn; have h3 := h.mem f
  rw [List.mem_append, mem_dnk]
  unfold takenB
  by_cases hb : f ∈ back
  · have h4 := h3 hb
    simp only [hb, or_true, true_iff]
    exact ⟨by omega, by rw [List.contains_iff_mem.2 hb]; simp⟩
  · have hb' : back.contains f = false := by simpa using hb
    simp only [hb, or_false, hb', Bool.not_false, Bool.and_true, decide_eq_false_iff_not]
    omega
theorem FAt.mem (h : FAt w S p a n L) : ∀ f ∈ L, (a : Int) ≤ f ∧ f < a + n := by
  obtain ⟨m, x, v, back, h, rfl, rfl⟩ := h
  exact fun f hf => ((h.mem_iff f).1 hf).1
theorem dnk_nodup (x : Nat) : ∀ k, (dnk x k).Nodup
  | 0 => by simp [dnk]
  | k + 1 => by
    rw [dnk, List.nodup_cons, mem_dnk]
    exact ⟨by omega, dnk_nodup x k⟩
theorem FAt.nodup (h : FAt w S p a n L) : L.Nodup := by
  obtain ⟨m, x, v, back, h, rfl, rfl⟩ := h
  rw [List.nodup_append]
  refine ⟨dnk_nodup _ _, h.nd, fun y hy z hz => ?_⟩
  rw [mem_dnk] at hy
  have := h.mem z hz
  omega
theorem FAt.len_le (h : FAt w S p a n L) : L.length ≤ n := by
  obtain ⟨m, x, v, back, h, rfl, rfl⟩ := h
  have h1 := h.ax; have h2 := h.xn
  rw [List.length_append, dnk_len]; omega
end

theorem FNew_at (a n : Nat) (w : World) (h : a + n ≤ 256) :
    Calls Try.prog 10 #[.int .i64 a, .int .i64 n] w fun e w' => ∃ p S, e = .returned (.pointer (some ⟨p, 0, none⟩)) ∧ Chg [] w w' ∧ FAt w' S p a n (dnk a n) ∧ ∀ i ∈ S, w.heap.size ≤ i :=
  (FNew_in a n w h).mono fun _ _ ⟨he, hc, hf⟩ => ⟨_, _, he, hc, ⟨_, _, _, _, hf, rfl, by rw [Nat.add_sub_cancel_left, List.append_nil]⟩, by simp [Value.ownBlock]⟩

theorem FLeft_at (S : List Nat) (p a n : Nat) (L : List Int) (w : World) (h : FAt w S p a n L) :
    Calls Try.prog 16 #[.pointer (some ⟨p, 0, none⟩)] w fun e w' => e = .returned (.int .i64 L.length) ∧ ∃ q, w' = w.drewN q := by
  obtain ⟨m, x, v, back, h, rfl, rfl⟩ := h
  refine (FLeft_any p m a n x v back w h).mono fun _ _ ⟨he, hq⟩ => ⟨he.trans (ret_int ?_), hq⟩
  have h1 := h.ax; have h2 := h.xn
  rw [List.length_append, dnk_len]; omega

/-- is f free? -/
def freeB (L : List Int) (f : Int) : Bool := L.contains f
theorem FHas_at (S : List Nat) (p a n : Nat) (L : List Int) (f : Int) (w : World) (h : FAt w S p a n L) (hf : -9223372036854775808 ≤ f ∧ f ≤ 9223372036854775807) :
    Calls Try.prog 18 #[.pointer (some ⟨p, 0, none⟩), .int .i64 f] w fun e w' => e = .returned (.bool (freeB L f)) ∧ Chg [] w w' := by
  obtain ⟨m, x, v, back, h, rfl, rfl⟩ := h
  refine (FHas_any p m a n x v back f w h hf).mono fun _ _ ⟨he, hq⟩ => ⟨he.trans (ret_bool ?_), hq⟩
  unfold freeB
  rw [Bool.eq_iff_iff, List.contains_iff_mem, h.mem_iff f]
  simp

/-- what a Take answers, and whether it does -/
def takeV (L : List Int) : Int := L.getLastD 0
def takeB (L : List Int) : Bool := !L.isEmpty
theorem takeV_app (L : List Int) (f : Int) : takeV (L ++ [f]) = f := by simp [takeV]
theorem takeB_app (L : List Int) (f : Int) : takeB (L ++ [f]) = true := by simp [takeB]

set_option maxHeartbeats 800000 in
theorem FTake_at (S : List Nat) (p a n : Nat) (L : List Int) (w : World) (h : FAt w S p a n L) :
    Calls Try.prog 14 #[.pointer (some ⟨p, 0, none⟩)] w fun e w' => e = .returned (.tuple #[.int .i64 (takeV L), .bool (takeB L)]) ∧ Chg S w w' ∧ FAt w' S p a n L.dropLast := by
  obtain ⟨m, x, v, back, h, rfl, rfl⟩ := h
  have h1 := h.ax; have h2 := h.xn; have h3 := h.le
  rcases List.eq_nil_or_concat back with rfl | ⟨bk, f, rfl⟩
  · by_cases hx : x = a + n
    · go_enter Try.func14, Try.ntmps14
      go_wp2_with fail
      refine (pick_none p m a n x v _ h hx).mono ?_; rintro e w' ⟨rfl, q, rfl⟩
      go_wp2_with fail
      go_ret2
      subst hx
      exact ⟨by simp [takeV, takeB, dnk], (Chg.refl _ _).drewN q, ⟨m, _, v, [], h.chg ((Chg.refl [] _).drewN q) (by simp) (by simp) (by simp), rfl, by simp [dnk]⟩⟩
    · have hx' : x < a + n := by omega
      obtain ⟨c0, c1, c2, c3, c4⟩ := h.c
      have hmp : m ≠ p := h.ne1
      have hne := h.ne2
      have hS : takenB a x [] (x : Int) = false := by simp [takenB]
      have hwf : (Lit.int .i64 x).wf = true := WalkArith.wf_i64 (by omega)
      have hL : dnk x (a + n - x) = dnk (x + 1) (a + n - (x + 1)) ++ [(x : Int)] := by rw [← dnk_snoc, show a + n - (x + 1) + 1 = a + n - x by omega]
      go_enter Try.func14, Try.ntmps14
      go_wp2_with fail
      refine (pick_next p m a n x v _ h hx').mono ?_; rintro e w1 ⟨rfl, q, hw1⟩
      have hc1 : Chg [p] w w1 := hw1 ▸ ((Chg.refl [p] w).drewN q).setCell (by simp) _
      have hst1 : Blk w1 p 45 #[.int .i64 a, .int .i64 (x + 1), .int .i64 (a + n), v, .map (some m)] := by
        have := (h.st.drewN q).set_ 1 (.int .i64 (x + 1))
        rw [hw1] at this
        exact this
      have hm1 := h.mp.chg hc1 (by simpa using hmp)
      have hb1 := h.bk.chg hc1 (by simpa using hne)
      have d4 := hst1.cell 4
      simp only [List.getElem?_toArray, List.getElem?_cons_succ, List.getElem?_cons_zero] at d4
      clear hw1
      have HL := Lib.hid hL; clear hL
      go_wp2_with (at_mapUpdate; refine wpList_store_set rfl _ _ _ 43 rfl 48 lawI Try.underlying43 Try.underlying3 m _ _ rfl hm1 (by simp [maxLen]; omega) x rfl rfl hwf hS ?_; intro w2 hm2 hc2)
      go_ret2
      have hc12 : Chg (p :: m :: v.ownBlock.toList) w w2 := (hc1.weak (T := p :: m :: v.ownBlock.toList) (by intro k _ hk; simp at hk; subst hk; simp)).trans hc2 (by intro k _ hk; simp at hk; subst hk; simp)
      refine ⟨by rw [List.append_nil, HL.out, takeV_app, takeB_app]; rfl, hc12, m, x + 1, v, [], ⟨?_, hb1.chg hc2 (by simpa using h.ne3), ?_, by simp; omega, by omega, by omega, by simp, by simp⟩, rfl, by rw [List.append_nil, HL.out]; simp⟩
      · have := hc2.blk hst1 (by simpa using fun e => hmp e.symm)
        simpa using this
      · have e : x + 1 - a - ([] : List Int).length = x - a - ([] : List Int).length + 1 := by simp at h1 ⊢; omega
        rw [e]
        exact hm2.congr fun y => by rw [Bool.eq_iff_iff]; simp [insS, takenB]; omega
  · rw [List.concat_eq_append] at h h1
    obtain ⟨g, c, rfl, hcl, hcm⟩ := h.bk.pos_ (by simp)
    have hb0 := h.bk
    have hst0 := h.st
    have hfm := h.mem f (by simp)
    have hfn : f ∉ bk := by have := h.nd; rw [List.nodup_append] at this; exact fun hm => this.2.2 f hm f (by simp) rfl
    have hmp : m ≠ p := h.ne1
    have hgp : g ≠ p := h.ne2 g (by simp [Value.ownBlock])
    have hgm : g ≠ m := h.ne3 g (by simp [Value.ownBlock])
    have hS : takenB a x (bk ++ [f]) f = false := by simp [takenB]
    have hwf : (Lit.int .i64 f).wf = true := WalkArith.wf_i64 (by omega)
    simp only [List.length_append, List.length_cons, List.length_nil, Nat.zero_add] at h h1 hcl hb0 hst0
    have hP := pick_back p m a n x g c bk f w h hcl hcm
    go_enter Try.func14, Try.ntmps14
    go_wp2_with fail
    refine hP.mono ?_; rintro e w1 ⟨rfl, hw1⟩
    have hc1 : Chg [p] w w1 := hw1 ▸ (Chg.refl [p] w).setCell (by simp) _
    have hst1 : Blk w1 p 45 #[.int .i64 a, .int .i64 x, .int .i64 (a + n), .slice (some ⟨g, 0, none⟩) bk.length c, .map (some m)] := by
      have := hst0.set_ 3 (.slice (some ⟨g, 0, none⟩) bk.length c)
      rw [hw1] at this
      exact this
    have hm1 := h.mp.chg hc1 (by simpa using hmp)
    have hb1 : OwnI w1 3 .i64 (.slice (some ⟨g, 0, none⟩) bk.length c) bk := by
      have := (hb0.chg hc1 (by simpa [Value.ownBlock] using hgp)).take bk.length (by simp)
      simpa using this
    have d4 := hst1.cell 4
    simp only [List.getElem?_toArray, List.getElem?_cons_succ, List.getElem?_cons_zero] at d4
    clear hw1 hP
    go_wp2_with (at_mapUpdate; refine wpList_store_set rfl _ _ _ 43 rfl 48 lawI Try.underlying43 Try.underlying3 m _ _ rfl hm1 (by simp [maxLen]; omega) f rfl rfl hwf hS ?_; intro w2 hm2 hc2)
    go_ret2
    have hc12 : Chg (p :: m :: (Value.slice (some ⟨g, 0, none⟩) (bk.length + 1) c).ownBlock.toList) w w2 := (hc1.weak (by intro k _ hk; simp at hk; subst hk; simp)).trans hc2 (by intro k _ hk; simp at hk; subst hk; simp)
    refine ⟨by rw [List.concat_eq_append, ← List.append_assoc, takeV_app, takeB_app]; rfl, hc12, m, x, .slice (some ⟨g, 0, none⟩) bk.length c, bk, ⟨?_, hb1.chg hc2 (by simpa [Value.ownBlock] using hgm), ?_, by omega, h2, h3, fun y hy => h.mem y (by simp [hy]), by have := h.nd; rw [List.nodup_append] at this; exact this.1⟩, rfl, by rw [List.concat_eq_append, ← List.append_assoc]; simp⟩
    · exact hc2.blk hst1 (by simpa using fun e => hmp e.symm)
    · have e : x - a - bk.length = x - a - (bk ++ [f]).length + 1 := by simp; omega
      rw [e]
      exact hm2.congr fun y => by
        rw [Bool.eq_iff_iff]
        by_cases hy : y = f
        · subst hy; simp [insS, takenB, hfn]; omega
        · simp [insS, takenB, hy]

end Go.Proofs.Yteccjemmdaalpaa
