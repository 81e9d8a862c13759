/-
  The contract of the document's Give.
-/
import Derived.Test.YteccjemmdaalpaaRefreeB
namespace Go.Proofs.Yteccjemmdaalpaa
open Go.RowKit Go.Maps

theorem OwnI.src {w : World} {t : TypeId} {k : IntKind} {A : Option Addr} {n c : Nat} {L : List Int} (h : OwnI w t k (.slice A n c) L) : Src w 1 A n c (vals k L) := by
  have hn := h.slice
  subst hn
  obtain ⟨A', c', e, e1, e2⟩ := own_form h
  injection e with ea _ ec
  subst ea; subst ec
  refine ⟨by simp [vals_len], ?_, e1, ?_⟩
  · intro u hu
    obtain ⟨x, _, rfl⟩ := List.mem_map.1 hu
    rfl
  · intro a ha j u hu
    obtain ⟨g, rfl, _, _⟩ := e2 a ha
    subst ha
    rw [add_at, Nat.zero_add]
    rw [vals_get] at hu
    cases hx : L[j]? with
    | none => rw [hx] at hu; cases hu
    | some y =>
      rw [hx] at hu
      injection hu with hu
      have hj := (List.getElem?_eq_some_iff.1 hx).1
      rw [OwnI.cell h j hj, ← hu]
      simp [List.getD_eq_getElem?_getD, hx]

set_option maxHeartbeats 1000000 in
theorem RGive_no (S : List Nat) (p a n : Nat) (L : List Int) (f : Int) (w : World) (h : RAt w S p a n L) (hl : L.length ≤ 256) (han : a + n ≤ 256) (hg : giveB a n L f = false) :
    Calls Try.prog 13 #[.pointer (some ⟨p, 0, none⟩), .int .i64 f] w fun e w' => e = .returned (.bool false) ∧ Chg [] w w' := by
  have h' := h
  obtain ⟨v, hb, ho, rfl⟩ := h
  obtain ⟨c0, c1, c2⟩ := blkc3 hb
  have e1 : IntKind.i64.wrap ((a : Int) + n) = a + n := IntWalk.i64_in _ (by omega)
  have H := fun w0 (hw : RAt w0 (p :: v.ownBlock.toList) p a n L) => RHas_at _ p a n L f w0 hw hl
  by_cases h1 : f < a
  · go_enter Try.func13, Try.ntmps13
    go_wp2
    go_quiet ((go_at_call 19; exact Calls.quiet_of_same (H _ h')))
    go_wp2
    go_ret
    exact ⟨rfl, (Chg.refl _ _).drewN _⟩
  · by_cases h2 : a + n ≤ f
    · go_enter Try.func13, Try.ntmps13
      go_wp2
      go_quiet ((go_at_call 19; exact Calls.quiet_of_same (H _ h')))
      go_wp2
      go_ret
      exact ⟨rfl, (Chg.refl _ _).drewN _⟩
    · have hf : freeB L f = true := by
        unfold giveB at hg
        have e : decide ((a : Int) ≤ f ∧ f < a + n) = true := by simp; omega
        rw [e] at hg
        unfold freeB
        simpa using hg
      rw [hf] at H
      have h3 : (a : Int) ≤ f ∧ f < a + n := by omega
      go_enter Try.func13, Try.ntmps13
      go_wp2
      go_quiet ((go_at_call 19; exact Calls.quiet_of_same (H _ h')))
      go_wp2
      go_ret
      exact ⟨rfl, (Chg.refl _ _).drewN _⟩

set_option maxHeartbeats 2000000 in
theorem RGive_yes (S : List Nat) (p a n : Nat) (L : List Int) (f : Int) (w : World) (h : RAt w S p a n L) (hl : L.length ≤ 256) (han : a + n ≤ 256) (hg : giveB a n L f = true) :
    Calls Try.prog 13 #[.pointer (some ⟨p, 0, none⟩), .int .i64 f] w fun e w' => ∃ S', e = .returned (.bool true) ∧ Chg S w w' ∧ RAt w' S' p a n (L ++ [f]) ∧ Grew w S S' := by
  have h' := h
  obtain ⟨v, hb, ho, rfl⟩ := h
  obtain ⟨A, c, rfl⟩ := ho.form
  obtain ⟨c0, c1, c2⟩ := blkc3 hb
  have f2 := hb.frozen 2
  have hpl := hb.lt
  have e1 : IntKind.i64.wrap ((a : Int) + n) = a + n := IntWalk.i64_in _ (by omega)
  have hgb := hg
  simp only [giveB, Bool.and_eq_true, decide_eq_true_eq, Bool.not_eq_true'] at hgb
  have hf : freeB L f = false := hgb.2
  have h1 := hgb.1
  have h2 : ¬ f < a := by omega
  have h3 : ¬ (a : Int) + n ≤ f := by omega
  have H := fun w0 (hw : RAt w0 (p :: (Value.slice A L.length c).ownBlock.toList) p a n L) => RHas_at _ p a n L f w0 hw hl
  rw [hf] at H
  obtain ⟨i0, hi0, hz0, hz1, hz2⟩ := info_parts int_info
  clear hg hgb
  go_enter Try.func13, Try.ntmps13
  go_wp2
  go_quiet ((go_at_call 19; exact Calls.quiet_of_same (H _ h')))
  have hcd : Chg [] w (w.drewN nq) := (Chg.refl _ _).drewN nq
  generalize w.drewN nq = wd at *
  have hbd := hcd.blk hb (by simp)
  have hod := ho.chg hcd (by simp)
  have hne : p ≠ wd.heap.size := Nat.ne_of_lt hbd.lt
  have hba := hbd.alloc (Obj.cells #[] 3)
  obtain ⟨a0, a1, a2⟩ := blkc3 hba
  have hsrc := OwnI.src (hod.alloc (Obj.cells #[] 3))
  have hown := World.ownsRow_lit (base := 0) (e := 3) (size := 1) wd #[] 0 (Nat.zero_le _) (by simp [maxLen]) rfl
  have hlen : (vals .i64 L).length = L.length := vals_len _ _
  have HL := Lib.hid hlen; clear hlen
  go_wp2_with (first
    | (at_builtin
       refine wpList_append_src rfl _ _ 39 rfl 0 3 i0 _ 1 8 Try.underlying39 hi0 hz0 hz1 hz2 rfl (by omega) (.slice (some ⟨wd.heap.size, 0, none⟩) 0 0) 0 [] rfl hown A L.length c _ rfl hsrc (by simp [maxLen]; omega) (by omega) (by simp) ?_
       intro v1 w1 hown1 hc1 hv1
       simp only [List.nil_append, Nat.zero_add] at hown1
       obtain ⟨A1, k1, rfl, _, _⟩ := own_form hown1
       have hb1 := hc1.blk hba (by simp [Value.ownBlock]; omega)
       have hsz1 := hc1.size)
    | (at_builtin
       refine wpList_append_src rfl _ _ 39 rfl 0 3 i0 _ 1 8 Try.underlying39 hi0 hz0 hz1 hz2 rfl (by omega) (.slice A1 L.length k1) L.length (vals .i64 L) rfl (World.ownsRow.alloc hown1 _) (some ⟨w1.heap.size, 0, none⟩) 1 1 [.int .i64 f] rfl ⟨by simp, by simp [Value.oneCell'], by simp, cell_src _ w1⟩ (by simp [maxLen]; omega) (by omega) (by simp) ?_
       intro v3 w3 hown3 hc3 hv3
       obtain ⟨A3, k3, rfl, _, _⟩ := own_form hown3
       have hn1 : ∀ g ∈ (Value.slice A1 L.length k1).ownBlock.toList, p < g := by
         intro g hg
         have hbl := hbd.lt
         rcases hv1 with e | e
         · rw [e] at hg; simp [Value.ownBlock] at hg; omega
         · rw [e] at hg; simp at hg; omega
       have hst3 := hc3.blk (hb1.alloc _) (fun hm => absurd (hn1 _ hm) (by omega))
       obtain ⟨d0, d1, d2⟩ := blkc3 hst3
       have g2 := hst3.frozen 2))
  go_ret
  have hbl := hbd.lt
  have hn3 : ∀ g ∈ (Value.slice A3 (L.length + 1) k3).ownBlock.toList, wd.heap.size ≤ g := by
    intro g hg
    rcases hv3 with e | e
    · rw [e] at hg
      rcases hv1 with e | e
      · rw [e] at hg; simp [Value.ownBlock] at hg; omega
      · rw [e] at hg; simp at hg; omega
    · rw [e] at hg; simp at hg hsz1; omega
  have hsd := hcd.size
  have hcl : Chg [p] w3 (w3.setCell ⟨p, 2, none⟩ (.slice A3 (L.length + 1) k3)) := (Chg.refl _ _).setCell (by simp) _
  have hcd1 : Chg [] wd w1 := ((Chg.refl _ _).alloc _).trans hc1 (by intro i hi hm; simp [Value.ownBlock] at hm; omega)
  have hcd3 : Chg [] wd w3 := (hcd1.alloc _).trans hc3 (by
    intro i hi hm
    rcases hv1 with e | e
    · rw [e] at hm; simp [Value.ownBlock] at hm; omega
    · rw [e] at hm; simp at hm; omega)
  refine ⟨rfl, ?_, _, ⟨_, hst3.set_ 2 _, ?_, rfl⟩, ?_⟩
  · exact ((hcd.trans hcd3 (by simp)).weak (by simp)).trans hcl (by intro k _ hk; simp at hk; subst hk; simp)
  · refine OwnI.chg ?_ hcl (by intro g hg hm; simp at hm; have := hn3 g hg; omega)
    unfold OwnI
    rw [vals_app, vals_one, List.length_append]
    exact hown3
  · intro i hi
    simp only [List.mem_cons] at hi ⊢
    rcases hi with rfl | hi
    · exact .inl (.inl rfl)
    · exact .inr (by have := hn3 i hi; omega)

theorem RGive_at (S : List Nat) (p a n : Nat) (L : List Int) (f : Int) (w : World) (h : RAt w S p a n L) (hl : L.length ≤ 256) (han : a + n ≤ 256) :
    Calls Try.prog 13 #[.pointer (some ⟨p, 0, none⟩), .int .i64 f] w fun e w' => ∃ S', e = .returned (.bool (giveB a n L f)) ∧ Chg S w w' ∧ RAt w' S' p a n (giveL a n L f) ∧ Grew w S S' := by
  cases hg : giveB a n L f with
  | true =>
    refine (RGive_yes S p a n L f w h hl han hg).mono fun _ _ ⟨S', he, hc, hr, hG⟩ => ⟨S', he, hc, ?_, hG⟩
    rw [giveL, hg, if_pos rfl]; exact hr
  | false =>
    refine (RGive_no S p a n L f w h hl han hg).mono fun _ _ ⟨he, hc⟩ => ⟨S, he, hc.weak (by simp), ?_, Grew.refl _ _⟩
    rw [giveL, hg, if_neg (by simp)]; exact h.chg hc (by simp)

end Go.Proofs.Yteccjemmdaalpaa
