/-
  The contracts of the document's list of free frames: Left, Has, Take, Give.
-/
import Derived.Test.YteccjemmdaalpaaRefree
namespace Go.Proofs.Yteccjemmdaalpaa
open Go.RowKit Go.Maps

set_option maxHeartbeats 400000 in
theorem RLeft_at (S : List Nat) (p a n : Nat) (L : List Int) (w : World) (h : RAt w S p a n L) (hl : L.length ≤ 256) :
    Calls Try.prog 17 #[.pointer (some ⟨p, 0, none⟩)] w fun e w' => e = .returned (.int .i64 L.length) ∧ w = w' := by
  obtain ⟨v, hb, ho, rfl⟩ := h
  obtain ⟨c0, c1, c2⟩ := blkc3 hb
  obtain ⟨A, c, rfl⟩ := ho.form
  clear hb ho
  generalize L.length = m at *
  go_enter Try.func17, Try.ntmps17
  go_wp2
  go_ret
  exact ⟨rfl, rfl⟩

theorem contains_take_succ (L : List Int) (k : Nat) (hk : k < L.length) (f : Int) : (L.take (k + 1)).contains f = ((L.take k).contains f || L.getD k 0 == f) := by
  rw [List.take_succ_eq_append_getElem hk, Bool.eq_iff_iff]
  simp only [List.contains_iff_mem, List.mem_append, List.mem_singleton, Bool.or_eq_true, beq_iff_eq, List.getD_eq_getElem?_getD, List.getElem?_eq_getElem hk, Option.getD_some]
  exact ⟨fun h => h.imp id Eq.symm, fun h => h.imp id Eq.symm⟩

set_option maxHeartbeats 1000000 in
theorem RHas_at (S : List Nat) (p a n : Nat) (L : List Int) (f : Int) (w : World) (h : RAt w S p a n L) (hl : L.length ≤ 256) :
    Calls Try.prog 19 #[.pointer (some ⟨p, 0, none⟩), .int .i64 f] w fun e w' => e = .returned (.bool (freeB L f)) ∧ w' = w := by
  obtain ⟨v, hb, ho, rfl⟩ := h
  obtain ⟨c0, c1, c2⟩ := blkc3 hb
  obtain ⟨A, c, rfl⟩ := ho.form
  go_enter Try.func19, Try.ntmps19
  go_wp2
  go_loop [5] (fun i => ∃ k : Nat, k ≤ L.length ∧ i = .int .i64 k ∧ (L.take k).contains f = false) (fun i => L.length - (intOf i).toNat)
  case atStart => exact ⟨0, by omega, rfl, by simp⟩
  case round =>
    obtain ⟨k, hk, rfl, hn⟩ := hrel
    have HN := Lib.hid hn; clear hn
    by_cases hlt : k < L.length
    · obtain ⟨g, c', hA, hcl, hcm⟩ := ho.pos_ (by omega)
      injection hA with hA hA2 hA3
      subst hA; subst hA3
      have ck := ho.cell k hlt
      have hs := contains_take_succ L k hlt f
      have hfull : L.getD k 0 = f → L.contains f = true := fun e => by
        rw [List.contains_iff_mem, ← e]
        simp only [List.getD_eq_getElem?_getD, List.getElem?_eq_getElem hlt, Option.getD_some]
        exact List.getElem_mem hlt
      have HS := Lib.hid hs; clear hs
      have HF := Lib.hid hfull; clear hfull
      generalize L.getD k 0 = x at *
      by_cases hx : x = f
      · have e1 : (x == f) = true := by simp [hx]
        have HX := Lib.hid hx; clear hx
        go_wp2
        go_ret
        exact ⟨ret_bool (HF.out HX.out).symm, rfl⟩
      · have e1 : (x == f) = false := by simp [hx]
        go_wp2
        go_round
        case rel => exact ⟨k + 1, by omega, by go_num, by rw [HS.out, HN.out, e1]; rfl⟩
        case measure => simp [intOf]; omega
    · have hk' : k = L.length := by omega
      have HK := Lib.hid hk'; clear hk'
      go_wp2
      go_ret
      exact ⟨ret_bool (by have := HN.out; rw [HK.out, List.take_length] at this; unfold freeB; exact this.symm), rfl⟩

set_option maxHeartbeats 400000 in
theorem RTake_at (S : List Nat) (p a n : Nat) (L : List Int) (w : World) (h : RAt w S p a n L) (hl : L.length ≤ 256) :
    Calls Try.prog 15 #[.pointer (some ⟨p, 0, none⟩)] w fun e w' => e = .returned (.tuple #[.int .i64 (takeV L), .bool (takeB L)]) ∧ Chg S w w' ∧ RAt w' S p a n L.dropLast := by
  obtain ⟨v, hb, ho, rfl⟩ := h
  obtain ⟨c0, c1, c2⟩ := blkc3 hb
  have f2 := hb.frozen 2
  rcases List.eq_nil_or_concat L with rfl | ⟨M, f, rfl⟩
  · obtain ⟨A, c, rfl⟩ := ho.form
    go_enter Try.func15, Try.ntmps15
    go_wp2
    go_ret2
    exact ⟨rfl, Chg.refl _ _, _, hb, ho, rfl⟩
  · rw [List.concat_eq_append] at ho hl ⊢
    obtain ⟨g, c, rfl, hcl, hcm⟩ := ho.pos_ (by simp)
    have d := ho.cell M.length (by simp)
    simp only [List.getD_eq_getElem?_getD, List.getElem?_append_right (Nat.le_refl _), Nat.sub_self, List.getElem?_cons_zero, Option.getD_some] at d
    have hgp : g ≠ p := by
      obtain ⟨cur, hg⟩ := ho.blk (g := g) (by simp [Value.ownBlock])
      exact hg.type_ne hb (by decide)
    have hT := ho.take M.length (by simp)
    rw [List.take_left] at hT
    simp only [List.length_append, List.length_cons, List.length_nil, Nat.zero_add] at hl hcl ho hb c2 ⊢
    have HM := Lib.hid (show takeV (M ++ [f]) = f ∧ takeB (M ++ [f]) = true from ⟨takeV_app M f, takeB_app M f⟩)
    go_enter Try.func15, Try.ntmps15
    go_wp2
    go_ret2
    have hcl : Chg [p] w (w.setCell ⟨p, 2, none⟩ (.slice (some ⟨g, 0, none⟩) M.length c)) := (Chg.refl _ _).setCell (by simp) _
    refine ⟨by rw [HM.out.1, HM.out.2]; rfl, hcl.weak (by intro k _ hk; simp at hk; subst hk; simp), .slice (some ⟨g, 0, none⟩) M.length c, hb.set_ 2 _, ?_, rfl⟩
    rw [List.dropLast_concat]
    exact hT.chg hcl (by simpa [Value.ownBlock] using hgp)

end Go.Proofs.Yteccjemmdaalpaa
