/-
  The contract of the document's Put.
-/
import Derived.Test.YtikdoldmhlbklaaTlbQ
namespace Go.Proofs.Ytikdoldmhlbklaa
open Go.RowKit Go.Shelf

set_option maxRecDepth 100000 in
set_option maxHeartbeats 8000000 in
theorem RTPut_at (S : List Nat) (p most : Nat) (L : List Ht) (h : Ht) (w : World) (hT : RTAt w S p most L) :
    Calls Try.prog 22 #[.pointer (some ⟨p, 0, none⟩), h.v] w fun e w' => e = .returned (.tuple #[]) ∧ Chg S w w' ∧ ∃ S', RTAt w' S' p most (putT most L h) ∧ Grew w S S' := by
  have hbx0 := BlkH.new w h
  have hc0 : Chg [] w (w.alloc (.cells #[.int .i64 h.a, .int .i64 h.p, .int .i64 h.f, .bool h.w, .bool h.u, .bool h.x, .bool h.d] 31)) := (Chg.refl [] w).alloc _
  have hT0 := hT.self hc0
  have hSlt := hT.lt
  have hbS : w.heap.size ∉ S := fun hm => Nat.lt_irrefl _ (hSlt _ hm)
  have hD := RTDrop_at S p most L h.a h.p _ hT0
  obtain ⟨b0, b1, b2, b3, b4, b5, b6⟩ := hbx0.cells
  obtain ⟨v0, _, hS⟩ := hT
  subst hS
  clear hT0
  unfold putT
  unfold Ht.v
  generalize dropT L h.a h.p = M at *
  generalize hasT L h.a h.p = t0 at *
  obtain ⟨N, hNe⟩ : ∃ N, N = cutT most M := ⟨_, rfl⟩
  rw [← hNe]
  have HNE := Lib.hid hNe
  clear hNe
  go_enter Try.func22, Try.ntmps22
  go_wp2_with fail
  refine hD.mono ?_; rintro e w1 ⟨S1, rfl, hc1, h1, hG1⟩
  have hbx1 := hbx0.chg hc1 hbS
  have hch1 := (hc0.weak (T := p :: v0.ownBlock.toList) (by simp)).trans hc1 (fun _ _ h => h)
  clear b0 b1 b2 b3 b4 b5 b6 hbx0 hD hc1
  obtain ⟨v1, h1, rfl⟩ := h1
  obtain ⟨d0, d1⟩ := h1.c
  have hMle := h1.le
  have hlo0 := h1.lo
  have hhi0 := h1.hi
  have hv1 : ∀ i ∈ v1.ownBlock.toList, i ∈ (p :: v0.ownBlock.toList) ∨ w.heap.size < i := fun i hi => by
    rcases hG1 i (List.mem_cons_of_mem _ hi) with h | h
    · exact .inl h
    · right; rw [World.size_alloc] at h; omega
  generalize hbxe : w.heap.size = bx at *
  have HBX := Lib.hid hbxe
  clear hbxe hG1
  have hbv1 : bx ∉ v1.ownBlock.toList := fun hm => by
    rcases hv1 bx hm with h | h
    · exact hbS h
    · omega
  have hbp : bx ≠ p := fun e => hbS (e ▸ List.mem_cons_self)
  have hbxlt := hbx1.lt
  obtain ⟨A, c, rfl, _, _⟩ := h1.ow.form
  by_cases hfull : M.length = most
  · have eN : M.drop 1 = N := by rw [HNE.out]; unfold cutT; rw [if_pos hfull]
    have hNl : (M.drop 1).length + 1 ≤ most := by simp; omega
    have e1 : ((M.length : Int) == most) = true := by simp [hfull]
    rw [eN] at hNl
    have HNL := Lib.hid hNl
    have hM1 : 1 ≤ M.length := by omega
    have HM1 := Lib.hid (show (M.drop 1).length = M.length - 1 by simp)
    obtain ⟨g, c', hgc⟩ := h1.ow.pos_ (by omega)
    injection hgc with hgA _ hgC
    subst hgA; subst hgC
    obtain ⟨tl, hrow, _, hcap, hmax, htl⟩ := h1.ow.row
    clear hNl hfull
    go_wp2_with fail
    go_quiet (fail)
    have h1q := h1.chg ((Chg.refl [] w1).drewN nq) (by simp) (by simp)
    have hbxq := hbx1.chg ((Chg.refl [] w1).drewN nq) (by simp)
    have hchq := hch1.drewN nq
    have hszq : (w1.drewN nq).heap.size = w1.heap.size := rfl
    have hrowq := hrow.chg ((Chg.refl [] w1).drewN nq) (by simp)
    clear d0 d1 hrow h1 hbx1 hch1 e1
    generalize w1.drewN nq = w2 at *
    have hA2 := (Chg.refl [] w2).alloc (.cells #[] 31)
    have hmade : OwnH (w2.alloc (.cells #[] 31)) (.slice (some ⟨w2.heap.size, 0, none⟩) 0 0) [] := made0 (Blk.new w2 _ #[])
    have hst2 := hA2.blk h1q.st (by simp)
    have k1 := hst2.cell 1
    simp only [List.getElem?_toArray, List.getElem?_cons_succ, List.getElem?_cons_zero] at k1
    obtain ⟨A2, hA2', hs2⟩ : ∃ A2 : Addr, (if c = 1 then some (⟨g, 0, none⟩ : Addr) else some ⟨g, 7, none⟩) = some A2 ∧ Hid (∀ W, SlH W (some ⟨g, 0, none⟩) M.length M → SlH W (some A2) (M.length - 1) (M.drop 1)) := by
      by_cases e : c = 1
      · exact ⟨⟨g, 0, none⟩, by simp [e], fun W hW => hW.drop (by omega) (.inl (by omega))⟩
      · exact ⟨⟨g, 7, none⟩, by simp [e], fun W hW => hW.drop (by omega) (.inr (by simp))⟩
    have hsrc2 : Src (w2.alloc (.cells #[] 31)) 7 (some A2) (M.length - 1) (c - 1) (encH (M.drop 1)) := (hs2.out _ ((hrowq.chg hA2 (by simp)).own_all c htl hmax).slh).src (by simp)
    have hlM : M.length < 1000 := by omega
    have hbn : bx ∉ (Value.slice (some ⟨g, 0, none⟩) M.length c).ownBlock.toList := hbv1
    rw [eN] at hsrc2 HM1
    have HST2 := Lib.hid hst2
    have HHQ := Lib.hid h1q
    have hbx2 := hbxq.chg hA2 (by simp)
    have hch2 := hchq.trans hA2 (by simp)
    have hz2 : w2.heap.size = w1.heap.size := hszq
    have HZ2 := Lib.hid hz2
    have HTL := Lib.hid htl
    have hM1n : 1 ≤ c := by omega
    clear hst2 h1q hbxq hchq hrowq hz2 hszq htl eN
    have hML := HM1.out
    generalize hml : M.length = ml at *
    have HML := Lib.hid hml
    have HNM := Lib.hid hML
    clear hml hML HM1
    go_wp2_with (at_builtin; refine wpList_append_own_H rfl _ _ rfl _ [] rfl hmade (some A2) (ml - 1) (c - 1) N rfl hsrc2 HNM.out (by simp; omega) ?_)
    intro v3 w3 ho3 hc3 hb3
    have hpz : p ≠ w2.heap.size := by have := HHQ.out.st.lt; omega
    have hst3 := hc3.blk HST2.out (by simp [Value.ownBlock]; exact hpz)
    have f3 := hst3.frozen 1
    have k3 := hst3.cell 1
    simp only [List.getElem?_toArray, List.getElem?_cons_succ, List.getElem?_cons_zero] at k3
    obtain ⟨A3, c3, rfl, _, _⟩ := ho3.form
    have ho3 : OwnH w3 (.slice A3 ([] ++ N).length c3) N := ho3
    simp only [List.nil_append] at ho3
    go_wp2_with fail
    have hcl : Chg [p] w3 (w3.setCell ⟨p, 1, none⟩ (.slice A3 N.length c3)) := (Chg.refl _ _).setCell (by simp) _
    have hnew3 : ∀ i ∈ (Value.slice A3 N.length c3).ownBlock.toList, w2.heap.size ≤ i := fun i hi => by
      rcases hb3 with e | e
      · change (Value.slice A3 N.length c3).ownBlock = _ at e
        rw [e] at hi; simp [Value.ownBlock] at hi; omega
      · change (Value.slice A3 N.length c3).ownBlock = _ at e
        rw [e] at hi; simp at hi; omega
    have hp2 := HHQ.out.st.lt
    have h3 : RTIn (w3.setCell ⟨p, 1, none⟩ (.slice A3 N.length c3)) p most (.slice A3 N.length c3) N := ⟨hst3.set_ 1 _, ho3.chg hcl (by intro i hi hm; simp at hm; subst hm; have := hnew3 i hi; omega), by have := HNL.out; omega, hlo0, hhi0⟩
    have hbx3 := (hbx2.chg hc3 (by simp [Value.ownBlock]; have := HZ2.out; omega)).chg hcl (by simpa using hbp)
    have hch3 := (hch2.trans hc3 (by intro i hi hm; simp [Value.ownBlock] at hm; have := hch2.size; have := HBX.out; have := HZ2.out; omega)).trans hcl (by intro k _ hk; simp at hk; subst hk; simp)
    have hv3 : ∀ i ∈ (Value.slice A3 N.length c3).ownBlock.toList, i ∈ (p :: v0.ownBlock.toList) ∨ bx < i := fun i hi => .inr (by have := hnew3 i hi; have := HZ2.out; omega)
    clear hnew3 hcl ho3 hst3 k3 f3 hb3 hc3 hbx2 hch2 k1 hsrc2 hmade hA2
    generalize hv3e : Value.slice A3 N.length c3 = v3 at *
    clear hv3e
    generalize w3.setCell ⟨p, 1, none⟩ v3 = w3 at *
    obtain ⟨A3, c3, rfl, _, _⟩ := h3.ow.form
    have hst3 := h3.st
    have how3 := h3.ow
    obtain ⟨d0, d1⟩ := h3.c
    obtain ⟨b0, b1, b2, b3, b4, b5, b6⟩ := hbx3.cells
    have hne3 := h3.ne
    have hlo := h3.lo; have hhi := h3.hi
    have hA0 := (Chg.refl [] w3).drew.alloc (.cells #[.int .i64 h.a, .int .i64 h.p, .int .i64 h.f, .bool h.w, .bool h.u, .bool h.x, .bool h.d] 31)
    have hnb : BlkH (w3.drew.alloc (.cells #[.int .i64 h.a, .int .i64 h.p, .int .i64 h.f, .bool h.w, .bool h.u, .bool h.x, .bool h.d] 31)) w3.heap.size h := BlkH.new w3.drew h
    have how4 := how3.chg hA0 (by simp)
    have hst4 := hA0.blk hst3 (by simp)
    have e4 := hst4.cell 1
    simp only [List.getElem?_toArray, List.getElem?_cons_succ, List.getElem?_cons_zero] at e4
    have e4' : (w3.alloc (.cells #[.int .i64 h.a, .int .i64 h.p, .int .i64 h.f, .bool h.w, .bool h.u, .bool h.x, .bool h.d] 31)).cell? ⟨p, 1, none⟩ = some (.slice A3 N.length c3) := e4
    have hsrc := hnb.src
    have HST4 := Lib.hid hst4
    have hN3 := HNL.out
    have HN1 := Lib.hid (show N.length + 1 ≤ 1000000 by omega)
    have HCH := Lib.hid hch3
    clear h3 hst3 hst4 hnb hbx3 hch3 hN3
    go_region_law (refine step_append_H (some 37) rfl rfl (.tmp 34) (.tmp 36) rfl (.slice A3 N.length c3) N (by first | (simp [Act.eval]; done) | simp [Act.eval, Act.put]) how4 (some ⟨w3.heap.size, 0, none⟩) 1 1 [h] (by first | (simp [Act.eval]; done) | simp [Act.eval, Act.put]) hsrc rfl HN1.out ?_
                   intro v5 w5 ho5 hc5 hb5
                   have hst5 := hc5.blk HST4.out (fun hm => hne3 p hm rfl)
                   have f5 := hst5.frozen 1
                   have e5 := hst5.cell 1
                   simp only [List.getElem?_toArray, List.getElem?_cons_succ, List.getElem?_cons_zero] at e5
                   obtain ⟨A5, c5, rfl, _, _⟩ := ho5.form
                   have HST5 := Lib.hid hst5
                   clear hst5)
    all_goals
      have hp4 : p < (w3.drew.alloc (.cells #[.int .i64 h.a, .int .i64 h.p, .int .i64 h.f, .bool h.w, .bool h.u, .bool h.x, .bool h.d] 31)).heap.size := HST4.out.lt
      have hcl : Chg [p] w5 (w5.setCell ⟨p, 1, none⟩ (.slice A5 (N ++ [h]).length c5)) := (Chg.refl _ _).setCell (by simp) _
      have hpn5 : p ∉ (Value.slice A5 (N ++ [h]).length c5).ownBlock.toList := put_own hb5 hp4 (fun hm => hne3 p hm rfl)
      have hk5 : Chg (p :: v0.ownBlock.toList) w w5 := by
        refine ((HCH.out.trans hA0 (by simp)).trans hc5 fun i hi hm => ?_)
        rcases hv3 i hm with h | h
        · exact h
        · have := HBX.out; omega
      have HC := Lib.hid (hk5.trans hcl (by intro k _ hk; simp at hk; subst hk; simp))
      have HO := Lib.hid (ho5.chg hcl (by intro i hi hm; simp at hm; subst hm; exact hpn5 hi))
      have HN5 := Lib.hid (show (N ++ [h]).length ≤ most by have := HNL.out; simp; omega)
      have HG := Lib.hid (show ∀ i ∈ (Value.slice A5 (N ++ [h]).length c5).ownBlock.toList, i ∈ (p :: v0.ownBlock.toList) ∨ w.heap.size ≤ i from fun i hi => by
        rcases hb5 with e | e
        · rw [e] at hi
          rcases hv3 i hi with h | h
          · exact .inl h
          · right; have := HBX.out; omega
        · rw [e] at hi; simp at hi
          right; have := HCH.out.size; omega)
      clear hcl hpn5 hk5 hb5 hc5 ho5
      rw [show (N ++ [h]).length = N.length + 1 by simp] at HC HO HG
      go_wp2_with fail
      go_end0
      refine ⟨rfl, HC.out, _, ⟨_, ⟨HST5.out.set_ 1 _, HO.out, HN5.out, hlo, hhi⟩, rfl⟩, fun i hi => ?_⟩
      simp only [List.mem_cons] at hi
      rcases hi with rfl | hi
      · exact .inl (by simp)
      · exact HG.out i hi
  · have eN : M = N := by rw [HNE.out]; unfold cutT; rw [if_neg hfull]
    have hNl : N.length + 1 ≤ most := by rw [← eN]; omega
    have e1 : ((M.length : Int) == most) = false := by rw [beq_eq_false_iff_ne]; omega
    have HNL := Lib.hid hNl
    have HEN := Lib.hid eN
    clear hNl hfull eN
    go_wp2_with fail
    go_quiet (fail)
    have h3 := h1.chg ((Chg.refl [] w1).drewN nq) (by simp) (by simp)
    have hbx3 := hbx1.chg ((Chg.refl [] w1).drewN nq) (by simp)
    have hch3 := hch1.drewN nq
    generalize w1.drewN nq = w3 at *
    rw [HEN.out] at h3
    obtain ⟨v3, hv3e⟩ : ∃ v3, v3 = Value.slice A M.length c := ⟨_, rfl⟩
    have hv3 : ∀ i ∈ v3.ownBlock.toList, i ∈ (p :: v0.ownBlock.toList) ∨ bx < i := fun i hi => by rw [hv3e] at hi; exact hv1 i hi
    rw [← HEN.out, ← hv3e, HEN.out] at h3
    clear hv3e
    go_wp2_with fail
    clear h1 hbx1 hch1 d0 d1 e1
    obtain ⟨A3, c3, rfl, _, _⟩ := h3.ow.form
    have hst3 := h3.st
    have how3 := h3.ow
    obtain ⟨d0, d1⟩ := h3.c
    obtain ⟨b0, b1, b2, b3, b4, b5, b6⟩ := hbx3.cells
    have hne3 := h3.ne
    have hlo := h3.lo; have hhi := h3.hi
    have hA0 := (Chg.refl [] w3).drew.alloc (.cells #[.int .i64 h.a, .int .i64 h.p, .int .i64 h.f, .bool h.w, .bool h.u, .bool h.x, .bool h.d] 31)
    have hnb : BlkH (w3.drew.alloc (.cells #[.int .i64 h.a, .int .i64 h.p, .int .i64 h.f, .bool h.w, .bool h.u, .bool h.x, .bool h.d] 31)) w3.heap.size h := BlkH.new w3.drew h
    have how4 := how3.chg hA0 (by simp)
    have hst4 := hA0.blk hst3 (by simp)
    have e4 := hst4.cell 1
    simp only [List.getElem?_toArray, List.getElem?_cons_succ, List.getElem?_cons_zero] at e4
    have e4' : (w3.alloc (.cells #[.int .i64 h.a, .int .i64 h.p, .int .i64 h.f, .bool h.w, .bool h.u, .bool h.x, .bool h.d] 31)).cell? ⟨p, 1, none⟩ = some (.slice A3 N.length c3) := e4
    have hsrc := hnb.src
    have HST4 := Lib.hid hst4
    have hN3 := HNL.out
    have HN1 := Lib.hid (show N.length + 1 ≤ 1000000 by omega)
    have HCH := Lib.hid hch3
    clear h3 hst3 hst4 hnb hbx3 hch3 hN3
    go_region_law (refine step_append_H (some 37) rfl rfl (.tmp 34) (.tmp 36) rfl (.slice A3 N.length c3) N (by first | (simp [Act.eval]; done) | simp [Act.eval, Act.put]) how4 (some ⟨w3.heap.size, 0, none⟩) 1 1 [h] (by first | (simp [Act.eval]; done) | simp [Act.eval, Act.put]) hsrc rfl HN1.out ?_
                   intro v5 w5 ho5 hc5 hb5
                   have hst5 := hc5.blk HST4.out (fun hm => hne3 p hm rfl)
                   have f5 := hst5.frozen 1
                   have e5 := hst5.cell 1
                   simp only [List.getElem?_toArray, List.getElem?_cons_succ, List.getElem?_cons_zero] at e5
                   obtain ⟨A5, c5, rfl, _, _⟩ := ho5.form
                   have HST5 := Lib.hid hst5
                   clear hst5)
    all_goals
      have hp4 : p < (w3.drew.alloc (.cells #[.int .i64 h.a, .int .i64 h.p, .int .i64 h.f, .bool h.w, .bool h.u, .bool h.x, .bool h.d] 31)).heap.size := HST4.out.lt
      have hcl : Chg [p] w5 (w5.setCell ⟨p, 1, none⟩ (.slice A5 (N ++ [h]).length c5)) := (Chg.refl _ _).setCell (by simp) _
      have hpn5 : p ∉ (Value.slice A5 (N ++ [h]).length c5).ownBlock.toList := put_own hb5 hp4 (fun hm => hne3 p hm rfl)
      have hk5 : Chg (p :: v0.ownBlock.toList) w w5 := by
        refine ((HCH.out.trans hA0 (by simp)).trans hc5 fun i hi hm => ?_)
        rcases hv3 i hm with h | h
        · exact h
        · have := HBX.out; omega
      have HC := Lib.hid (hk5.trans hcl (by intro k _ hk; simp at hk; subst hk; simp))
      have HO := Lib.hid (ho5.chg hcl (by intro i hi hm; simp at hm; subst hm; exact hpn5 hi))
      have HN5 := Lib.hid (show (N ++ [h]).length ≤ most by have := HNL.out; simp; omega)
      have HG := Lib.hid (show ∀ i ∈ (Value.slice A5 (N ++ [h]).length c5).ownBlock.toList, i ∈ (p :: v0.ownBlock.toList) ∨ w.heap.size ≤ i from fun i hi => by
        rcases hb5 with e | e
        · rw [e] at hi
          rcases hv3 i hi with h | h
          · exact .inl h
          · right; have := HBX.out; omega
        · rw [e] at hi; simp at hi
          right; have := HCH.out.size; omega)
      clear hcl hpn5 hk5 hb5 hc5 ho5
      rw [show (N ++ [h]).length = N.length + 1 by simp] at HC HO HG
      go_wp2_with fail
      go_end0
      refine ⟨rfl, HC.out, _, ⟨_, ⟨HST5.out.set_ 1 _, HO.out, HN5.out, hlo, hhi⟩, rfl⟩, fun i hi => ?_⟩
      simp only [List.mem_cons] at hi
      rcases hi with rfl | hi
      · exact .inl (by simp)
      · exact HG.out i hi

end Go.Proofs.Ytikdoldmhlbklaa
