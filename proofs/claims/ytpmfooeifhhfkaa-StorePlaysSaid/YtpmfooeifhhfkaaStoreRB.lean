/-
  The document's store: Left, Key, Slot.
-/
import Derived.Test.YtpmfooeifhhfkaaStoreRA
namespace Go.Proofs.Ytpmfooeifhhfkaa
open Go.RowKit Go.Maps
theorem atI_pg (L : List Pg) (p : Int) : (pgAt L p = none ∧ atI L p = -1) ∨ ∃ (j : Nat) (q : Pg), L[j]? = some q ∧ j < L.length ∧ pgAt L p = some q ∧ atI L p = (j : Int) := by
  unfold pgAt atI
  induction L with
  | nil => exact .inl ⟨rfl, rfl⟩
  | cons a L ih =>
    rw [List.find?_cons, List.findIdx?_cons]
    cases h : a.f == p with
    | true => exact .inr ⟨0, a, rfl, by simp, rfl, rfl⟩
    | false =>
      rcases ih with ⟨h1, h2⟩ | ⟨j, q, h1, hj, h2, h3⟩
      · refine .inl ⟨h1, ?_⟩
        cases e : L.findIdx? (fun q => q.f == p) with
        | none => rfl
        | some i => rw [e] at h2; simp only at h2; omega
      · refine .inr ⟨j + 1, q, h1, by simp; omega, h2, ?_⟩
        cases e : L.findIdx? (fun q => q.f == p) with
        | none => rw [e] at h3; simp only at h3; omega
        | some i => rw [e] at h3; simp only at h3; simp only [Bool.false_eq_true, if_false, Option.map_some]; omega
/-- three cells of a new block are written -/
theorem new_put3 {w w1 w2 : World} {kb : Nat} {t : TypeId} {u0 u1 u2 : Value} (hkb : w.heap.size = kb) (y0 : Chg [] w w1) (y2 : Chg [] w1 w2) (bk : Blk w2 kb t #[u0, u1, u2]) (v0 v1 v2 : Value) :
    Blk (((w2.setCell ⟨kb, 0, none⟩ v0).setCell ⟨kb, 1, none⟩ v1).setCell ⟨kb, 2, none⟩ v2) kb t #[v0, v1, v2] ∧ Chg [] w (((w2.setCell ⟨kb, 0, none⟩ v0).setCell ⟨kb, 1, none⟩ v1).setCell ⟨kb, 2, none⟩ v2) := by
  refine ⟨by have := ((bk.set_ 0 v0).set_ 1 v1).set_ 2 v2; simpa using this, (y0.trans y2 (by simp)).trans ((((Chg.refl [kb] w2).setCell (p := ⟨kb, 0, none⟩) (by simp) v0).setCell (p := ⟨kb, 1, none⟩) (by simp) v1).setCell (p := ⟨kb, 2, none⟩) (by simp) v2) fun i hi hm => ?_⟩
  simp only [List.mem_singleton] at hm; omega
theorem new_put5 {w w1 w2 : World} {kb : Nat} {t : TypeId} {u0 u1 u2 u3 u4 : Value} (hkb : w.heap.size = kb) (y0 : Chg [] w w1) (y2 : Chg [] w1 w2) (bk : Blk w2 kb t #[u0, u1, u2, u3, u4]) (v0 v1 v2 v3 v4 : Value) :
    Blk (((((w2.setCell ⟨kb, 0, none⟩ v0).setCell ⟨kb, 1, none⟩ v1).setCell ⟨kb, 2, none⟩ v2).setCell ⟨kb, 3, none⟩ v3).setCell ⟨kb, 4, none⟩ v4) kb t #[v0, v1, v2, v3, v4] ∧ Chg [] w (((((w2.setCell ⟨kb, 0, none⟩ v0).setCell ⟨kb, 1, none⟩ v1).setCell ⟨kb, 2, none⟩ v2).setCell ⟨kb, 3, none⟩ v3).setCell ⟨kb, 4, none⟩ v4) := by
  refine ⟨by have := (((((bk.set_ 0 v0).set_ 1 v1).set_ 2 v2).set_ 3 v3).set_ 4 v4); simpa using this, (y0.trans y2 (by simp)).trans ((((((Chg.refl [kb] w2).setCell (p := ⟨kb, 0, none⟩) (by simp) v0).setCell (p := ⟨kb, 1, none⟩) (by simp) v1).setCell (p := ⟨kb, 2, none⟩) (by simp) v2).setCell (p := ⟨kb, 3, none⟩) (by simp) v3).setCell (p := ⟨kb, 4, none⟩) (by simp) v4) fun i hi hm => ?_⟩
  simp only [List.mem_singleton] at hm; omega
section
variable {q rp rb fp n a m : Nat} {s : Sr} {LA : Option Addr} {lc : Nat} {R : List (Option Addr × Nat)} {FS : List Nat}
set_option maxRecDepth 100000 in
set_option maxHeartbeats 1000000 in
theorem RLeft14_any (w : World) (h : RStX w q rp rb fp n a m s LA lc R FS) (hl : s.fr.length ≤ 256) :
    Calls Try.prog 24 #[.pointer (some ⟨q, 0, none⟩)] w fun e w' => e = .returned (.int .i64 s.fr.length) ∧ Chg [] w w' := by
  have q1 := h.st.cell 1
  simp only [List.getElem?_toArray, List.getElem?_cons_zero, List.getElem?_cons_succ] at q1
  have hL := RLeft_at FS fp a m s.fr w h.hf hl
  clear h hl
  generalize s.fr.length = t at *
  go_enter Try.func24, Try.ntmps24
  go_wp2_with fail
  refine hL.mono ?_; rintro e w2 ⟨rfl, rfl⟩
  go_wp2_with fail
  go_ret
  exact ⟨rfl, Chg.refl _ _⟩
set_option maxRecDepth 100000 in
set_option maxHeartbeats 1000000 in
theorem RKey_any (p : Int) (w : World) (h : RStX w q rp rb fp n a m s LA lc R FS) (hN : s.L.length ≤ 256) :
    Calls Try.prog 20 #[.pointer (some ⟨q, 0, none⟩), .int .i64 p] w fun e w' => e = .returned (.tuple #[.agg (keyV s.L p).cs, .bool (pgAt s.L p).isSome]) ∧ Chg [] w w' := by
  have y0 := (Chg.refl [] w).alloc (.cells #[.int .i64 0, .int .i64 0, .int .i64 0] 24)
  have bk0 := Blk.new w 24 #[.int .i64 0, .int .i64 0, .int .i64 0]
  replace h := h.new y0
  have hA := Rat_any p _ h hN
  unfold keyV
  rcases atI_pg s.L p with ⟨e1, e2⟩ | ⟨j, g, e1, hj, e2, e3⟩
  · rw [e2] at hA
    rw [e1]
    clear h hN e1 e2
    simp only [Option.map_none, Option.getD_none, Option.isSome_none, Ky.cs]
    go_enter Try.func20, Try.ntmps20
    go_wp2_with fail
    refine hA.mono ?_; rintro e w2 ⟨rfl, y2⟩
    have bk := bk0.chg_ y2 (by simp)
    clear hA bk0
    generalize w.alloc (.cells #[.int .i64 0, .int .i64 0, .int .i64 0] 24) = w1 at *
    obtain ⟨kb, hkb⟩ : ∃ kb, w.heap.size = kb := ⟨_, rfl⟩
    rw [hkb] at bk ⊢
    obtain ⟨b3, y3⟩ := new_put3 hkb y0 y2 bk (.int .i64 0) (.int .i64 0) (.int .i64 0)
    replace hkb := Lib.hid hkb
    have x0 := bk.cell 0; have x1 := bk.cell 1; have x2 := bk.cell 2
    have f0 := bk.frozen 0; have f1 := bk.frozen 1; have f2 := bk.frozen 2
    simp only [List.getElem?_toArray, List.getElem?_cons_zero, List.getElem?_cons_succ] at x0 x1 x2
    go_wp2_with fail
    exact bodyPost_ret (cellS_ret rfl b3 rfl rfl Try.underlying24 rfl (by kernel_rfl)) rfl ⟨rfl, y3⟩
  · rw [e3] at hA
    rw [e2]
    have hjz : ¬ (j : Int) < 0 := by omega
    have hjl : (j : Int) < (s.L.length : Int) := by omega
    simp only [Option.map_some, Option.getD_some, Option.isSome_some, Ky.cs]
    go_enter Try.func20, Try.ntmps20
    go_wp2_with fail
    refine hA.mono ?_; rintro e w2 ⟨rfl, y2⟩
    replace h := h.new y2
    have q2 := h.st.cell 2
    simp only [List.getElem?_toArray, List.getElem?_cons_zero, List.getElem?_cons_succ] at q2
    obtain ⟨b, off, g', r, rfl, hq, _, _, d1, d2, d3, _⟩ := h.page hj
    rw [e1] at hq; cases hq
    clear h hN e1 e2 e3
    have bk := bk0.chg_ y2 (by simp)
    clear hA bk0
    generalize w.alloc (.cells #[.int .i64 0, .int .i64 0, .int .i64 0] 24) = w1 at *
    obtain ⟨kb, hkb⟩ : ∃ kb, w.heap.size = kb := ⟨_, rfl⟩
    rw [hkb] at bk ⊢
    obtain ⟨b3, y3⟩ := new_put3 hkb y0 y2 bk (.int .i64 g.k.g) (.int .i64 g.k.lev) (.int .i64 g.k.role)
    replace hkb := Lib.hid hkb
    have x0 := bk.cell 0; have x1 := bk.cell 1; have x2 := bk.cell 2
    have f0 := bk.frozen 0; have f1 := bk.frozen 1; have f2 := bk.frozen 2
    simp only [List.getElem?_toArray, List.getElem?_cons_zero, List.getElem?_cons_succ] at x0 x1 x2
    go_wp2_with fail
    exact bodyPost_ret (cellS_ret rfl b3 rfl rfl Try.underlying24 rfl (by kernel_rfl)) rfl ⟨rfl, y3⟩
set_option maxRecDepth 100000 in
set_option maxHeartbeats 2000000 in
theorem RSlot_any (p i : Int) (w : World) (h : RStX w q rp rb fp n a m s LA lc R FS) (hN : s.L.length ≤ 256) (h8 : ∀ g ∈ s.L, g.s.length = 8) :
    Calls Try.prog 22 #[.pointer (some ⟨q, 0, none⟩), .int .i64 p, .int .i64 i] w fun e w' => e = .returned (.tuple #[.agg (slotV s.L p i).cl.toArray, .bool (slotP s.L p i).isSome]) ∧ Chg [] w w' := by
  have y0 := (Chg.refl [] w).alloc (.cells #[.int .i64 0, .int .i64 0, .bool false, .bool false, .bool false] 45)
  have bk0 := Blk.new w 45 #[.int .i64 0, .int .i64 0, .bool false, .bool false, .bool false]
  replace h := h.new y0
  have hA := Rat_any p _ h hN
  unfold slotV slotP
  by_cases hi : 0 ≤ i ∧ i ≤ 7
  · rw [if_pos hi]
    have i1 : decide (i < 0) = false := decide_eq_false (by omega)
    have i2 : decide (i > 7) = false := decide_eq_false (by omega)
    rcases atI_pg s.L p with ⟨e1, e2⟩ | ⟨j, g, e1, hj, e2, e3⟩
    · rw [e2] at hA
      rw [e1]
      clear h hN e1 e2 h8
      simp only [Option.bind_none, Option.getD_none, Option.isSome_none, Slt.cl, Slt.no]
      go_enter Try.func22, Try.ntmps22
      go_wp2_with fail
      refine hA.mono ?_; rintro e w2 ⟨rfl, y2⟩
      have bk := bk0.chg_ y2 (by simp)
      clear hA bk0
      generalize w.alloc (.cells #[.int .i64 0, .int .i64 0, .bool false, .bool false, .bool false] 45) = w1 at *
      obtain ⟨kb, hkb⟩ : ∃ kb, w.heap.size = kb := ⟨_, rfl⟩
      rw [hkb] at bk ⊢
      obtain ⟨b3, y3⟩ := new_put5 hkb y0 y2 bk (.int .i64 0) (.int .i64 0) (.bool false) (.bool false) (.bool false)
      replace hkb := Lib.hid hkb
      have x0 := bk.cell 0; have x1 := bk.cell 1; have x2 := bk.cell 2; have x3 := bk.cell 3; have x4 := bk.cell 4
      have f0 := bk.frozen 0; have f1 := bk.frozen 1; have f2 := bk.frozen 2; have f3 := bk.frozen 3; have f4 := bk.frozen 4
      simp only [List.getElem?_toArray, List.getElem?_cons_zero, List.getElem?_cons_succ] at x0 x1 x2 x3 x4
      go_wp2_with fail
      exact bodyPost_ret (cellS_ret rfl b3 rfl rfl Try.underlying45 rfl (by kernel_rfl)) rfl ⟨rfl, y3⟩
    · rw [e3] at hA
      rw [e2, Option.bind_some]
      have hjz : ¬ (j : Int) < 0 := by omega
      have hjb : decide ((j : Int) < 0) = false := decide_eq_false hjz
      have hjl : (j : Int) < (s.L.length : Int) := by omega
      obtain ⟨I, rfl⟩ := Int.eq_ofNat_of_zero_le hi.1
      have hI8 : I < 8 := by omega
      have hIz : (I : Int) < 8 := by omega
      have hgl := h8 g (List.mem_of_getElem? e1)
      rw [Int.toNat_natCast, List.getElem?_eq_getElem (show I < g.s.length by omega)]
      have hx := List.getElem?_eq_getElem (show I < g.s.length by omega)
      generalize g.s[I] = x at *
      obtain ⟨kd, t_, ⟨rw_, ru, rx⟩⟩ := x
      simp only [Option.getD_some, Option.isSome_some, Slt.cl]
      go_enter Try.func22, Try.ntmps22
      go_wp2_with fail
      refine hA.mono ?_; rintro e w2 ⟨rfl, y2⟩
      replace h := h.new y2
      have q2 := h.st.cell 2
      simp only [List.getElem?_toArray, List.getElem?_cons_zero, List.getElem?_cons_succ] at q2
      obtain ⟨b, off, g', r, rfl, hq, hr, _, _, _, _, d4⟩ := h.page hj
      have hs := h.hs j g' r hq hr
      rw [e1] at hq; cases hq
      obtain ⟨rA, rc⟩ := r
      obtain ⟨b8, o8, x8, hrA, _, hx8, hc8⟩ := hs.slg.get hI8
      simp only at hrA d4
      subst hrA
      rw [hx] at hx8; cases hx8
      obtain ⟨s0, s1, s2, s3, s4⟩ := sltAt5 hc8
      simp only [show sltE.k = 5 from rfl] at s0 s1 s2 s3 s4
      clear h hN e1 e2 e3 hs hc8 hx hgl h8 hr
      have bk := bk0.chg_ y2 (by simp)
      clear hA bk0
      generalize w.alloc (.cells #[.int .i64 0, .int .i64 0, .bool false, .bool false, .bool false] 45) = w1 at *
      obtain ⟨kb, hkb⟩ : ∃ kb, w.heap.size = kb := ⟨_, rfl⟩
      rw [hkb] at bk ⊢
      obtain ⟨b3, y3⟩ := new_put5 hkb y0 y2 bk (.int .i64 kd) (.int .i64 t_) (.bool rw_) (.bool ru) (.bool rx)
      replace hkb := Lib.hid hkb
      have x0 := bk.cell 0; have x1 := bk.cell 1; have x2 := bk.cell 2; have x3 := bk.cell 3; have x4 := bk.cell 4
      have f0 := bk.frozen 0; have f1 := bk.frozen 1; have f2 := bk.frozen 2; have f3 := bk.frozen 3; have f4 := bk.frozen 4
      simp only [List.getElem?_toArray, List.getElem?_cons_zero, List.getElem?_cons_succ] at x0 x1 x2 x3 x4
      go_wp2_with fail
      exact bodyPost_ret (cellS_ret rfl b3 rfl rfl Try.underlying45 rfl (by kernel_rfl)) rfl ⟨rfl, y3⟩
  · rw [if_neg hi]
    clear h8
    have hbad : ∃ j : Int, atI s.L p = j ∧ -1 ≤ j := by
      rcases atI_pg s.L p with ⟨_, e2⟩ | ⟨j, _, _, _, _, e3⟩
      · exact ⟨-1, e2, by omega⟩
      · exact ⟨j, e3, by omega⟩
    obtain ⟨J, hJ, hJ1⟩ := hbad
    rw [hJ] at hA
    clear h hN hJ
    simp only [Option.getD_none, Option.isSome_none, Slt.cl, Slt.no]
    cases j0 : decide (J < 0) <;> cases i1 : decide (i < 0) <;> cases i2 : decide (i > 7)
    all_goals try (exfalso; simp at i1 i2; omega)
    · skip
      go_enter Try.func22, Try.ntmps22
      go_wp2_with fail
      refine hA.mono ?_; rintro e w2 ⟨rfl, y2⟩
      have bk := bk0.chg_ y2 (by simp)
      clear hA bk0
      generalize w.alloc (.cells #[.int .i64 0, .int .i64 0, .bool false, .bool false, .bool false] 45) = w1 at *
      obtain ⟨kb, hkb⟩ : ∃ kb, w.heap.size = kb := ⟨_, rfl⟩
      rw [hkb] at bk ⊢
      obtain ⟨b3, y3⟩ := new_put5 hkb y0 y2 bk (.int .i64 0) (.int .i64 0) (.bool false) (.bool false) (.bool false)
      replace hkb := Lib.hid hkb
      have x0 := bk.cell 0; have x1 := bk.cell 1; have x2 := bk.cell 2; have x3 := bk.cell 3; have x4 := bk.cell 4
      have f0 := bk.frozen 0; have f1 := bk.frozen 1; have f2 := bk.frozen 2; have f3 := bk.frozen 3; have f4 := bk.frozen 4
      simp only [List.getElem?_toArray, List.getElem?_cons_zero, List.getElem?_cons_succ] at x0 x1 x2 x3 x4
      go_wp2_with fail
      exact bodyPost_ret (cellS_ret rfl b3 rfl rfl Try.underlying45 rfl (by kernel_rfl)) rfl ⟨rfl, y3⟩
    · skip
      go_enter Try.func22, Try.ntmps22
      go_wp2_with fail
      refine hA.mono ?_; rintro e w2 ⟨rfl, y2⟩
      have bk := bk0.chg_ y2 (by simp)
      clear hA bk0
      generalize w.alloc (.cells #[.int .i64 0, .int .i64 0, .bool false, .bool false, .bool false] 45) = w1 at *
      obtain ⟨kb, hkb⟩ : ∃ kb, w.heap.size = kb := ⟨_, rfl⟩
      rw [hkb] at bk ⊢
      obtain ⟨b3, y3⟩ := new_put5 hkb y0 y2 bk (.int .i64 0) (.int .i64 0) (.bool false) (.bool false) (.bool false)
      replace hkb := Lib.hid hkb
      have x0 := bk.cell 0; have x1 := bk.cell 1; have x2 := bk.cell 2; have x3 := bk.cell 3; have x4 := bk.cell 4
      have f0 := bk.frozen 0; have f1 := bk.frozen 1; have f2 := bk.frozen 2; have f3 := bk.frozen 3; have f4 := bk.frozen 4
      simp only [List.getElem?_toArray, List.getElem?_cons_zero, List.getElem?_cons_succ] at x0 x1 x2 x3 x4
      go_wp2_with fail
      exact bodyPost_ret (cellS_ret rfl b3 rfl rfl Try.underlying45 rfl (by kernel_rfl)) rfl ⟨rfl, y3⟩
    · skip
      go_enter Try.func22, Try.ntmps22
      go_wp2_with fail
      refine hA.mono ?_; rintro e w2 ⟨rfl, y2⟩
      have bk := bk0.chg_ y2 (by simp)
      clear hA bk0
      generalize w.alloc (.cells #[.int .i64 0, .int .i64 0, .bool false, .bool false, .bool false] 45) = w1 at *
      obtain ⟨kb, hkb⟩ : ∃ kb, w.heap.size = kb := ⟨_, rfl⟩
      rw [hkb] at bk ⊢
      obtain ⟨b3, y3⟩ := new_put5 hkb y0 y2 bk (.int .i64 0) (.int .i64 0) (.bool false) (.bool false) (.bool false)
      replace hkb := Lib.hid hkb
      have x0 := bk.cell 0; have x1 := bk.cell 1; have x2 := bk.cell 2; have x3 := bk.cell 3; have x4 := bk.cell 4
      have f0 := bk.frozen 0; have f1 := bk.frozen 1; have f2 := bk.frozen 2; have f3 := bk.frozen 3; have f4 := bk.frozen 4
      simp only [List.getElem?_toArray, List.getElem?_cons_zero, List.getElem?_cons_succ] at x0 x1 x2 x3 x4
      go_wp2_with fail
      exact bodyPost_ret (cellS_ret rfl b3 rfl rfl Try.underlying45 rfl (by kernel_rfl)) rfl ⟨rfl, y3⟩
    · skip
      go_enter Try.func22, Try.ntmps22
      go_wp2_with fail
      refine hA.mono ?_; rintro e w2 ⟨rfl, y2⟩
      have bk := bk0.chg_ y2 (by simp)
      clear hA bk0
      generalize w.alloc (.cells #[.int .i64 0, .int .i64 0, .bool false, .bool false, .bool false] 45) = w1 at *
      obtain ⟨kb, hkb⟩ : ∃ kb, w.heap.size = kb := ⟨_, rfl⟩
      rw [hkb] at bk ⊢
      obtain ⟨b3, y3⟩ := new_put5 hkb y0 y2 bk (.int .i64 0) (.int .i64 0) (.bool false) (.bool false) (.bool false)
      replace hkb := Lib.hid hkb
      have x0 := bk.cell 0; have x1 := bk.cell 1; have x2 := bk.cell 2; have x3 := bk.cell 3; have x4 := bk.cell 4
      have f0 := bk.frozen 0; have f1 := bk.frozen 1; have f2 := bk.frozen 2; have f3 := bk.frozen 3; have f4 := bk.frozen 4
      simp only [List.getElem?_toArray, List.getElem?_cons_zero, List.getElem?_cons_succ] at x0 x1 x2 x3 x4
      go_wp2_with fail
      exact bodyPost_ret (cellS_ret rfl b3 rfl rfl Try.underlying45 rfl (by kernel_rfl)) rfl ⟨rfl, y3⟩
end

end Go.Proofs.Ytpmfooeifhhfkaa
