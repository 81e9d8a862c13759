/-
  The law ScriptBytes.
-/
import Derived.Test.YtdmcicgappgiiaaScriptHead
namespace Go.Proofs.Ytdmcicgappgiiaa
open Go.RowKit Go.Shelf

theorem put_one {o : Sop} (h : rightS o = true) : putS [o] = oneS o := by unfold putS; rw [if_pos (by simp [h])]; simp
theorem put_none {o : Sop} (h : rightS o = false) : putS [o] = [] := by unfold putS; rw [if_neg (by simp [h])]
theorem right_a {o : Sop} (h : rightS o = true) (a : Int) : rightS { o with a := a } = (a == 0 || hasPA o.what) := by
  unfold rightS boundS ownS at *
  simp only [Bool.and_eq_true] at h
  obtain ⟨h1, h2, _, h4, h5, h6, h7⟩ := h
  rw [h1, h2, h4, h5, h6, h7]; simp
theorem size_wide {w : Int} (h : hasPA w = true) : 9 ≤ sizeS w := by unfold sizeS plV plI plG plA; rw [if_pos h]; omega
theorem one_first {o : Sop} (h : rightS o = true) : ∃ f t, oneS o = f :: t ∧ (0 ≤ f ∧ f < 256) ∧ f % 128 = o.what ∧ decide (f ≥ 128) = o.user := by
  have hb := right_bound h
  refine ⟨_, _, rfl, ?_, ?_, ?_⟩
  · split <;> omega
  · cases o.user <;> simp <;> omega
  · cases o.user <;> simp <;> omega

set_option maxRecDepth 100000 in
set_option maxHeartbeats 8000000 in
theorem ScriptBytes_walk (o : { o : Sop // o.Wf }) (a : Int) (w : World) (ha : 0 ≤ a ∧ a ≤ 18446744073709551615) :
    Calls Try.prog 8 #[.agg o.1.ar, .int .u64 a] w fun e w' => e = .returned (.bool true) ∧ Chg [] w w' := by
  obtain ⟨o, hwf⟩ := o
  show Calls _ _ #[.agg o.ar, .int .u64 a] _ _
  have hR := fun w9 => ScRight_any o w9
  have hall : ∀ x ∈ [o], x.Wf := by intro x hx; simp at hx; subst hx; exact hwf
  have hal2 : ∀ x ∈ [{ o with a := a }], x.Wf := by intro x hx; simp at hx; subst hx; exact ⟨by simp only; omega, hwf.v⟩
  simp only [Sop.ar] at hR ⊢
  have B0 := Blk.new w 31 #[.int .i64 o.what, .bool o.user, .int .u64 o.a, .int .u64 o.v, .int .i64 o.g, .int .i64 o.i, .int .i64 o.n]
  have k0 : Chg [] w (w.alloc (.cells #[.int .i64 o.what, .bool o.user, .int .u64 o.a, .int .u64 o.v, .int .i64 o.g, .int .i64 o.i, .int .i64 o.n] 31)) := (Chg.refl [] w).alloc _
  go_enter Try.func8, Try.ntmps8
  go_wp2_with fail
  generalize w.alloc (.cells #[.int .i64 o.what, .bool o.user, .int .u64 o.a, .int .u64 o.v, .int .i64 o.g, .int .i64 o.i, .int .i64 o.n] 31) = w1 at *
  generalize w.heap.size = g0 at *
  refine (Schead_any _).mono ?_; rintro e w2 ⟨rfl, k2⟩
  replace B0 := k2.blk B0 (by simp)
  replace k0 := k0.trans k2 (by simp)
  clear k2
  obtain ⟨c0, c1, c2, c3, c4, c5, c6⟩ := blk7 B0
  have F := OwnG.lit (E := opE) (L := [o]) (Blk.new w2 31 #[.int .i64 o.what, .bool o.user, .int .u64 o.a, .int .u64 o.v, .int .i64 o.g, .int .i64 o.i, .int .i64 o.n]) (by simp)
  replace k0 := k0.trans ((Chg.refl [] w2).alloc (.cells #[.int .i64 o.what, .bool o.user, .int .u64 o.a, .int .u64 o.v, .int .i64 o.g, .int .i64 o.i, .int .i64 o.n] 31)) (by simp)
  replace B0 := B0.alloc (.cells #[.int .i64 o.what, .bool o.user, .int .u64 o.a, .int .u64 o.v, .int .i64 o.g, .int .i64 o.i, .int .i64 o.n] 31)
  cases hro : rightS o with
  | false =>
    rw [hro] at hR
    have hP := ScPut_is (n := 0) (c := 1) (put_none hro) rfl F.slg hall (by simp)
    replace hro := Lib.hid hro
    go_wp2_with fail
    refine hP.mono ?_; rintro e w3 ⟨A3, c3, rfl, lg3⟩
    clear hP c0 c1 c2 c4 c5 c6
    replace k0 := k0.trans lg3.1 (by simp)
    replace B0 := lg3.1.blk B0 (by simp)
    obtain ⟨d0, d1, d2, d3, d4, d5, d6⟩ := blk7 B0
    go_wp2_with fail
    refine (hR _).mono ?_; rintro e w4 ⟨rfl, k4⟩
    go_wp2_with fail
    go_ret
    exact ⟨rfl, k0.trans k4 (by simp)⟩
  | true =>
    clear hR
    obtain ⟨f, t, hft, hf8, hfw, hfu⟩ := one_first hro
    have hP := ScPut_is (n := (oneS o).length) (c := 1) (put_one hro) rfl F.slg hall (by simp)
    have hra := right_a hro a
    have hl := oneS_len (o := o)
    have hl2 := oneS_len (o := { o with a := a })
    have hbd := right_bound hro
    have hn0 : 0 < (oneS o).length := by rw [hft]; simp
    have hnle := oneS_le o
    generalize hnn : (oneS o).length = nn at *
    replace hnn := Lib.hid hnn
    replace hro := Lib.hid hro
    replace hft := Lib.hid hft
    have hz : ((nn : Int) == 0) = false := by simp; omega
    go_wp2_with fail
    refine hP.mono ?_; rintro e w3 ⟨A3, c3', rfl, lg3⟩
    clear hP c0 c1 c2 c3 c4 c5 c6 F
    replace k0 := k0.trans lg3.1 (by simp)
    replace B0 := lg3.1.blk B0 (by simp)
    obtain ⟨d0, d1, d2, d3, d4, d5, d6⟩ := blk7 B0
    have hb0 := B0.lt
    have E := Blk.new w3 31 #[.int .i64 o.what, .bool o.user, .int .u64 a, .int .u64 o.v, .int .i64 o.g, .int .i64 o.i, .int .i64 o.n]
    have F2 := OwnG.lit (E := opE) (L := [{ o with a := a }]) (blk_two w3 (.cells #[.int .i64 o.what, .bool o.user, .int .u64 a, .int .u64 o.v, .int .i64 o.g, .int .i64 o.i, .int .i64 o.n] 31) 31 #[.int .i64 o.what, .bool o.user, .int .u64 a, .int .u64 o.v, .int .i64 o.g, .int .i64 o.i, .int .i64 o.n]) (by simp)
    obtain ⟨np2, hnp2⟩ : ∃ n, n = (putS [{ o with a := a }]).length := ⟨_, rfl⟩
    have hP2 := ScPut_is (n := np2) (c := 1) rfl hnp2.symm F2.slg hal2 (by simp)
    replace hnp2 := Lib.hid hnp2
    have kc : Chg [] w3 ((w3.alloc (.cells #[.int .i64 o.what, .bool o.user, .int .u64 a, .int .u64 o.v, .int .i64 o.g, .int .i64 o.i, .int .i64 o.n] 31)).alloc (.cells #[.int .i64 o.what, .bool o.user, .int .u64 a, .int .u64 o.v, .int .i64 o.g, .int .i64 o.i, .int .i64 o.n] 31)) := ((Chg.refl [] w3).alloc _).alloc _
    replace hl := Lib.hid hl
    replace hl2 := Lib.hid hl2
    replace hra := Lib.hid hra
    obtain ⟨m0, m1, m2, m3, m4, m5, m6⟩ := blk7 E
    go_wp2_with fail
    refine hP2.mono ?_; rintro e w4 ⟨A4, c4, rfl, lg4⟩
    clear hP2 m0 m1 m2 m3 m4 m5 m6 d0 d1 d2 d3 d4 d5 d6 E F2 hb0
    have k34 := kc.trans lg4.1 (by simp)
    clear kc
    replace k0 := k0.trans k34 (by simp)
    replace lg3 := lg3.new k34
    replace B0 := k34.blk B0 (by simp)
    clear k34
    obtain ⟨b0, off, x, rfl, hb0, hx, e0⟩ := SlN.get lg3.2.1.slg (i := 0) (by omega)
    rw [hft.out] at hx
    obtain rfl : f = x := by simpa using hx
    simp only [Nat.add_zero] at e0
    clear hx hft lg3
    obtain ⟨d0, d1, d2, d3, d4, d5, d6⟩ := blk7 B0
    clear B0
    obtain ⟨b1, b2, _⟩ := hbd
    have hP1 := fun h => put_one (o := { o with a := a }) h
    have hP0 := fun h => put_none (o := { o with a := a }) h
    have hfm : f.tmod 128 = o.what := by rw [Int.tmod_eq_emod_of_nonneg hf8.1]; exact hfw
    have hwi : IntKind.i64.wrap o.what = o.what := by rw [IntKind.wrap_i64]; omega
    generalize o.what = wt at *
    generalize o.user = us at *
    have hcs : wt ≤ 3 ∨ wt = 7 ∨ (¬ wt ≤ 3 ∧ wt ≠ 7) := by omega
    rcases hcs with hq | hq | ⟨hq, hq7⟩
    · have h3 : decide (wt ≤ 3) = true := by simpa using hq
      have h3w : wt = 0 ∨ wt = 1 ∨ wt = 2 ∨ wt = 3 := by omega
      have hq0 := Lib.hid hq
      have hpa : hasPA wt = true := by unfold hasPA; simp; omega
      have hs9 := size_wide hpa
      rw [← hl.out] at hs9
      obtain rfl : np2 = nn := by rw [hnp2.out, hP1 (by rw [hra.out, hpa]; simp), hl2.out, ← hl.out]
      have h9 : decide (9 ≤ (np2 : Int)) = true := by simp; omega
      have h9b : decide ((np2 : Int) ≥ 9) = true := h9
      clear hP1 hP0 hnp2 hra hl hl2 hpa hnn hro hq
      (try clear h3w)
      go_wp2_with fail
      go_quiet (fail)
      go_wp2_with fail
      go_ret
      exact ⟨rfl, k0.drewN _⟩
    · have h3 : decide (wt ≤ 3) = false := by simp; omega
      have h7 : (wt == 7) = true := by simpa using hq
      have hq0 := Lib.hid hq
      have hpa : hasPA wt = true := by unfold hasPA; simp; omega
      have hs9 := size_wide hpa
      rw [← hl.out] at hs9
      obtain rfl : np2 = nn := by rw [hnp2.out, hP1 (by rw [hra.out, hpa]; simp), hl2.out, ← hl.out]
      have h9 : decide (9 ≤ (np2 : Int)) = true := by simp; omega
      have h9b : decide ((np2 : Int) ≥ 9) = true := h9
      clear hP1 hP0 hnp2 hra hl hl2 hpa hnn hro hq
      (try clear h3w)
      go_wp2_with fail
      go_quiet (fail)
      go_wp2_with fail
      go_ret
      exact ⟨rfl, k0.drewN _⟩
    · have h3 : decide (wt ≤ 3) = false := by simpa using hq
      have h7 : (wt == 7) = false := by simpa using hq7
      have hpa : hasPA wt = false := by unfold hasPA; simp; omega
      rw [hpa] at hra
      clear hq hq7
      cases ha0 : (a == 0) with
      | true =>
        obtain rfl : np2 = nn := by rw [hnp2.out, hP1 (by rw [hra.out, ha0]; rfl), hl2.out, ← hl.out]
        have hz2 : decide (0 < np2) = true := by simpa using hn0
        clear hP1 hP0 hnp2 hra hl hl2 hpa hnn hro
        go_wp2_with fail
        go_quiet (fail)
        go_wp2_with fail
        go_ret
        exact ⟨rfl, k0.drewN _⟩
      | false =>
        obtain rfl : np2 = 0 := by rw [hnp2.out, hP0 (by rw [hra.out, ha0]; rfl)]; rfl
        clear hP1 hP0 hnp2 hra hl hl2 hpa hnn hro
        go_wp2_with fail
        go_quiet (fail)
        go_wp2_with fail
        go_ret
        exact ⟨rfl, k0.drewN _⟩

end Go.Proofs.Ytdmcicgappgiiaa
