/-
  PteFrames: the walk.
-/
import Derived.Test.YtgmdnglododhfaaPteHead
namespace Go.Proofs.Ytgmdnglododhfaa
open Go.RowKit

/-- the word v with the frame f -/
def setF (v f : Nat) : Nat := restN v 0 ||| f * 4096
theorem restN_bit (v i : Nat) (hi : i < 64) : (restN v 0).testBit i = (v.testBit i && !(decide (12 ≤ i) && decide (i < 32))) := by
  have h : ∀ j : Fin 64, (18446744073709551615 - 4294963200 : Nat).testBit j.1 = !(decide (12 ≤ j.1) && decide (j.1 < 32)) := by decide
  simp only [restN, Nat.testBit_and]
  rw [h ⟨i, hi⟩]
theorem setF_bit (v f i : Nat) (hf : f < 1048576) (hi : i < 64) : (setF v f).testBit i = if 12 ≤ i ∧ i < 32 then f.testBit (i - 12) else v.testBit i := by
  unfold setF
  rw [Nat.testBit_or, restN_bit v i hi, show (4096 : Nat) = 2 ^ 12 by decide, Nat.testBit_mul_two_pow]
  by_cases h1 : 12 ≤ i
  · by_cases h2 : i < 32
    · rw [if_pos ⟨h1, h2⟩, decide_eq_true h1, decide_eq_true h2]; simp
    · rw [if_neg (by omega), decide_eq_true h1, decide_eq_false h2, Nat.testBit_lt_two_pow (x := f) (i := i - 12) (Nat.lt_of_lt_of_le (show f < 2 ^ 20 by omega) (Nat.pow_le_pow_right (by decide) (by omega)))]; simp
  · rw [if_neg (by omega), decide_eq_false h1]; simp
theorem setF_lt (v f : Nat) (hv : v < 18446744073709551616) (hf : f < 1048576) : setF v f < 18446744073709551616 :=
  Nat.or_lt_two_pow (n := 64) (restN_lt v 0 hv) (by omega)
theorem get_setF (v f : Nat) (hv : v < 18446744073709551616) (hf : f < 1048576) : getE (setF v f) = { getE v with f := f } := by
  refine Ent.ext_ ?_ ?_ ?_ ?_ ?_ ?_ ?_ ?_ ?_
  · show _ = (getE v).p; rw [get_p, get_p, setF_bit v f _ hf (by decide)]; rfl
  · show _ = (getE v).w; rw [get_w, get_w, setF_bit v f _ hf (by decide)]; rfl
  · show _ = (getE v).u; rw [get_u, get_u, setF_bit v f _ hf (by decide)]; rfl
  · show _ = (getE v).a; rw [get_a, get_a, setF_bit v f _ hf (by decide)]; rfl
  · show _ = (getE v).d; rw [get_d, get_d, setF_bit v f _ hf (by decide)]; rfl
  · show _ = (getE v).s; rw [get_s, get_s, setF_bit v f _ hf (by decide)]; rfl
  · show _ = (getE v).n; rw [get_n, get_n, setF_bit v f _ hf (by decide)]; rfl
  · show _ = (getE v).bad
    have h : ∀ i, isB i = true → (setF v f).testBit i = v.testBit i := fun i hi => by
      have : i < 64 ∧ ¬ (12 ≤ i ∧ i < 32) := by simp [isB] at hi; omega
      rw [setF_bit v f i hf this.1, if_neg this.2]
    rw [Bool.eq_iff_iff, bad_iff, bad_iff]
    constructor
    · rintro ⟨i, h1, h2⟩; exact ⟨i, h1, by rw [← h i h1]; exact h2⟩
    · rintro ⟨i, h1, h2⟩; exact ⟨i, h1, by rw [h i h1]; exact h2⟩
  · show _ = (f : Int)
    rw [get_f]
    have : frameN (setF v f) = f := by
      apply Nat.eq_of_testBit_eq
      intro j
      rw [frameN_bit]
      by_cases hj : j < 20
      · rw [setF_bit v f _ hf (by omega), if_pos (by omega), decide_eq_true hj, Nat.add_sub_cancel, Bool.true_and]
      · rw [decide_eq_false hj, Nat.testBit_lt_two_pow (x := f) (i := j) (Nat.lt_of_lt_of_le (show f < 2 ^ 20 by omega) (Nat.pow_le_pow_right (by decide) (by omega)))]; rfl
    rw [this]

set_option maxRecDepth 100000 in
set_option maxHeartbeats 2000000 in
theorem PteFrames_at (v z : Nat) (w : World) (hv : v < 18446744073709551616) (hz : z < 4294967296) :
    Calls Try.prog 8 #[.int .u64 v, .int .u32 z] w fun x w' => x = .returned (.bool true) ∧ Chg [] w w' := by
  have hf : z % 1048576 < 1048576 := Nat.mod_lt _ (by decide)
  have hfz : ((z % 1048576 : Nat) : Int) = (z : Int) % 1048576 := by simp
  have G1 := fun w => Get_any v w hv
  have G2 := fun w => Get_any (setF v (z % 1048576)) w (setF_lt v _ hv hf)
  rw [get_setF v _ hv hf] at G2
  have hr : bits .andNot .u64 (v : Int) 4294963200 = (restN v 0 : Nat) := u64_andNot_nat v 4294963200 hv (by decide)
  have ho : bits .or .u64 (restN v 0 : Nat) ((z : Int) % 1048576 * 4096) = (setF v (z % 1048576) : Nat) := by
    rw [← hfz]
    exact u64_or_nat (restN v 0) (z % 1048576 * 4096) (restN_lt v 0 hv) (by omega)
  have hq := fun w => run_eqE (getE v) (getE v) w
  simp only [eqb_self] at hq
  have hgcs : (getE v).cs = #[.bool (getE v).p, .bool (getE v).w, .bool (getE v).u, .bool (getE v).a, .bool (getE v).d, .bool (getE v).s, .bool (getE v).n, .bool (getE v).bad, .int .i64 (getE v).f] := rfl
  have hhcs : Ent.cs { getE v with f := ((z % 1048576 : Nat) : Int) } = #[.bool (getE v).p, .bool (getE v).w, .bool (getE v).u, .bool (getE v).a, .bool (getE v).d, .bool (getE v).s, .bool (getE v).n, .bool (getE v).bad, .int .i64 ((z : Int) % 1048576)] := by rw [← hfz]; rfl
  simp only [hhcs] at G2
  simp only [hgcs] at G1 hq
  clear hhcs hfz hf
  generalize setF v (z % 1048576) = N at *
  have HgCS := Lib.hid hgcs; clear hgcs
  generalize (getE v).p = gp at *
  generalize (getE v).w = gw at *
  generalize (getE v).u = gu at *
  generalize (getE v).a = ga at *
  generalize (getE v).d = gd at *
  generalize (getE v).s = gs at *
  generalize (getE v).n = gn at *
  generalize (getE v).bad = gb at *
  generalize (getE v).f = gf at *
  go_enter Try.func8, Try.ntmps8
  go_wp2_with fail
  refine (head_any _).mono ?_; rintro x w1 ⟨rfl, hc1⟩
  go_wp2_with fail
  refine (G1 _).mono ?_; rintro x w2 ⟨rfl, hc2⟩
  have hX2 := Blk.new w2 24 #[.bool gp, .bool gw, .bool gu, .bool ga, .bool gd, .bool gs, .bool gn, .bool gb, .int .i64 gf]
  have hcX := (hc1.trans hc2 (by simp)).alloc (Obj.cells #[.bool gp, .bool gw, .bool gu, .bool ga, .bool gd, .bool gs, .bool gn, .bool gb, .int .i64 gf] 24)
  clear hc1 hc2
  go_wp2_with fail
  generalize w2.heap.size = gx at *
  refine (G2 _).mono ?_; rintro x w3 ⟨rfl, hc3⟩
  have hX3 := hX2.chg_ hc3 (by simp)
  have hcX3 := hcX.trans hc3 (by simp)
  have hlt := hX3.lt
  have hX4 := hX3.alloc (Obj.cells #[.bool gp, .bool gw, .bool gu, .bool ga, .bool gd, .bool gs, .bool gn, .bool gb, .int .i64 ((z : Int) % 1048576)] 24)
  have hX5 := hX3.alloc (Obj.cells #[.bool gp, .bool gw, .bool gu, .bool ga, .bool gd, .bool gs, .bool gn, .bool gb, .int .i64 gf] 24)
  clear hX2 hcX hc3 hX3
  obtain ⟨d0, d1, d2, d3, d4, d5, d6, d7, d8⟩ := blk9 hX5
  obtain ⟨e0, e1, e2, e3, e4, e5, e6, e7, e8⟩ := blk9 hX4
  go_wp2_with fail
  go_ret
  exact ⟨rfl, hcX3.alloc _⟩

end Go.Proofs.Ytgmdnglododhfaa
