/-
  The document's answer to package pte: Put (PteT's text, behind RefW).
-/
import Derived.Test.YtpmfooeifhhfkaaG4r
namespace Go.Proofs.Ytpmfooeifhhfkaa
open Go.RowKit

theorem or_if {v n : Nat} (t : Bool) (h : v.testBit n = false) : v ||| (if t then 2 ^ n else 0) = v + (if t then 2 ^ n else 0) := by
  cases t
  · simp
  · exact or_add h
/-- a word that is put, as a sum -/
theorem put_sum (e : Ent) (h : e.ok = true) : putK e 7 = e.f.toNat * 2 ^ 12 + (if e.p then 2 ^ 0 else 0) + (if e.w then 2 ^ 1 else 0) + (if e.u then 2 ^ 2 else 0) + (if e.a then 2 ^ 5 else 0) + (if e.d then 2 ^ 6 else 0) + (if e.s then 2 ^ 7 else 0) + (if e.n then 2 ^ 63 else 0) := by
  have hp : putK e 7 = e.f.toNat * 2 ^ 12 ||| (if e.p then 2 ^ 0 else 0) ||| (if e.w then 2 ^ 1 else 0) ||| (if e.u then 2 ^ 2 else 0) ||| (if e.a then 2 ^ 5 else 0) ||| (if e.d then 2 ^ 6 else 0) ||| (if e.s then 2 ^ 7 else 0) ||| (if e.n then 2 ^ 63 else 0) := rfl
  have hF : e.f.toNat.testBit 51 = false := Nat.testBit_lt_two_pow (Nat.lt_of_lt_of_le (show e.f.toNat < 2 ^ 20 by have := ok_parts h; omega) (Nat.pow_le_pow_right (by decide) (by decide)))
  rw [hp]
  rw [or_if e.n (by simp only [Nat.testBit_or, if_bit, Nat.testBit_mul_two_pow, hF]; simp)]
  rw [or_if e.s (by simp only [Nat.testBit_or, if_bit, Nat.testBit_mul_two_pow]; simp)]
  rw [or_if e.d (by simp only [Nat.testBit_or, if_bit, Nat.testBit_mul_two_pow]; simp)]
  rw [or_if e.a (by simp only [Nat.testBit_or, if_bit, Nat.testBit_mul_two_pow]; simp)]
  rw [or_if e.u (by simp only [Nat.testBit_or, if_bit, Nat.testBit_mul_two_pow]; simp)]
  rw [or_if e.w (by simp only [Nat.testBit_or, if_bit, Nat.testBit_mul_two_pow]; simp)]
  rw [or_if e.p (by simp only [Nat.testBit_mul_two_pow]; simp)]

set_option maxRecDepth 100000 in
set_option maxHeartbeats 2000000 in
theorem RPut_no (e : Ent) (w : World) (h : e.ok = false) :
    Calls Try.prog 84 #[.agg e.cs] w fun x w' => x = .returned (.tuple #[.int .u64 0, .bool false]) ∧ Chg [] w w' := by
  obtain ⟨ep, ew, eu, ea, ed, es, en, eb, F⟩ := e
  unfold Ent.cs
  simp only [Ent.ok] at h
  cases eb
  · simp at h
    by_cases h0 : F < 0
    · clear h
      go_enter Try.func84, Try.ntmps84
      go_wp2_with fail
      go_ret2
      exact ⟨rfl, (Chg.refl [] w).alloc _⟩
    · have h1 : F ≥ 1048576 := h (by omega)
      clear h
      go_enter Try.func84, Try.ntmps84
      go_wp2_with fail
      go_ret2
      exact ⟨rfl, (Chg.refl [] w).alloc _⟩
  · go_enter Try.func84, Try.ntmps84
    go_wp2_with fail
    go_ret2
    exact ⟨rfl, (Chg.refl [] w).alloc _⟩

theorem if_le (t : Bool) (n : Nat) : 0 ≤ ((if t then n else 0 : Nat) : Int) ∧ ((if t then n else 0 : Nat) : Int) ≤ n := by cases t <;> simp

set_option maxRecDepth 100000 in
set_option maxHeartbeats 2000000 in
theorem RPut_yes (e : Ent) (w : World) (h : e.ok = true) :
    Calls Try.prog 84 #[.agg e.cs] w fun x w' => x = .returned (.tuple #[.int .u64 (putK e 7 : Nat), .bool true]) ∧ Chg [] w w' := by
  obtain ⟨h1, h2, h3⟩ := ok_parts h
  have hsum : ((putK e 7 : Nat) : Int) = e.f * 4096 + ((if e.p then 2 ^ 0 else 0 : Nat) : Int) + ((if e.w then 2 ^ 1 else 0 : Nat) : Int) + ((if e.u then 2 ^ 2 else 0 : Nat) : Int) + ((if e.a then 2 ^ 5 else 0 : Nat) : Int) + ((if e.d then 2 ^ 6 else 0 : Nat) : Int) + ((if e.s then 2 ^ 7 else 0 : Nat) : Int) + ((if e.n then 2 ^ 63 else 0 : Nat) : Int) := by
    rw [put_sum e h]; omega
  have hlt := putK_lt e 7 h3
  have hcs : e.cs = #[.bool e.p, .bool e.w, .bool e.u, .bool e.a, .bool e.d, .bool e.s, .bool e.n, .bool false, .int .i64 e.f] := by rw [← h1]; rfl
  rw [hcs]
  clear hcs h1 h
  generalize putK e 7 = N at *
  have H0 : ∀ w0 : World, Calls Try.prog 87 #[.bool e.p, .int .i64 0] w0 fun x w' => x = .returned (.int .u64 ((if e.p then 2 ^ 0 else 0 : Nat) : Int)) ∧ w' = w0 := fun w0 => (one_any e.p 0 w0 (by decide)).mono fun _ _ h => ⟨h.1, h.2.symm⟩
  have B0 := if_le e.p (2 ^ 0)
  have H1 : ∀ w0 : World, Calls Try.prog 87 #[.bool e.w, .int .i64 1] w0 fun x w' => x = .returned (.int .u64 ((if e.w then 2 ^ 1 else 0 : Nat) : Int)) ∧ w' = w0 := fun w0 => (one_any e.w 1 w0 (by decide)).mono fun _ _ h => ⟨h.1, h.2.symm⟩
  have B1 := if_le e.w (2 ^ 1)
  have H2 : ∀ w0 : World, Calls Try.prog 87 #[.bool e.u, .int .i64 2] w0 fun x w' => x = .returned (.int .u64 ((if e.u then 2 ^ 2 else 0 : Nat) : Int)) ∧ w' = w0 := fun w0 => (one_any e.u 2 w0 (by decide)).mono fun _ _ h => ⟨h.1, h.2.symm⟩
  have B2 := if_le e.u (2 ^ 2)
  have H3 : ∀ w0 : World, Calls Try.prog 87 #[.bool e.a, .int .i64 5] w0 fun x w' => x = .returned (.int .u64 ((if e.a then 2 ^ 5 else 0 : Nat) : Int)) ∧ w' = w0 := fun w0 => (one_any e.a 5 w0 (by decide)).mono fun _ _ h => ⟨h.1, h.2.symm⟩
  have B3 := if_le e.a (2 ^ 5)
  have H4 : ∀ w0 : World, Calls Try.prog 87 #[.bool e.d, .int .i64 6] w0 fun x w' => x = .returned (.int .u64 ((if e.d then 2 ^ 6 else 0 : Nat) : Int)) ∧ w' = w0 := fun w0 => (one_any e.d 6 w0 (by decide)).mono fun _ _ h => ⟨h.1, h.2.symm⟩
  have B4 := if_le e.d (2 ^ 6)
  have H5 : ∀ w0 : World, Calls Try.prog 87 #[.bool e.s, .int .i64 7] w0 fun x w' => x = .returned (.int .u64 ((if e.s then 2 ^ 7 else 0 : Nat) : Int)) ∧ w' = w0 := fun w0 => (one_any e.s 7 w0 (by decide)).mono fun _ _ h => ⟨h.1, h.2.symm⟩
  have B5 := if_le e.s (2 ^ 7)
  have H6 : ∀ w0 : World, Calls Try.prog 87 #[.bool e.n, .int .i64 63] w0 fun x w' => x = .returned (.int .u64 ((if e.n then 2 ^ 63 else 0 : Nat) : Int)) ∧ w' = w0 := fun w0 => (one_any e.n 63 w0 (by decide)).mono fun _ _ h => ⟨h.1, h.2.symm⟩
  have B6 := if_le e.n (2 ^ 63)
  generalize e.p = ep at *
  generalize e.w = ew at *
  generalize e.u = eu at *
  generalize e.a = ea at *
  generalize e.d = ed at *
  generalize e.s = es at *
  generalize e.n = en at *
  generalize e.f = F at *
  generalize ((if ep then 2 ^ 0 else 0 : Nat) : Int) = y0 at *
  generalize ((if ew then 2 ^ 1 else 0 : Nat) : Int) = y1 at *
  generalize ((if eu then 2 ^ 2 else 0 : Nat) : Int) = y2 at *
  generalize ((if ea then 2 ^ 5 else 0 : Nat) : Int) = y3 at *
  generalize ((if ed then 2 ^ 6 else 0 : Nat) : Int) = y4 at *
  generalize ((if es then 2 ^ 7 else 0 : Nat) : Int) = y5 at *
  generalize ((if en then 2 ^ 63 else 0 : Nat) : Int) = y6 at *
  have HS := Lib.hid hsum
  clear hsum hlt
  simp only [Nat.reducePow, Int.cast_ofNat_Int] at B0 B1 B2 B3 B4 B5 B6
  have h3' : ¬ F < 0 := by omega
  have h3'' : ¬ F ≥ 1048576 := by omega
  go_enter Try.func84, Try.ntmps84
  go_wp2_with fail
  go_quiet ((go_at_call 87; first | exact Calls.quiet_of_same (H0 _) | exact Calls.quiet_of_same (H1 _) | exact Calls.quiet_of_same (H2 _) | exact Calls.quiet_of_same (H3 _) | exact Calls.quiet_of_same (H4 _) | exact Calls.quiet_of_same (H5 _) | exact Calls.quiet_of_same (H6 _)))
  go_wp2_with fail
  go_ret2
  have HT : y0 + y1 + y2 + y3 + y4 + y5 + y6 + F * 4096 = N := by have := HS.out; omega
  exact ⟨by rw [← HT]; rfl, ((Chg.refl [] w).alloc _).drewN _⟩

theorem RPut_at (e : Ent) (w : World) : Calls Try.prog 84 #[.agg e.cs] w fun x w' => x = .returned (.tuple #[.int .u64 (putV e : Nat), .bool e.ok]) ∧ Chg [] w w' := by
  cases h : e.ok
  · rw [putV_no h]; exact RPut_no e w h
  · rw [putV_ok h]; exact RPut_yes e w h

end Go.Proofs.Ytpmfooeifhhfkaa
