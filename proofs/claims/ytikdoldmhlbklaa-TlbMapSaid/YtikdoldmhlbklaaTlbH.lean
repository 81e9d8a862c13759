/-
  The contract of tlb's Pick.
-/
import Derived.Test.YtikdoldmhlbklaaTlbG
namespace Go.Proofs.Ytikdoldmhlbklaa
open Go.RowKit Go.Shelf

theorem pickI_spec (m : Nat) (n : Int) (hm : 0 < m) : Int.tmod (Int.tmod n m + m) m = (pickI m n : Int) ∧ pickI m n < m ∧ -(m : Int) < Int.tmod n m ∧ Int.tmod n m < m := by
  have h1 := Int.tmod_lt_of_pos n (show (0 : Int) < m by omega)
  have h2 : -(m : Int) < Int.tmod n m := by
    have := Int.lt_tmod_of_pos n (show (0 : Int) < m by omega)
    omega
  have h3 : 0 ≤ Int.tmod n m + m := by omega
  have h4 := Int.tmod_lt_of_pos (Int.tmod n m + m) (show (0 : Int) < m by omega)
  have h5 := Int.tmod_nonneg (m : Int) h3
  unfold pickI
  omega

set_option maxHeartbeats 1000000 in
theorem TPick_at (S : List Nat) (p most : Nat) (L : List Ht) (n : Int) (w : World) (h : TAt w S p most L) (_hn : -9223372036854775808 ≤ n ∧ n ≤ 9223372036854775807) :
    Calls Try.prog 19 #[.pointer (some ⟨p, 0, none⟩), .int .i64 n] w fun e w' => e = .returned (.bool (!L.isEmpty)) ∧ Chg S w w' ∧ TAt w' S p most (pickT L n) := by
  obtain ⟨v, h, rfl⟩ := h
  obtain ⟨c0, c1⟩ := h.c
  by_cases h0 : L.length = 0
  · obtain rfl : L = [] := List.eq_nil_of_length_eq_zero h0
    obtain ⟨A, c, rfl, _, _⟩ := h.ow.form
    clear h0
    go_enter Try.func19, Try.ntmps19
    go_wp2_with fail
    go_ret
    exact ⟨rfl, Chg.refl _ _, _, by simpa [pickT] using h, rfl⟩
  · obtain ⟨k1, k2, k3, k4⟩ := pickI_spec L.length n (by omega)
    have hR := remove_at p most v L (pickI L.length n) w h k2
    have hle := h.le; have hhi := h.hi
    have e : (!L.isEmpty) = true := by simp; intro e; subst e; simp at h0
    rw [e]
    unfold pickT
    obtain ⟨A, c, rfl, _, _⟩ := h.ow.form
    clear h e
    generalize pickI L.length n = k at *
    have h1 : ((L.length : Int) == 0) = false := by simp; intro e; subst e; simp at h0
    have hw : IntKind.i64.wrap (Int.tmod n L.length + L.length) = Int.tmod n L.length + L.length := by rw [IntKind.wrap_i64]; omega
    have h3 : ¬ ((L.length : Int) = 0) := by omega
    generalize hl : L.length = m at *
    have HL := Lib.hid hl
    clear hl h0
    go_enter Try.func19, Try.ntmps19
    go_wp2_with fail
    refine hR.mono ?_; rintro e w1 ⟨rfl, hc1, v', h2, hv⟩
    go_wp2_with fail
    go_ret
    exact ⟨rfl, hc1, v', h2, by rw [hv]⟩

end Go.Proofs.Ytikdoldmhlbklaa
