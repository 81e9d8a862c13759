/-
  FreeAll: the walk.
-/
import Derived.Test.YteccjemmdaalpaaFreeHead
namespace Go.Proofs.Yteccjemmdaalpaa
open Go.RowKit Go.Maps

set_option maxRecDepth 100000 in
set_option maxHeartbeats 4000000 in
theorem FreeAll_walk (first many : Int) (w : World) (h1 : 0 ≤ first ∧ first ≤ 255) (h2 : 0 ≤ many ∧ many ≤ 255) :
    Calls Try.prog 5 #[.int .u8 first, .int .u8 many] w fun e w' => e = .returned (.bool true) ∧ Chg [] w w' := by
  obtain ⟨a, rfl⟩ := Int.eq_ofNat_of_zero_le h1.1
  obtain ⟨n, rfl⟩ := Int.eq_ofNat_of_zero_le h2.1
  by_cases hbig : 256 < a + n
  · go_enter Try.func5, Try.ntmps5
    go_wp2_with fail
    refine (Fhead_any _).mono ?_; rintro e w1 ⟨rfl, hc1⟩
    go_wp2_with fail
    refine (FNew_no a n _ (by omega) (by omega)).mono ?_; rintro e w' ⟨rfl, rfl⟩
    go_wp2_with fail
    go_ret
    exact ⟨rfl, hc1⟩
  · go_enter Try.func5, Try.ntmps5
    go_wp2_with fail
    refine (Fhead_any _).mono ?_; rintro e w1 ⟨rfl, hc1⟩
    go_wp2_with fail
    refine (FNew_at a n _ (by omega)).mono ?_; rintro e w2 ⟨p, S, rfl, hc2, hf2, hS2⟩
    have hc := hc1.trans hc2 (by simp)
    have hS : ∀ i ∈ S, w.heap.size ≤ i := fun i hi => Nat.le_trans hc1.size (hS2 i hi)
    clear hc1 hc2 hS2
    go_wp2_with fail
    go_loopw [9] (fun i w' => ∃ k : Nat, k ≤ n ∧ i = .int .i64 k ∧ Chg [] w w' ∧ FAt w' S p a n (dnk (a + k) (n - k))) (fun i _ => n - (intOf i).toNat)
    case atStart => exact ⟨0, by omega, rfl, hc, hf2⟩
    case round =>
      obtain ⟨k, hk, rfl, hck, hfk⟩ := hrel
      clear hc hf2
      by_cases hlt : k < n
      · have hX : dnk (a + k) (n - k) = dnk (a + (k + 1)) (n - (k + 1)) ++ [(a : Int) + k] := by
          rw [show n - k = n - (k + 1) + 1 by omega, dnk_snoc, show ((a + k : Nat) : Int) = (a : Int) + k by omega]; rfl
        rw [hX] at hfk
        clear hX
        go_wp2_with fail
        refine (FTake_is S p a n _ _ _ hfk).mono ?_; rintro e w3 ⟨rfl, hc3, hf3⟩
        have hc4 := hck.trans hc3 (fun i hi hm => absurd (hS i hm) (by omega))
        clear hck hc3 hfk
        go_wp2_with fail
        go_roundw
        case rel => exact ⟨k + 1, by omega, by go_num, hc4, hf3⟩
        case measure => simp [intOf]; omega
      · obtain rfl : k = n := by omega
        rw [Nat.sub_self] at hfk
        go_wp2_with fail
        refine (FTake_none S p a _ _ hfk).mono ?_; rintro e w3 ⟨rfl, hc3, hf3⟩
        have hc4 := hck.trans hc3 (fun i hi hm => absurd (hS i hm) (by omega))
        go_wp2_with fail
        refine (FLeft_is S p a _ [] _ hf3).mono ?_; rintro e w4 ⟨rfl, hc5⟩
        go_wp2_with fail
        go_ret
        exact ⟨rfl, hc4.trans hc5 (by simp)⟩

end Go.Proofs.Yteccjemmdaalpaa
