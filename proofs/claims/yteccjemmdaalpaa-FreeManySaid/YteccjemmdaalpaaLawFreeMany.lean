/-
  FreeMany: the walk.
-/
import Derived.Test.YteccjemmdaalpaaFreeHead
namespace Go.Proofs.Yteccjemmdaalpaa
open Go.RowKit Go.Maps

theorem freeB_dnk (x k : Nat) (f : Int) : freeB (dnk x k) f = decide ((x : Int) ≤ f ∧ f < x + k) := by
  unfold freeB
  rw [Bool.eq_iff_iff, List.contains_iff_mem, mem_dnk]; simp

set_option maxRecDepth 100000 in
set_option maxHeartbeats 4000000 in
theorem FreeMany_walk (a0 b0 : Int) (w : World) (h1 : 0 ≤ a0 ∧ a0 ≤ 255) (h2 : 0 ≤ b0 ∧ b0 ≤ 255) :
    Calls Try.prog 8 #[.int .u8 a0, .int .u8 b0] w fun e w' => e = .returned (.bool true) ∧ Chg [] w w' := by
  obtain ⟨n, hn⟩ := Int.eq_ofNat_of_zero_le (show 0 ≤ a0 % 60 by omega)
  obtain ⟨m, hm⟩ := Int.eq_ofNat_of_zero_le (show 0 ≤ b0 % 60 by omega)
  have hn60 : n < 60 := by omega
  have hm60 : m < 60 := by omega
  go_enter Try.func8, Try.ntmps8
  go_wp2_with fail
  refine (Fhead_any _).mono ?_; rintro e w1 ⟨rfl, hc1⟩
  go_wp2_with fail
  refine (FNew_at 5 n _ (by omega)).mono ?_; rintro e w2 ⟨px, Sx, rfl, hc2, hx2, hSx⟩
  have hc := hc1.trans hc2 (by simp)
  have hw1 := hc1.size
  clear hc1 hc2
  go_wp2_with fail
  refine (FNew_at (5 + n) m _ (by omega)).mono ?_; rintro e w3 ⟨py, Sy, rfl, hc3, hy3, hSy⟩
  have hx3 := hx2.self hc3
  have hcc := hc.trans hc3 (by simp)
  clear hc hc3 hx2
  go_wp2_with fail
  refine (FNew_at 5 (n + m) _ (by omega)).mono ?_; rintro e w4 ⟨pz, Sz, rfl, hc4, hz4, hSz⟩
  have hx4 := hx3.self hc4
  have hy4 := hy3.self hc4
  have hcd := hcc.trans hc4 (by simp)
  clear hcc hc4 hx3 hy3
  -- GEN
  go_wp2_with fail
  go_loopw [11] (fun i w' => ∃ k : Nat, k ≤ 140 ∧ i = .int .i64 k ∧ Chg [] w w' ∧ FAt w' Sx px 5 n (dnk 5 n) ∧ FAt w' Sy py (5 + n) m (dnk (5 + n) m) ∧ FAt w' Sz pz 5 (n + m) (dnk 5 (n + m))) (fun i _ => 140 - (intOf i).toNat)
  case atStart => exact ⟨0, by omega, rfl, hcd, hx4, hy4, hz4⟩
  case round =>
    clear hcd hx4 hy4 hz4
    obtain ⟨k, hk, rfl, hq4, hx4, hy4, hz4⟩ := hrel
    by_cases hlt : k < 140
    · by_cases hcase : 5 ≤ k ∧ k < 5 + n
      · skip
        have Hz := Lib.hid (show freeB (dnk 5 (n + m)) k = true by rw [freeB_dnk]; simp; omega)
        have Hx := Lib.hid (show freeB (dnk 5 n) k = true by rw [freeB_dnk]; simp; omega)
        have Hy := Lib.hid (show freeB (dnk (5 + n) m) k = false by rw [freeB_dnk]; simp; omega)
        clear hcase
        go_wp2_with fail
        refine (FHas_is Sz pz 5 (n + m) _ k true _ hz4 (by omega) Hz.out).mono ?_; rintro e w5 ⟨rfl, hc5⟩
        have hx5 := hx4.self hc5
        have hy5 := hy4.self hc5
        have hz5 := hz4.self hc5
        have hq5 := hq4.trans hc5 (by simp)
        clear hx4 hy4 hz4 hq4 hc5
        go_wp2_with fail
        refine (FHas_is Sx px 5 n _ k true _ hx5 (by omega) Hx.out).mono ?_; rintro e w6 ⟨rfl, hc6⟩
        have hx6 := hx5.self hc6
        have hy6 := hy5.self hc6
        have hz6 := hz5.self hc6
        have hq6 := hq5.trans hc6 (by simp)
        clear hx5 hy5 hz5 hq5 hc6
        go_wp2_with fail
        refine (FHas_is Sx px 5 n _ k true _ hx6 (by omega) Hx.out).mono ?_; rintro e w7 ⟨rfl, hc7⟩
        have hx7 := hx6.self hc7
        have hy7 := hy6.self hc7
        have hz7 := hz6.self hc7
        have hq7 := hq6.trans hc7 (by simp)
        clear hx6 hy6 hz6 hq6 hc7
        go_wp2_with fail
        refine (FHas_is Sy py (5 + n) m _ k false _ hy7 (by omega) Hy.out).mono ?_; rintro e w8 ⟨rfl, hc8⟩
        have hx8 := hx7.self hc8
        have hy8 := hy7.self hc8
        have hz8 := hz7.self hc8
        have hq8 := hq7.trans hc8 (by simp)
        clear hx7 hy7 hz7 hq7 hc8
        go_wp2_with fail
        go_roundw
        case rel => exact ⟨k + 1, by omega, by go_num, hq8, hx8, hy8, hz8⟩
        case measure => simp [intOf]; omega
      · have hna := hcase
        clear hcase
        by_cases hcase : 5 + n ≤ k ∧ k < 5 + n + m
        · skip
          have Hz := Lib.hid (show freeB (dnk 5 (n + m)) k = true by rw [freeB_dnk]; simp; omega)
          have Hx := Lib.hid (show freeB (dnk 5 n) k = false by rw [freeB_dnk]; simp; omega)
          have Hy := Lib.hid (show freeB (dnk (5 + n) m) k = true by rw [freeB_dnk]; simp; omega)
          clear hcase
          go_wp2_with fail
          refine (FHas_is Sz pz 5 (n + m) _ k true _ hz4 (by omega) Hz.out).mono ?_; rintro e w5 ⟨rfl, hc5⟩
          have hx5 := hx4.self hc5
          have hy5 := hy4.self hc5
          have hz5 := hz4.self hc5
          have hq5 := hq4.trans hc5 (by simp)
          clear hx4 hy4 hz4 hq4 hc5
          go_wp2_with fail
          refine (FHas_is Sx px 5 n _ k false _ hx5 (by omega) Hx.out).mono ?_; rintro e w6 ⟨rfl, hc6⟩
          have hx6 := hx5.self hc6
          have hy6 := hy5.self hc6
          have hz6 := hz5.self hc6
          have hq6 := hq5.trans hc6 (by simp)
          clear hx5 hy5 hz5 hq5 hc6
          go_wp2_with fail
          refine (FHas_is Sy py (5 + n) m _ k true _ hy6 (by omega) Hy.out).mono ?_; rintro e w7 ⟨rfl, hc7⟩
          have hx7 := hx6.self hc7
          have hy7 := hy6.self hc7
          have hz7 := hz6.self hc7
          have hq7 := hq6.trans hc7 (by simp)
          clear hx6 hy6 hz6 hq6 hc7
          go_wp2_with fail
          refine (FHas_is Sx px 5 n _ k false _ hx7 (by omega) Hx.out).mono ?_; rintro e w8 ⟨rfl, hc8⟩
          have hx8 := hx7.self hc8
          have hy8 := hy7.self hc8
          have hz8 := hz7.self hc8
          have hq8 := hq7.trans hc8 (by simp)
          clear hx7 hy7 hz7 hq7 hc8
          go_wp2_with fail
          go_roundw
          case rel => exact ⟨k + 1, by omega, by go_num, hq8, hx8, hy8, hz8⟩
          case measure => simp [intOf]; omega
        · skip
          have Hz := Lib.hid (show freeB (dnk 5 (n + m)) k = false by rw [freeB_dnk]; simp; omega)
          have Hx := Lib.hid (show freeB (dnk 5 n) k = false by rw [freeB_dnk]; simp; omega)
          have Hy := Lib.hid (show freeB (dnk (5 + n) m) k = false by rw [freeB_dnk]; simp; omega)
          clear hcase
          go_wp2_with fail
          refine (FHas_is Sz pz 5 (n + m) _ k false _ hz4 (by omega) Hz.out).mono ?_; rintro e w5 ⟨rfl, hc5⟩
          have hx5 := hx4.self hc5
          have hy5 := hy4.self hc5
          have hz5 := hz4.self hc5
          have hq5 := hq4.trans hc5 (by simp)
          clear hx4 hy4 hz4 hq4 hc5
          go_wp2_with fail
          refine (FHas_is Sx px 5 n _ k false _ hx5 (by omega) Hx.out).mono ?_; rintro e w6 ⟨rfl, hc6⟩
          have hx6 := hx5.self hc6
          have hy6 := hy5.self hc6
          have hz6 := hz5.self hc6
          have hq6 := hq5.trans hc6 (by simp)
          clear hx5 hy5 hz5 hq5 hc6
          go_wp2_with fail
          refine (FHas_is Sy py (5 + n) m _ k false _ hy6 (by omega) Hy.out).mono ?_; rintro e w7 ⟨rfl, hc7⟩
          have hx7 := hx6.self hc7
          have hy7 := hy6.self hc7
          have hz7 := hz6.self hc7
          have hq7 := hq6.trans hc7 (by simp)
          clear hx6 hy6 hz6 hq6 hc7
          go_wp2_with fail
          refine (FHas_is Sx px 5 n _ k false _ hx7 (by omega) Hx.out).mono ?_; rintro e w8 ⟨rfl, hc8⟩
          have hx8 := hx7.self hc8
          have hy8 := hy7.self hc8
          have hz8 := hz7.self hc8
          have hq8 := hq7.trans hc8 (by simp)
          clear hx7 hy7 hz7 hq7 hc8
          go_wp2_with fail
          go_roundw
          case rel => exact ⟨k + 1, by omega, by go_num, hq8, hx8, hy8, hz8⟩
          case measure => simp [intOf]; omega
    · have hk' : k = 140 := by omega
      clear hk'
      go_wp2_with fail
      refine (FLeft_is Sz pz 5 (n + m) _ _ hz4).mono ?_; rintro e w5 ⟨rfl, hc5⟩
      have hx5 := hx4.self hc5; have hy5 := hy4.self hc5; have hq5 := hq4.trans hc5 (by simp)
      clear hx4 hy4 hz4 hq4 hc5
      go_wp2_with fail
      refine (FLeft_is Sx px 5 n _ _ hx5).mono ?_; rintro e w6 ⟨rfl, hc6⟩
      have hx6 := hx5.self hc6; have hy6 := hy5.self hc6; have hq6 := hq5.trans hc6 (by simp)
      clear hx5 hy5 hq5 hc6
      go_wp2_with fail
      refine (FLeft_is Sy py (5 + n) m _ _ hy6).mono ?_; rintro e w7 ⟨rfl, hc7⟩
      have hx7 := hx6.self hc7; have hq7 := hq6.trans hc7 (by simp)
      clear hx6 hy6 hq6 hc7
      rw [dnk_len, dnk_len, dnk_len]
      have hgn : giveB 5 n (dnk 5 n) 5 = false := by
        unfold giveB
        rw [show (dnk 5 n).contains 5 = freeB (dnk 5 n) 5 from rfl, freeB_dnk]
        rw [Bool.eq_false_iff]; simp
      go_wp2_with fail
      refine (FGive_not Sx px 5 n _ 5 _ hx7 (by omega) hgn).mono ?_; rintro e w8 ⟨rfl, S8, hc8, h8, hG8⟩
      go_wp2_with fail
      go_ret
      exact ⟨rfl, hq7.trans hc8 (by intro i hi hm; have := hSx i hm; omega)⟩

end Go.Proofs.Yteccjemmdaalpaa
