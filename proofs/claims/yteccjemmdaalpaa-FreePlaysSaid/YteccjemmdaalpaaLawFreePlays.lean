/-
  FreePlays: the walk.
-/
import Derived.Test.YteccjemmdaalpaaFreeArg
namespace Go.Proofs.Yteccjemmdaalpaa
open Go.RowKit Go.Maps

theorem RHas_is (S : List Nat) (p a n : Nat) (L : List Int) (f : Int) (t : Bool) (w : World) (h : RAt w S p a n L) (hl : L.length ≤ 256) (ht : freeB L f = t) :
    Calls Try.prog 19 #[.pointer (some ⟨p, 0, none⟩), .int .i64 f] w fun e w' => e = .returned (.bool t) ∧ Chg [] w w' :=
  (RHas_at S p a n L f w h hl).mono fun _ _ ⟨he, hw⟩ => ⟨by rw [he, ht], hw ▸ Chg.refl _ _⟩
theorem RLeft_is (S : List Nat) (p a n : Nat) (L : List Int) (w : World) (h : RAt w S p a n L) (hl : L.length ≤ 256) :
    Calls Try.prog 17 #[.pointer (some ⟨p, 0, none⟩)] w fun e w' => e = .returned (.int .i64 L.length) ∧ Chg [] w w' :=
  (RLeft_at S p a n L w h hl).mono fun _ _ ⟨he, hw⟩ => ⟨he, hw ▸ Chg.refl _ _⟩
theorem RAt.self {w w' : World} {S : List Nat} {p a n : Nat} {L : List Int} (h : RAt w S p a n L) (hc : Chg [] w w') : RAt w' S p a n L := h.chg hc (by simp)

set_option maxRecDepth 100000 in
set_option maxHeartbeats 8000000 in
theorem FreePlays_walk (first many : Int) (A : Option Addr) (len c : Nat) (f : Int) (w : World) (h1 : -9223372036854775808 ≤ first ∧ first ≤ 9223372036854775807) (h2 : -9223372036854775808 ≤ many ∧ many ≤ 9223372036854775807)
    (hl : SlOp w A len) (hf : -9223372036854775808 ≤ f ∧ f ≤ 9223372036854775807) :
    Calls Try.prog 3 #[.int .i64 first, .int .i64 many, .slice A len c, .int .i64 f] w fun e w' => e = .returned (.bool true) ∧ Chg [] w w' := by
  have hlen := hl.le
  by_cases hbig : 600 < len
  · go_enter Try.func3, Try.ntmps3
    go_wp2_with fail
    refine (Fhead_any _).mono ?_; rintro e w1 ⟨rfl, hc1⟩
    go_wp2_with fail
    go_ret
    exact ⟨rfl, hc1⟩
  · by_cases hbad : first < 0 ∨ many < 0 ∨ 256 < first + many
    · go_enter Try.func3, Try.ntmps3
      go_wp2_with fail
      refine (Fhead_any _).mono ?_; rintro e w1 ⟨rfl, hc1⟩
      go_wp2_with fail
      refine (FNew_no first many _ h2 hbad).mono ?_; rintro e w' ⟨rfl, rfl⟩
      go_wp2_with fail
      refine (RFNew_no first many _ h2 hbad).mono ?_; rintro e w' ⟨rfl, rfl⟩
      clear hbad
      go_wp2_with fail
      go_ret
      exact ⟨rfl, hc1⟩
    · obtain ⟨a, rfl⟩ := Int.eq_ofNat_of_zero_le (show 0 ≤ first by omega)
      obtain ⟨n, rfl⟩ := Int.eq_ofNat_of_zero_le (show 0 ≤ many by omega)
      have han : a + n ≤ 256 := by omega
      clear hbad h1 h2
      go_enter Try.func3, Try.ntmps3
      go_wp2_with fail
      refine (Fhead_any _).mono ?_; rintro e w1 ⟨rfl, hc1⟩
      go_wp2_with fail
      refine (FNew_at a n _ han).mono ?_; rintro e w2 ⟨p, S, rfl, hc2, hx2, hS2⟩
      have hc := hc1.trans hc2 (by simp)
      have hS : ∀ i ∈ S, w.heap.size ≤ i := fun i hi => Nat.le_trans hc1.size (hS2 i hi)
      clear hc1 hc2 hS2
      go_wp2_with fail
      refine (RFNew_at a n _ han).mono ?_; rintro e w3 ⟨p2, T, rfl, hc3, hr3, hT3⟩
      have hx3 := hx2.self hc3
      have hd : ∀ i ∈ S, i ∉ T := fun i hi hm => by have := hx2.lt i hi; have := hT3 i hm; omega
      have hT : ∀ i ∈ T, w.heap.size ≤ i := fun i hi => Nat.le_trans hc.size (hT3 i hi)
      have hcc := hc.trans hc3 (by simp)
      clear hc hc3 hT3 hx2
      go_wp2_with fail
      go_loopw [12] (fun i w' => ∃ (k : Nat) (S T : List Nat) (L : List Int), k ≤ len ∧ i = .int .i64 k ∧ Chg [] w w' ∧ FAt w' S p a n L ∧ RAt w' T p2 a n L ∧ (∀ i ∈ S, w.heap.size ≤ i) ∧ (∀ i ∈ T, w.heap.size ≤ i) ∧ (∀ i ∈ S, i ∉ T)) (fun i _ => len - (intOf i).toNat)
      case atStart => exact ⟨0, S, T, _, by omega, rfl, hcc, hx3, hr3, hS, hT, hd⟩
      case round =>
        clear hcc hx3 hr3 hS hT hd S T
        obtain ⟨k, S, T, L, hk, rfl, hq, hx, hr, hS, hT, hd⟩ := hrel
        by_cases hlt : k < len
        · obtain ⟨ob, off, rfl, hob, g, y, ho0⟩ := hl.get hlt
          have hop := ho0.chg hq hob
          have c0 := hop.c0; have c1 := hop.c1; have hwf := hop.wf
          clear hop
          have hle := hx.len_le
          cases g with
          | true =>
            go_wp2_with fail
            refine (FGive_at S p a n L y _ hx hwf).mono ?_; rintro e w4 ⟨S4, rfl, hc4, hx4, hG4⟩
            have hr4 := hr.chg hc4 (dis_symm hd)
            have hd4 := grew_dis hG4 hd hr.lt
            have hS4 := grew_base hG4 hq.size hS
            have hq4 := hq.trans hc4 (fun i hi hm => absurd (hS i hm) (by omega))
            have c1' := (ho0.chg hq4 hob).c1
            clear hq hx hr hS hd hc4 hG4 c0 c1
            go_wp2_with fail
            refine (RGive_at T p2 a n L y _ hr4 (by omega) han).mono ?_; rintro e w5 ⟨T5, rfl, hc5, hr5, hG5⟩
            have hx5 := hx4.chg hc5 hd4
            have hd5 := dis_symm (grew_dis hG5 (dis_symm hd4) hx4.lt)
            have hT5 := grew_base hG5 hq4.size hT
            have hq5 := hq4.trans hc5 (fun i hi hm => absurd (hT i hm) (by omega))
            clear hq4 hx4 hr4 hT hd4 hc5 hG5 c1'
            have hle5 := hx5.len_le
            generalize giveL a n L y = M at *
            go_wp2_with fail
            have hl5 : M.length ≤ 256 := by omega
            generalize hB : freeB M f = B at *
            have HB := Lib.hid hB
            clear hB
            refine (FLeft_is S4 p a n M _ hx5).mono ?_; rintro e w6 ⟨rfl, hc6⟩
            have hx6 := hx5.self hc6; have hr6 := hr5.self hc6; have hq6 := hq5.trans hc6 (by simp)
            clear hx5 hr5 hq5 hc6
            go_wp2_with fail
            refine (RLeft_is T5 p2 a n M _ hr6 hl5).mono ?_; rintro e w7 ⟨rfl, hc7⟩
            have hx7 := hx6.self hc7; have hr7 := hr6.self hc7; have hq7 := hq6.trans hc7 (by simp)
            clear hx6 hr6 hq6 hc7
            go_wp2_with fail
            refine (FHas_is S4 p a n M f _ _ hx7 hf HB.out).mono ?_; rintro e w8 ⟨rfl, hc8⟩
            have hx8 := hx7.self hc8; have hr8 := hr7.self hc8; have hq8 := hq7.trans hc8 (by simp)
            clear hx7 hr7 hq7 hc8
            go_wp2_with fail
            refine (RHas_is T5 p2 a n M f _ _ hr8 hl5 HB.out).mono ?_; rintro e w9 ⟨rfl, hc9⟩
            have hx9 := hx8.self hc9; have hr9 := hr8.self hc9; have hq9 := hq8.trans hc9 (by simp)
            clear hx8 hr8 hq8 hc9
            go_wp2_with fail
            go_roundw
            case rel => exact ⟨k + 1, S4, T5, M, by omega, by go_num, hq9, hx9, hr9, hS4, hT5, hd5⟩
            case measure => simp [intOf]; omega
          | false =>
            go_wp2_with fail
            refine (FTake_at S p a n L _ hx).mono ?_; rintro e w4 ⟨rfl, hc4, hx4⟩
            have hr4 := hr.chg hc4 (dis_symm hd)
            have hq4 := hq.trans hc4 (fun i hi hm => absurd (hS i hm) (by omega))
            clear hq hx hr hc4 c0 c1
            go_wp2_with fail
            refine (RTake_at T p2 a n L _ hr4 (by omega)).mono ?_; rintro e w5 ⟨rfl, hc5, hr5⟩
            have hx5 := hx4.chg hc5 hd
            have hq5 := hq4.trans hc5 (fun i hi hm => absurd (hT i hm) (by omega))
            clear hq4 hx4 hr4 hc5
            have hle5 := hx5.len_le
            generalize L.dropLast = M at *
            go_wp2_with fail
            have hl5 : M.length ≤ 256 := by omega
            generalize hB : freeB M f = B at *
            have HB := Lib.hid hB
            clear hB
            refine (FLeft_is S p a n M _ hx5).mono ?_; rintro e w6 ⟨rfl, hc6⟩
            have hx6 := hx5.self hc6; have hr6 := hr5.self hc6; have hq6 := hq5.trans hc6 (by simp)
            clear hx5 hr5 hq5 hc6
            go_wp2_with fail
            refine (RLeft_is T p2 a n M _ hr6 hl5).mono ?_; rintro e w7 ⟨rfl, hc7⟩
            have hx7 := hx6.self hc7; have hr7 := hr6.self hc7; have hq7 := hq6.trans hc7 (by simp)
            clear hx6 hr6 hq6 hc7
            go_wp2_with fail
            refine (FHas_is S p a n M f _ _ hx7 hf HB.out).mono ?_; rintro e w8 ⟨rfl, hc8⟩
            have hx8 := hx7.self hc8; have hr8 := hr7.self hc8; have hq8 := hq7.trans hc8 (by simp)
            clear hx7 hr7 hq7 hc8
            go_wp2_with fail
            refine (RHas_is T p2 a n M f _ _ hr8 hl5 HB.out).mono ?_; rintro e w9 ⟨rfl, hc9⟩
            have hx9 := hx8.self hc9; have hr9 := hr8.self hc9; have hq9 := hq8.trans hc9 (by simp)
            clear hx8 hr8 hq8 hc9
            go_wp2_with fail
            go_roundw
            case rel => exact ⟨k + 1, S, T, M, by omega, by go_num, hq9, hx9, hr9, hS, hT, hd⟩
            case measure => simp [intOf]; omega
        · go_wp2_with fail
          go_ret
          exact ⟨rfl, hq⟩

end Go.Proofs.Yteccjemmdaalpaa
