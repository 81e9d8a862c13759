/-
  GmapTells: the walk.
-/
import Derived.Test.YtmnlbolnphcpmaaGmapHead
namespace Go.Proofs.Ytmnlbolnphcpmaa
open Go.RowKit Go.Maps

set_option maxRecDepth 100000 in
set_option maxHeartbeats 4000000 in
theorem GmapTells_walk (A : Option Addr) (n c : Nat) (L : List Int) (fr x : Int) (w : World) (h : SlK .i64 w A n L) (hx : -9223372036854775808 ≤ x ∧ x ≤ 9223372036854775807) :
    Calls Try.prog 3 #[.slice A n c, .int .i64 fr, .int .i64 x] w fun e w' => e = .returned (.bool true) ∧ Chg [] w w' := by
  have hl := h.le
  by_cases hbig : 2000 < n
  · go_enter Try.func3, Try.ntmps3
    go_wp2_with fail
    refine (Ghead_any _).mono ?_; rintro e w1 ⟨rfl, hc1⟩
    go_wp2_with fail
    go_ret
    exact ⟨rfl, hc1⟩
  · by_cases hok : OkL L fr
    · go_enter Try.func3, Try.ntmps3
      go_wp2_with fail
      refine (Ghead_any _).mono ?_; rintro e w1 ⟨rfl, hc1⟩
      go_wp2_with fail
      refine (GNew_ok A n c L fr _ (h.chg hc1) hok).mono ?_; rintro e w2 ⟨p, S, rfl, hc2, hg2, hS⟩
      have hca := hc1.trans hc2 (by simp)
      clear hc1 hc2 hS
      go_wp2_with fail
      refine (RGNew_ok A n c L fr _ (h.chg hca) hok).mono ?_; rintro e w3 ⟨p2, S2, rfl, hc3, hr3, hS⟩
      have hcb := hca.trans hc3 (by simp)
      have hg3 := hg2.self hc3
      clear hca hc3 hS hg2
      go_wp2_with fail
      refine (GHost_is S p L x _ _ _ hg3 rfl rfl).mono ?_; rintro e w' ⟨rfl, rfl⟩
      go_wp2_with fail
      refine (RGHost_at S2 p2 L x _ hr3).mono ?_; rintro e w' ⟨rfl, rfl⟩
      generalize atV L x = v1 at *
      generalize atB L.length x = b1 at *
      go_wp2_with fail
      refine (GGuest_at S p L x _ hg3 hx).mono ?_; rintro e w4 ⟨rfl, hc4⟩
      have hg4 := hg3.self hc4
      have hr4 := hr3.self hc4
      have hcc := hcb.trans hc4 (by simp)
      clear hcb hc4 hg3 hr3
      go_wp2_with fail
      refine (RGGuest_at S2 p2 L x _ hr4).mono ?_; rintro e w' ⟨rfl, rfl⟩
      generalize (locO L x).getD 0 = v2 at *
      generalize (locO L x).isSome = b2 at *
      go_wp2_with fail
      refine (GMany_at S p L _ hg4).mono ?_; rintro e w' ⟨rfl, rfl⟩
      go_wp2_with fail
      refine (RGMany_at S2 p2 L _ hr4).mono ?_; rintro e w' ⟨rfl, rfl⟩
      go_wp2_with fail
      go_ret
      exact ⟨rfl, hcc⟩
    · go_enter Try.func3, Try.ntmps3
      go_wp2_with fail
      refine (Ghead_any _).mono ?_; rintro e w1 ⟨rfl, hc1⟩
      go_wp2_with fail
      refine (GNew_no A n c L fr _ (h.chg hc1) hok).mono ?_; rintro e w2 ⟨rfl, hc2⟩
      have hca := hc1.trans hc2 (by simp)
      go_wp2_with fail
      refine (RGNew_no A n c L fr _ (h.chg hca) hok).mono ?_; rintro e w3 ⟨rfl, hc3⟩
      have hcb := hca.trans hc3 (by simp)
      go_wp2_with fail
      go_ret
      exact ⟨rfl, hcb⟩

end Go.Proofs.Ytmnlbolnphcpmaa
