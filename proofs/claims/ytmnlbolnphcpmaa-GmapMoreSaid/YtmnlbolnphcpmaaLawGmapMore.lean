/-
  GmapMore: the walk.
-/
import Derived.Test.YtmnlbolnphcpmaaGmapArg
import Derived.Test.YtmnlbolnphcpmaaLawGmapBack
namespace Go.Proofs.Ytmnlbolnphcpmaa
open Go.RowKit Go.Maps

/-- m is the greatest of the first k, or 0 -/
def MostOf (L : List Int) (k : Nat) (m : Int) : Prop := 0 ≤ m ∧ (∀ x ∈ L.take k, x ≤ m) ∧ (m = 0 ∨ m ∈ L.take k)
theorem MostOf.zero (L : List Int) : MostOf L 0 0 := ⟨by omega, by simp, .inl rfl⟩
theorem MostOf.up {L : List Int} {k : Nat} {m : Int} (h : MostOf L k m) (hk : k < L.length) (hx : m < L.getD k 0) : MostOf L (k + 1) (L.getD k 0) := by
  obtain ⟨h0, h1, h2⟩ := h
  unfold MostOf
  rw [take_snoc L k hk]
  refine ⟨by omega, fun x hx' => ?_, .inr (by simp)⟩
  rw [List.mem_append, List.mem_singleton] at hx'
  rcases hx' with hx' | rfl
  · have := h1 x hx'; omega
  · omega
theorem MostOf.stay {L : List Int} {k : Nat} {m : Int} (h : MostOf L k m) (hk : k < L.length) (hx : ¬ m < L.getD k 0) : MostOf L (k + 1) m := by
  obtain ⟨h0, h1, h2⟩ := h
  unfold MostOf
  rw [take_snoc L k hk]
  refine ⟨by omega, fun x hx' => ?_, ?_⟩
  · rw [List.mem_append, List.mem_singleton] at hx'
    rcases hx' with hx' | rfl
    · have := h1 x hx'; omega
    · omega
  · rcases h2 with h2 | h2
    · exact .inl h2
    · exact .inr (by simp [h2])
theorem MostOf.bad {L : List Int} {m : Int} (h : MostOf L L.length m) : ¬ OkL L m := by
  obtain ⟨h0, h1, h2⟩ := h
  rw [List.take_length] at h2
  rintro ⟨_, _, k1, _, k2, _⟩
  rcases h2 with h2 | h2
  · omega
  · have := k2 m h2; omega
theorem MostOf.good {L : List Int} {m fr : Int} (h : MostOf L L.length m) (hok : OkL L fr) : OkL L (m + 1) ∧ m ≤ 255 := by
  obtain ⟨h0, h1, h2⟩ := h
  rw [List.take_length] at h1 h2
  obtain ⟨k1, k2, k3, k4, k5, k6⟩ := hok
  have hm : m ≤ 255 := by
    rcases h2 with h2 | h2
    · omega
    · have := k5 m h2; omega
  exact ⟨⟨k1, k2, by omega, by omega, fun x hx => by have := h1 x hx; have := k5 x hx; omega, k6⟩, hm⟩

set_option maxRecDepth 100000 in
set_option maxHeartbeats 8000000 in
theorem GmapMore_walk (A : Option Addr) (n c : Nat) (L : List Int) (fr more : Int) (w : World) (h : SlK .i64 w A n L) (hm : 0 ≤ more ∧ more ≤ 255) :
    Calls Try.prog 8 #[.slice A n c, .int .i64 fr, .int .u8 more] w fun e w' => e = .returned (.bool true) ∧ Chg [] w w' := by
  have hl := h.le
  have hlen := h.len
  by_cases hok : OkL L fr
  · have hn : n ≤ 64 := hlen ▸ hok.2.1
    have hfr : 1 ≤ fr ∧ fr ≤ 256 := ⟨hok.2.2.1, hok.2.2.2.1⟩
    go_enter Try.func8, Try.ntmps8
    go_wp2_with fail
    refine (Ghead_any _).mono ?_; rintro e w1 ⟨rfl, hc1⟩
    go_wp2_with fail
    refine (GNew_ok A n c L fr _ (h.chg hc1) hok).mono ?_; rintro e w2 ⟨p, S, rfl, hc2, hg2, hS⟩
    have hca := hc1.trans hc2 (by simp)
    clear hc1 hc2 hS
    go_wp2_with fail
    by_cases hbig : fr + more ≤ 256
    · have hok2 : OkL L (fr + more) := ⟨hok.1, hok.2.1, by omega, hbig, fun x hx => by have := hok.2.2.2.2.1 x hx; omega, hok.2.2.2.2.2⟩
      refine (GNew_ok A n c L (fr + more) _ (h.chg hca) hok2).mono ?_; rintro e w3 ⟨p2, S2, rfl, hc3, hr3, _⟩
      have hcb := hca.trans hc3 (by simp)
      have hg3 := hg2.self hc3
      clear hca hc3 hg2
      go_wp2_with fail
      go_loopw [11, 12] (fun v i w' => ∃ (k : Nat) (m : Int), k ≤ n ∧ i = .int .i64 k ∧ v = .int .i64 m ∧ MostOf L k m ∧ Chg [] w w' ∧ GAt w' S p L ∧ GAt w' S2 p2 L) (fun _ i _ => n - (intOf i).toNat)
      case atStart => exact ⟨0, 0, by omega, rfl, rfl, MostOf.zero L, hcb, hg3, hr3⟩
      case round =>
        clear hcb hg3 hr3
        obtain ⟨k, m, hk, rfl, rfl, hmo, hck, hgk, hrk⟩ := hrel
        by_cases hlt : k < n
        · have hkl : k < L.length := by omega
          obtain ⟨b, off, rfl, hb, d, _⟩ := (h.chg hck).get hlt
          obtain ⟨x, hx⟩ : ∃ x, L.getD k 0 = x := ⟨_, rfl⟩
          rw [hx] at d
          have HX := Lib.hid hx
          clear hx
          by_cases hmx : m < x
          · have hmo' := hmo.up hkl (by rw [HX.out]; exact hmx)
            rw [HX.out] at hmo'
            go_wp2_with fail
            go_roundw
            case rel => exact ⟨k + 1, x, by omega, by go_num, rfl, hmo', hck, hgk, hrk⟩
            case measure => simp [intOf]; omega
          · have hmo' := hmo.stay hkl (by rw [HX.out]; exact hmx)
            go_wp2_with fail
            go_roundw
            case rel => exact ⟨k + 1, m, by omega, by go_num, rfl, hmo', hck, hgk, hrk⟩
            case measure => simp [intOf]; omega
        · have hkn : k = L.length := by omega
          rw [hkn] at hmo
          have hbad := hmo.bad
          obtain ⟨hgood, hm255⟩ := hmo.good hok
          have hm0 := hmo.1
          go_wp2_with fail
          refine (GNew_no A n c L m _ (h.chg hck) hbad).mono ?_; rintro e w4 ⟨rfl, hc4⟩
          have hcc := hck.trans hc4 (by simp)
          have hg4 := hgk.self hc4
          have hr4 := hrk.self hc4
          clear hck hgk hrk hc4
          go_wp2_with fail
          refine (GNew_ok A n c L (m + 1) _ (h.chg hcc) hgood).mono ?_; rintro e w5 ⟨p3, S3, rfl, hc5, _, _⟩
          have hcd := hcc.trans hc5 (by simp)
          have hg5 := hg4.self hc5
          have hr5 := hr4.self hc5
          clear hcc hg4 hr4 hc5
          go_wp2_with fail
          go_loopw [13] (fun i w' => ∃ k : Nat, k ≤ n ∧ i = .int .i64 k ∧ Chg [] w w' ∧ GAt w' S p L ∧ GAt w' S2 p2 L) (fun i _ => n - (intOf i).toNat)
          case atStart => exact ⟨0, by omega, rfl, hcd, hg5, hr5⟩
          case round =>
            clear hcd hg5 hr5 hkn hk hlt
            obtain ⟨k, hk, rfl, hck, hgk, hrk⟩ := hrel
            by_cases hlt : k < n
            · obtain ⟨hv, hvb⟩ := atV_nat L k (by omega)
              generalize L.getD k 0 = x at *
              go_wp2_with fail
              refine (GHost_is S p L k _ _ _ hgk hv hvb).mono ?_; rintro e w' ⟨rfl, rfl⟩
              go_wp2_with fail
              refine (GHost_is S2 p2 L k _ _ _ hrk hv hvb).mono ?_; rintro e w' ⟨rfl, rfl⟩
              clear hv hvb
              go_wp2_with fail
              go_roundw
              case rel => exact ⟨k + 1, by omega, by go_num, hck, hgk, hrk⟩
              case measure => simp [intOf]; omega
            · go_wp2_with fail
              go_ret
              exact ⟨rfl, hck⟩
    · have hok2 : ¬ OkL L (fr + more) := fun h => hbig h.2.2.2.1
      refine (GNew_no A n c L (fr + more) _ (h.chg hca) hok2).mono ?_; rintro e w3 ⟨rfl, hc3⟩
      have hcb := hca.trans hc3 (by simp)
      clear hca hc3 hg2
      go_wp2_with fail
      go_loopw [11, 12] (fun v i w' => ∃ (k : Nat) (m : Int), k ≤ n ∧ i = .int .i64 k ∧ v = .int .i64 m ∧ MostOf L k m ∧ Chg [] w w') (fun _ i _ => n - (intOf i).toNat)
      case atStart => exact ⟨0, 0, by omega, rfl, rfl, MostOf.zero L, hcb⟩
      case round =>
        clear hcb
        obtain ⟨k, m, hk, rfl, rfl, hmo, hck⟩ := hrel
        by_cases hlt : k < n
        · have hkl : k < L.length := by omega
          obtain ⟨b, off, rfl, hb, d, _⟩ := (h.chg hck).get hlt
          obtain ⟨x, hx⟩ : ∃ x, L.getD k 0 = x := ⟨_, rfl⟩
          rw [hx] at d
          have HX := Lib.hid hx
          clear hx
          by_cases hmx : m < x
          · have hmo' := hmo.up hkl (by rw [HX.out]; exact hmx)
            rw [HX.out] at hmo'
            go_wp2_with fail
            go_roundw
            case rel => exact ⟨k + 1, x, by omega, by go_num, rfl, hmo', hck⟩
            case measure => simp [intOf]; omega
          · have hmo' := hmo.stay hkl (by rw [HX.out]; exact hmx)
            go_wp2_with fail
            go_roundw
            case rel => exact ⟨k + 1, m, by omega, by go_num, rfl, hmo', hck⟩
            case measure => simp [intOf]; omega
        · have hkn : k = L.length := by omega
          rw [hkn] at hmo
          have hbad := hmo.bad
          obtain ⟨hgood, hm255⟩ := hmo.good hok
          have hm0 := hmo.1
          go_wp2_with fail
          refine (GNew_no A n c L m _ (h.chg hck) hbad).mono ?_; rintro e w4 ⟨rfl, hc4⟩
          have hcc := hck.trans hc4 (by simp)
          clear hck hc4
          go_wp2_with fail
          refine (GNew_ok A n c L (m + 1) _ (h.chg hcc) hgood).mono ?_; rintro e w5 ⟨p3, S3, rfl, hc5, _, _⟩
          go_wp2_with fail
          go_ret
          exact ⟨rfl, hcc.trans hc5 (by simp)⟩
  · go_enter Try.func8, Try.ntmps8
    go_wp2_with fail
    refine (Ghead_any _).mono ?_; rintro e w1 ⟨rfl, hc1⟩
    go_wp2_with fail
    refine (GNew_no A n c L fr _ (h.chg hc1) hok).mono ?_; rintro e w2 ⟨rfl, hc2⟩
    go_wp2_with fail
    go_ret
    exact ⟨rfl, hc1.trans hc2 (by simp)⟩

end Go.Proofs.Ytmnlbolnphcpmaa
