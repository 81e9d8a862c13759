/-
  GuestLoads: the walk.
-/
import Derived.Test.YtepbknndemlbcaaGuestHead
namespace Go.Proofs.Ytepbknndemlbcaa
open Go.RowKit Go.Maps

/-- an own row of words is a slice of words -/
theorem OwnI.slu {w : World} {t : TypeId} {A : Option Addr} {n c : Nat} {L : List Int} (h : OwnI w t .u64 (.slice A n c) L) : SlU w A n L := by
  have hn := h.slice
  subst hn
  exact own_slu h

set_option maxRecDepth 100000 in
set_option maxHeartbeats 8000000 in
theorem GuestLoads_walk (A : Option Addr) (n c : Nat) (L : List Int) (B : Option Addr) (m d : Nat) (xs : List Int) (w : World) (h : SlK .i64 w A n L) (hx : SlU w B m xs) (hm : m ≤ 9223372036854775807) (hmd : m ≤ d) :
    Calls Try.prog 6 #[.slice A n c, .slice B m d] w fun e w' => e = .returned (.bool true) ∧ Chg [] w w' := by
  have hl := h.le
  have hlen := h.len
  subst hlen
  go_enter Try.func6, Try.ntmps6
  go_wp2_with fail
  refine (Guhead_any _).mono ?_; rintro e w1 ⟨rfl, hc1⟩
  go_wp2_with fail
  refine (New_at 70 _ (by omega) (by omega)).mono ?_; rintro e w2 ⟨hp, b, rfl, hc2, hm2, hh, hb⟩
  have hca : Chg [] w w2 := hc1.trans hc2 (by simp)
  have hbw : w.heap.size ≤ b := by have := hc1.size; omega
  clear hc1 hc2 hh hb
  by_cases hok : OkL L 70
  · have hn64 : L.length ≤ 64 := hok.2.1
    go_wp2_with fail
    refine (GNew_ok A L.length c L 70 _ (h.chg hca) hok).mono ?_; rintro e w3 ⟨p, S, rfl, hc3, h3, hS⟩
    have hm3 := hm2.chg hc3 (by simp) (by simp)
    have hcb : Chg [] w w3 := hca.trans hc3 (by simp)
    clear hca hc3 hm2 hS
    by_cases hbig : 9000 < m
    · go_wp2_with fail
      go_ret
      exact ⟨rfl, hcb⟩
    · go_wp2_with fail
      refine (GuNew_at p hp _).mono ?_; rintro e w4 ⟨q, rfl, hc4, h4, hq⟩
      have g4 : GuIn w4 q S p L hp b 70 (zeros (8 * 70)) := ⟨h4, h3.self hc4, hm3.chg hc4 (by simp) (by simp), hok.inh⟩
      have hcc : Chg [] w w4 := hcb.trans hc4 (by simp)
      clear hcb hc4 h4 h3 hm3 hq
      generalize zeros (8 * 70) = W at *
      go_wp2_with fail
      refine (GuAll_at q S p L hp b 70 _ _ g4).mono ?_; rintro e w5 ⟨A5, c5, rfl, hc5, ho5, hlow5⟩
      have g5 := g4.self hc5
      have hcd : Chg [] w w5 := hcc.trans hc5 (by simp)
      have hs5 := ho5.slu
      clear hcc hc5 g4 ho5 hlow5
      by_cases he : m = 8 * L.length
      · have e1 : ((m : Int) == 8 * ↑L.length) = true := by simp; omega
        have e2 : ((m : Int) != 8 * ↑L.length) = false := by rw [show (m : Int) = 8 * ↑L.length by omega]; simp
        have hap : ∀ g o, B = some ⟨g, o, none⟩ → g ≠ b := fun g o e => by
          obtain ⟨b', o', e', hb', _⟩ := hx.at_ (by have := hok.1; omega)
          rw [e] at e'; injection e' with e'; injection e' with e' _; omega
        have hxl := hx.len
        have hfin : allG (loadTo (W) L xs L.length) L = xs := by
          have := allG_load (W := W) hok.inh hok.2.2.2.2.2 g5.hm.len (hxl.trans he)
          unfold loadG at this
          rwa [if_pos (by simp [loadB, hxl, he])] at this
        have HE := Lib.hid he; have HXL := Lib.hid hxl
        clear hs5 he hxl
        go_wp2_with fail
        refine (GuLoad_yes q S p L hp b 70 _ B m d xs _ g5 (hx.chg hcd (by simp)) hmd hap HE.out).mono ?_; rintro e w6 ⟨rfl, hc6, g6⟩
        have hce : Chg [] w w6 := hcd.trans hc6 (by intro i hi hm; simp at hm; omega)
        clear hcd hc6 g5
        have HFIN := Lib.hid hfin
        clear hfin
        generalize loadTo W L xs L.length = W' at *
        go_wp2_with fail
        go_loopw [10] (fun i w' => ∃ k : Nat, k ≤ m ∧ i = .int .i64 k ∧ w6 = w') (fun i _ => m - (intOf i).toNat)
        case atStart => exact ⟨0, by omega, rfl, rfl⟩
        case round =>
          obtain ⟨k, hk, rfl, rfl⟩ := hrel
          by_cases hlt : k < m
          · obtain ⟨b', off, rfl, _, dd⟩ := (hx.chg hce (by simp)).get hlt
            have he := HE.out
            have hget := GuGet_is q S p L hp b 70 W' ((k / 8 : Nat) : Int) ((k % 8 : Nat) : Int) (xs.getD k 0) true _ g6
              (by rw [getG_nat hok.inh (by omega) (by omega), show 8 * (k / 8) + k % 8 = k by omega, ← allG_get W' (by omega), HFIN.out])
              (by rw [hasG_nat hok.inh]; simp; omega)
            have hne : (xs.getD k 0 != xs.getD k 0) = false := by simp
            generalize xs.getD k 0 = x at *
            clear he
            rw [show ((k / 8 : Nat) : Int) = (k : Int) / 8 by omega, show ((k % 8 : Nat) : Int) = (k : Int) % 8 by omega] at hget
            go_wp2_with fail
            refine hget.mono ?_; rintro e w' ⟨rfl, rfl⟩
            clear hget
            go_wp2_with fail
            go_roundw
            case rel => exact ⟨k + 1, by omega, by go_num, trivial⟩
            case measure => simp [intOf]; omega
          · obtain rfl : k = m := by omega
            have hs6 := hx.chg hce (by simp)
            go_wp2_with fail
            refine (GuAll_at q S p L hp b 70 _ _ g6).mono ?_; rintro e w7 ⟨A7, c7, rfl, hc7, ho7, hlow7⟩
            rw [HFIN.out] at ho7
            go_wp2_with fail
            refine (SameWords_any A7 B _ _ c7 d _ _ _ ho7.slu (hs6.chg hc7 (by simp)) (by omega) (by omega)).mono ?_; rintro e w8 ⟨rfl, k, rfl⟩
            rw [eqL_self]
            go_wp2_with fail
            go_ret
            exact ⟨rfl, (hce.trans hc7 (by simp)).drewN k⟩
      · have e1 : ((m : Int) == 8 * ↑L.length) = false := by simp; omega
        have e2 : ((m : Int) != 8 * ↑L.length) = true := by simp; omega
        go_wp2_with fail
        refine (GuLoad_no q S p L hp b 70 _ B m d _ g5 hm he).mono ?_; rintro e w' ⟨rfl, rfl⟩
        go_wp2_with fail
        refine (GuAll_at q S p L hp b 70 _ _ g5).mono ?_; rintro e w6 ⟨A6, c6, rfl, hc6, ho6, hlow6⟩
        go_wp2_with fail
        refine (SameWords_any A6 A5 _ _ c6 c5 _ _ _ ho6.slu (hs5.chg hc6 (by simp)) (by omega) (by omega)).mono ?_; rintro e w7 ⟨rfl, k, rfl⟩
        rw [eqL_self]
        go_wp2_with fail
        go_ret
        exact ⟨rfl, (hcd.trans hc6 (by simp)).drewN k⟩
  · go_wp2_with fail
    refine (GNew_no A L.length c L 70 _ (h.chg hca) hok).mono ?_; rintro e w3 ⟨rfl, hc3⟩
    go_wp2_with fail
    go_ret
    exact ⟨rfl, hca.trans hc3 (by simp)⟩

end Go.Proofs.Ytepbknndemlbcaa
