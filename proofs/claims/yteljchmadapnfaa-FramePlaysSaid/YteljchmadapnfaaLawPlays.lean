/-
  FramePlays: the walk.
-/
import Derived.Test.YteljchmadapnfaaHead
import Derived.Deep.RegionHeld3
namespace Go.Proofs.Yteljchmadapnfaa
open Go.RowKit

set_option maxRecDepth 100000 in
set_option maxHeartbeats 8000000 in
theorem FramePlays_walk (fr : Int) (A : Option Addr) (n c : Nat) (w : World) (hfr : -9223372036854775808 ≤ fr ∧ fr ≤ 9223372036854775807) (hl : SlOp w A n) :
    Calls Try.prog 3 #[.int .i64 fr, .slice A n c] w fun e w' => e = .returned (.bool true) ∧ Chg [] w w' := by
  have hn := hl.le
  go_enter Try.func3, Try.ntmps3
  go_wp2_with fail
  refine (head_any _).mono ?_; rintro e w1 ⟨rfl, hc1⟩
  go_wp2_with fail
  refine (Great_any A n c _ (hl.chg hc1)).mono ?_; rintro e w' ⟨⟨g, rfl⟩, rfl⟩
  cases g with
  | true =>
    go_wp2_with fail
    go_ret
    exact ⟨rfl, hc1⟩
  | false =>
    by_cases hbad : fr < 1 ∨ 256 < fr
    · go_wp2_with fail
      refine (New_no fr _ hbad).mono ?_; rintro e w' ⟨rfl, rfl⟩
      go_wp2_with fail
      refine (RNew_no fr _ hbad).mono ?_; rintro e w' ⟨rfl, rfl⟩
      clear hbad
      go_wp2_with fail
      go_ret
      exact ⟨rfl, hc1⟩
    · obtain ⟨m, rfl⟩ := Int.eq_ofNat_of_zero_le (show 0 ≤ fr by omega)
      have hm1 : 1 ≤ m ∧ m ≤ 256 := by omega
      clear hbad hfr
      go_wp2_with fail
      refine (New_at m _ hm1.1 hm1.2).mono ?_; rintro e w2 ⟨p, d, rfl, hc2, hm, hp, hd⟩
      go_wp2_with fail
      refine (RNew_at m _ hm1.1 hm1.2).mono ?_; rintro e w3 ⟨p2, d2, rfl, hc3, hr, hp2, hd2⟩
      have hm3 := hm.chg hc3 (by simp) (by simp)
      have hc := (hc1.trans hc2 (by simp)).trans hc3 (by simp)
      have hpd : w.heap.size ≤ p ∧ w.heap.size ≤ d ∧ p < p2 ∧ p < d2 ∧ d < p2 ∧ d < d2 := by
        have h1 := hm.st.lt; have h2 := hm.ws.lt; have h3 := hc1.size; omega
      clear hm hc1 hc2 hc3 hp hd hp2 hd2
      go_wp2_with fail
      go_loopw [8] (fun i w' => ∃ (k : Nat) (L : List Int), k ≤ n ∧ i = .int .i64 k ∧ Chg [] w w' ∧ MemAt w' p d m L ∧ RMemAt w' p2 d2 m L) (fun i _ => n - (intOf i).toNat)
      case atStart => exact ⟨0, _, by omega, rfl, hc, hm3, hr⟩
      case round =>
        obtain ⟨k, L, hk, rfl, hck, hmk, hrk⟩ := hrel
        clear hc hm3 hr
        by_cases hlt : k < n
        · obtain ⟨ob, off, rfl, what, f, i, v, LA, LN, LC, xs, ho0⟩ := hl.get hlt
          have hop := ho0.chg hck (World.block_lt_of_cell? _ _ ho0.c0)
          have c0 := hop.c0; have c1 := hop.c1; have c2 := hop.c2; have c3 := hop.c3; have c4 := hop.c4
          have hcA : Chg [] wr (wr.alloc (.cells #[.int .i64 what, .int .i64 f, .int .i64 i, .int .u64 v, .slice LA LN LC] 32)) := (Chg.refl _ _).alloc _
          have hA := Blk.new wr 32 #[.int .i64 what, .int .i64 f, .int .i64 i, .int .u64 v, .slice LA LN LC]
          have hlts : p < wr.heap.size ∧ d < wr.heap.size ∧ p2 < wr.heap.size ∧ d2 < wr.heap.size := ⟨hmk.st.lt, hmk.ws.lt, hrk.st.lt, hrk.ws.lt⟩
          have hmA := hmk.chg hcA (by simp) (by simp)
          have hrA := hrk.chg hcA (by simp) (by simp)
          have hcwA := hck.trans hcA (by simp)
          have hln := ho0.ln
          have hls := ho0.ls
          have hap : ∀ g o, LA = some ⟨g, o, none⟩ → 0 < LN → g < w.heap.size := fun g o e h0 => by
            obtain ⟨b', o', e', hb', _⟩ := hls.at_ h0
            rw [e] at e'; injection e' with e'; injection e' with e1 _; omega
          clear hcA hmk hrk hck hop ho0
          by_cases h3 : what = 3
          · subst h3
            go_wp2_with fail
            clear c0 c1 c2 c3 c4
            have hlsA := hls.chg hcwA (by simp)
            generalize wr.heap.size = z at *
            refine (Fill_at p d m L f LA LN LC xs _ hmA hlsA hln).mono ?_; rintro e w3 ⟨rfl, hc3, hm3⟩
            have hb3 := hc3.blk hA (by simp; omega)
            have hr3 := hrA.chg hc3 (by simp; omega) (by simp; omega)
            have hcw3 : Chg [] w w3 := hcwA.trans hc3 (by intro q hq hm; simp at hm; omega)
            have hls3 := hls.chg hcw3 (by simp)
            have d1 := hb3.cell 1; have d4 := hb3.cell 4
            simp at d1 d4
            clear hc3 hmA hrA hA hlsA hcwA
            go_wp2_with fail
            refine (RFill_at p2 d2 m L f LA LN LC xs _ hr3 hls3 hln (fun h0 g o e => by have := hap g o e h0; omega)).mono ?_; rintro e w4 ⟨rfl, hc4, hr4⟩
            have hb4 := hc4.blk hb3 (by simp; omega)
            have hm4 := hm3.chg hc4 (by simp; omega) (by simp; omega)
            have hcw4 : Chg [] w w4 := hcw3.trans hc4 (by intro q hq hm; simp at hm; omega)
            clear hc4 hm3 hr3 hb3 hls3 hcw3 d1 d4 hls hap
            generalize fillW m L f xs = L3 at *
            have hfw := frameW_le m L3 f
            have hcx := hb4.cell 1
            simp at hcx
            have hzl := hb4.lt
            have hxx : eqL (frameW m L3 f) (frameW m L3 f) = true := by simp [eqL]
            clear hb4
            go_wp2_with fail
            go_region_held3 (fun w' => w'.cell? ⟨z, 1, none⟩ = some (.int .i64 f))
              (first
                | exact hcx
                | (rw [hc5.cell (p := ⟨z, 1, none⟩) hzl (by simp)]; exact hcx)
                | (rw [hc6.cell (p := ⟨z, 1, none⟩) (Nat.lt_of_lt_of_le hzl hc5.size) (by simp), hc5.cell (p := ⟨z, 1, none⟩) hzl (by simp)]; exact hcx)
                | go_keep)
              ((first
                | (go_at_call 20; refine (Frame_at p d m L3 f _ (hm4.chg (Chg.refl [] w4).drew (by simp) (by simp))).mono ?_; rintro e w5 ⟨A5, c5, rfl, hc5, hs5, hA5, _⟩)
                | (go_at_call 21; refine (RFrame_at p2 d2 m L3 f _ ((hr4.chg (Chg.refl [] w4).drew (by simp) (by simp)).chg hc5 (by simp) (by simp))).mono ?_; rintro e w6 ⟨A6, c6, rfl, hc6, hs6, hA6, _⟩)
                | (go_at_call 19; refine (SameWords_any A5 A6 _ _ c5 c6 _ _ _ (hs5.chg hc6 (by simp)) hs6 (by omega) (by omega)).mono ?_; rintro e w7 ⟨rfl, q, rfl⟩)))
            have hc47 : Chg [] w4 (w6.drewN q) := (((Chg.refl [] w4).drew.trans hc5 (by simp)).trans hc6 (by simp)).drewN q
            have hm7 := hm4.chg hc47 (by simp) (by simp)
            have hr7 := hr4.chg hc47 (by simp) (by simp)
            have hcw7 := hcw4.trans hc47 (by simp)
            clear hm4 hr4 hcw4 hc5 hc6 hs5 hs6 hA5 hA6 hcx hc47
            go_wp2_with fail
            go_roundw
            case rel => exact ⟨k + 1, _, by omega, by go_num, hcw7, hm7, hr7⟩
            case measure => simp [intOf]; omega
          · have e3 : (what == 3) = false := by simp [h3]
            clear h3
            by_cases h4 : what = 4
            · subst h4
              go_wp2_with fail
              clear c0 c1 c2 c3 c4
              have d1 := hA.cell 1; have d2' := hA.cell 2
              simp only [List.getElem?_toArray, List.getElem?_cons_succ, List.getElem?_cons_zero] at d1 d2'
              generalize wr.heap.size = z at *
              refine (Get_at p d m L f i _ hmA).mono ?_; rintro e w' ⟨rfl, rfl⟩
              go_wp2_with fail
              refine (RGet_at p2 d2 m L f i _ hrA).mono ?_; rintro e w' ⟨rfl, rfl⟩
              have hb4 := hA; have hm4 := hmA; have hr4 := hrA; have hcw4 := hcwA
              clear hA hmA hrA hcwA hls hap e3
              generalize hw4 : wr.alloc (.cells #[.int .i64 4, .int .i64 f, .int .i64 i, .int .u64 v, .slice LA LN LC] 32) = w4 at *
              have HW := Lib.hid hw4; clear hw4
              obtain ⟨L3, hL3⟩ : ∃ x : List Int, x = L := ⟨L, rfl⟩
              subst hL3
              have hfw := frameW_le m L3 f
              have hcx := hb4.cell 1
              simp at hcx
              have hzl := hb4.lt
              have hxx : eqL (frameW m L3 f) (frameW m L3 f) = true := by simp [eqL]
              clear hb4
              go_wp2_with fail
              go_region_held3 (fun w' => w'.cell? ⟨z, 1, none⟩ = some (.int .i64 f))
                (first
                  | exact hcx
                  | (rw [hc5.cell (p := ⟨z, 1, none⟩) hzl (by simp)]; exact hcx)
                  | (rw [hc6.cell (p := ⟨z, 1, none⟩) (Nat.lt_of_lt_of_le hzl hc5.size) (by simp), hc5.cell (p := ⟨z, 1, none⟩) hzl (by simp)]; exact hcx)
                  | go_keep)
                ((first
                  | (go_at_call 20; refine (Frame_at p d m L3 f _ (hm4.chg (Chg.refl [] w4).drew (by simp) (by simp))).mono ?_; rintro e w5 ⟨A5, c5, rfl, hc5, hs5, hA5, _⟩)
                  | (go_at_call 21; refine (RFrame_at p2 d2 m L3 f _ ((hr4.chg (Chg.refl [] w4).drew (by simp) (by simp)).chg hc5 (by simp) (by simp))).mono ?_; rintro e w6 ⟨A6, c6, rfl, hc6, hs6, hA6, _⟩)
                  | (go_at_call 19; refine (SameWords_any A5 A6 _ _ c5 c6 _ _ _ (hs5.chg hc6 (by simp)) hs6 (by omega) (by omega)).mono ?_; rintro e w7 ⟨rfl, q, rfl⟩)))
              have hc47 : Chg [] w4 (w6.drewN q) := (((Chg.refl [] w4).drew.trans hc5 (by simp)).trans hc6 (by simp)).drewN q
              have hm7 := hm4.chg hc47 (by simp) (by simp)
              have hr7 := hr4.chg hc47 (by simp) (by simp)
              have hcw7 := hcw4.trans hc47 (by simp)
              clear hm4 hr4 hcw4 hc5 hc6 hs5 hs6 hA5 hA6 hcx hc47
              go_wp2_with fail
              go_roundw
              case rel => exact ⟨k + 1, _, by omega, by go_num, hcw7, hm7, hr7⟩
              case measure => simp [intOf]; omega
            · have e4 : (what == 4) = false := by simp [h4]
              clear h4
              go_wp2_with fail
              clear c0 c1 c2 c3 c4
              generalize wr.heap.size = z at *
              refine (Set_at p d m L f i v _ hmA).mono ?_; rintro e w3 ⟨rfl, hc3, hm3⟩
              have hb3 := hc3.blk hA (by simp; omega)
              have hr3 := hrA.chg hc3 (by simp; omega) (by simp; omega)
              have hcw3 : Chg [] w w3 := hcwA.trans hc3 (by intro q hq hm; simp at hm; omega)
              have d1 := hb3.cell 1; have d2' := hb3.cell 2; have d3 := hb3.cell 3
              simp at d1 d2' d3
              clear hc3 hmA hrA hA hcwA
              go_wp2_with fail
              refine (RSet_at p2 d2 m L f i v _ hr3).mono ?_; rintro e w4 ⟨rfl, hc4, hr4⟩
              have hb4 := hc4.blk hb3 (by simp; omega)
              have hm4 := hm3.chg hc4 (by simp; omega) (by simp; omega)
              have hcw4 : Chg [] w w4 := hcw3.trans hc4 (by intro q hq hm; simp at hm; omega)
              clear hc4 hm3 hr3 hb3 hcw3 d1 d2' d3 hls hap
              generalize setW m L f i v = L3 at *
              have hfw := frameW_le m L3 f
              have hcx := hb4.cell 1
              simp at hcx
              have hzl := hb4.lt
              have hxx : eqL (frameW m L3 f) (frameW m L3 f) = true := by simp [eqL]
              clear hb4
              go_wp2_with fail
              go_region_held3 (fun w' => w'.cell? ⟨z, 1, none⟩ = some (.int .i64 f))
                (first
                  | exact hcx
                  | (rw [hc5.cell (p := ⟨z, 1, none⟩) hzl (by simp)]; exact hcx)
                  | (rw [hc6.cell (p := ⟨z, 1, none⟩) (Nat.lt_of_lt_of_le hzl hc5.size) (by simp), hc5.cell (p := ⟨z, 1, none⟩) hzl (by simp)]; exact hcx)
                  | go_keep)
                ((first
                  | (go_at_call 20; refine (Frame_at p d m L3 f _ (hm4.chg (Chg.refl [] w4).drew (by simp) (by simp))).mono ?_; rintro e w5 ⟨A5, c5, rfl, hc5, hs5, hA5, _⟩)
                  | (go_at_call 21; refine (RFrame_at p2 d2 m L3 f _ ((hr4.chg (Chg.refl [] w4).drew (by simp) (by simp)).chg hc5 (by simp) (by simp))).mono ?_; rintro e w6 ⟨A6, c6, rfl, hc6, hs6, hA6, _⟩)
                  | (go_at_call 19; refine (SameWords_any A5 A6 _ _ c5 c6 _ _ _ (hs5.chg hc6 (by simp)) hs6 (by omega) (by omega)).mono ?_; rintro e w7 ⟨rfl, q, rfl⟩)))
              have hc47 : Chg [] w4 (w6.drewN q) := (((Chg.refl [] w4).drew.trans hc5 (by simp)).trans hc6 (by simp)).drewN q
              have hm7 := hm4.chg hc47 (by simp) (by simp)
              have hr7 := hr4.chg hc47 (by simp) (by simp)
              have hcw7 := hcw4.trans hc47 (by simp)
              clear hm4 hr4 hcw4 hc5 hc6 hs5 hs6 hA5 hA6 hcx hc47
              go_wp2_with fail
              go_roundw
              case rel => exact ⟨k + 1, _, by omega, by go_num, hcw7, hm7, hr7⟩
              case measure => simp [intOf]; omega
        · obtain rfl : k = n := by omega
          clear hlt hk
          go_wp2_with fail
          go_loopw [17] (fun i w' => ∃ (j : Int), -1 ≤ j ∧ j ≤ m + 1 ∧ i = .int .i64 j ∧ Chg [] w w' ∧ MemAt w' p d m L ∧ RMemAt w' p2 d2 m L) (fun i _ => (m + 1 - intOf i).toNat)
          case atStart => exact ⟨-1, by omega, by omega, rfl, hck, hmk, hrk⟩
          case round =>
            clear hck hmk hrk
            obtain ⟨j, hj1, hj2, rfl, hck, hmk, hrk⟩ := hrel
            go_wp2_with fail
            refine (Frames_any p d m L _ hmk).mono ?_; rintro e w' ⟨rfl, rfl⟩
            by_cases hlt : j ≤ m
            · have hfw := frameW_le m L j
              have hxx : eqL (frameW m L j) (frameW m L j) = true := by simp [eqL]
              go_wp2_with fail
              refine (Frame_at p d m L j _ hmk).mono ?_; rintro e w5 ⟨A5, c5, rfl, hc5, hs5, hA5, _⟩
              go_wp2_with fail
              refine (RFrame_at p2 d2 m L j _ (hrk.chg hc5 (by simp) (by simp))).mono ?_; rintro e w6 ⟨A6, c6, rfl, hc6, hs6, hA6, _⟩
              go_wp2_with fail
              refine (SameWords_any A5 A6 _ _ c5 c6 _ _ _ (hs5.chg hc6 (by simp)) hs6 (by omega) (by omega)).mono ?_; rintro e w7 ⟨rfl, q, rfl⟩
              have hcc := (hc5.trans hc6 (by simp)).drewN q
              have hm7 := hmk.chg hcc (by simp) (by simp)
              have hr7 := hrk.chg hcc (by simp) (by simp)
              have hcw := hck.trans hcc (by simp)
              clear hck hmk hrk hc5 hc6 hs5 hs6 hA5 hA6 hcc
              go_wp2_with fail
              go_roundw
              case rel => exact ⟨j + 1, by omega, by omega, rfl, hcw, hm7, hr7⟩
              case measure => simp [intOf]; omega
            · go_wp2_with fail
              refine (Frames_any p d m L _ hmk).mono ?_; rintro e w' ⟨rfl, rfl⟩
              go_wp2_with fail
              refine (RFrames_any p2 d2 m L _ hrk).mono ?_; rintro e w' ⟨rfl, rfl⟩
              go_wp2_with fail
              go_ret
              exact ⟨rfl, hck⟩

end Go.Proofs.Yteljchmadapnfaa
