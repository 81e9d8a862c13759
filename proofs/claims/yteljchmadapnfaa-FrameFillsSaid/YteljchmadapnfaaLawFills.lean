/-
  FrameFills: the walk.
-/
import Derived.Test.YteljchmadapnfaaLawSame
namespace Go.Proofs.Yteljchmadapnfaa
open Go.RowKit

theorem frameOf_fill {L ws : List Int} {n m k : Nat} {f : Int} (hl : L.length = 8 * n) (hw : ws.length = m) (hk : k < n) : frameOf (fillW n L f ws) k = if fillB n f m = true ∧ (k : Int) = f then ws else frameOf L k := by
  subst hw
  unfold fillW
  by_cases h : fillB n f ws.length = true
  · rw [if_pos h]
    have h' := h
    simp only [fillB, hasF, Bool.and_eq_true, decide_eq_true_eq] at h'
    obtain ⟨q, rfl⟩ := Int.eq_ofNat_of_zero_le h'.1.1
    rw [Int.toNat_natCast]
    by_cases e : (k : Int) = q
    · rw [if_pos ⟨h, e⟩]
      have : k = q := by omega
      subst this
      exact frameOf_setAll hl h'.2 hk
    · rw [if_neg (fun h => e h.2)]
      exact frameOf_setAll_ne hl h'.2 (by omega) hk (by omega)
  · rw [if_neg h, if_neg (fun h' => h h'.1)]

set_option maxRecDepth 100000 in
set_option maxHeartbeats 4000000 in
theorem FrameFills_walk (A : Option Addr) (n c : Nat) (f : Int) (WA : Option Addr) (wn wc : Nat) (ws : List Int) (w : World) (hl : SlOp w A n) (hf : -9223372036854775808 ≤ f ∧ f ≤ 9223372036854775807)
    (hwn : wn ≤ 9223372036854775807) (_hnil : WA = none → wn = 0 ∧ wc = 0) (hws : SlU w WA wn ws) :
    Calls Try.prog 8 #[.slice A n c, .int .i64 f, .slice WA wn wc] w fun e w' => e = .returned (.bool true) ∧ Chg [] w w' := by
  clear _hnil
  have hn := hl.le
  go_enter Try.func8, Try.ntmps8
  go_wp2_with fail
  refine (head_any _).mono ?_; rintro e w1 ⟨rfl, hc1⟩
  go_wp2_with fail
  refine (New_at 16 _ (by omega) (by omega)).mono ?_; rintro e w2 ⟨p, d, rfl, hc2, hm4, hp, hd⟩
  have hc := hc1.trans hc2 (by simp)
  have hpd : w.heap.size ≤ p ∧ w.heap.size ≤ d := by have := hc1.size; omega
  have hl4 := hl.chg hc
  clear hp hd hc1 hc2
  have hin := Blk.new w2 45 (Array.replicate 16 (.slice none 0 0))
  go_wp2_with fail
  refine (Great_any A n c _ hl4).mono ?_; rintro e w' ⟨⟨g, rfl⟩, rfl⟩
  cases g with
  | true =>
    go_wp2_with fail
    go_ret
    exact ⟨rfl, hc⟩
  | false =>
    by_cases hbig : 900 < (wn : Int)
    · go_wp2_with fail
      go_ret
      exact ⟨rfl, hc⟩
    have hsm : wn ≤ 900 := by omega
    clear hbig hwn
    go_wp2_with fail
    go_loopw [9] (fun i w' => ∃ (k : Nat) (L : List Int), k ≤ n ∧ i = .int .i64 k ∧ Chg [] w w' ∧ MemAt w' p d 16 L) (fun i _ => n - (intOf i).toNat)
    case atStart => exact ⟨0, _, by omega, rfl, hc, hm4⟩
    case round =>
      obtain ⟨k, L, hk, rfl, hck, hmk⟩ := hrel
      clear hc hm4 hl4
      by_cases hlt2 : k < n
      · obtain ⟨ob, off, rfl, what, f', i', v', LA, LN, LC, xs, ho0⟩ := hl.get hlt2
        have hop := ho0.chg hck (World.block_lt_of_cell? _ _ ho0.c0)
        have c1 := hop.c1; have c2 := hop.c2; have c3 := hop.c3
        clear hop ho0
        go_wp2_with fail
        refine wp_region_still_tail 16 (by kernel_rfl) (by kernel_rfl) ?_
        simp only [List.take_succ_cons, List.take_zero, List.drop_succ_cons, List.drop_zero]
        change wpStill _ _ (World.drew _) _ _ _
        repeat still_step
        refine wpStill_nil ?_
        change wpList _ _ _ _ _ (World.drew _)
        go_wp2_with fail
        refine (Set_at p d 16 L f' i' v' _ (hmk.chg (Chg.refl [] wr).drew (by simp) (by simp))).mono ?_; rintro e w5 ⟨rfl, hc5, hm5⟩
        have hcw : Chg [] w w5 := hck.drew.trans hc5 (by intro q hq hm; simp at hm; omega)
        clear hmk hck hc5 c1 c2 c3
        go_wp2_with fail
        go_roundw
        case rel => exact ⟨k + 1, _, by omega, by go_num, hcw, hm5⟩
        case measure => simp [intOf]; omega
      · obtain rfl : k = n := by omega
        have hlen := hmk.len
        clear hlt2 hk
        have hpd2 : p < wr.heap.size ∧ d < wr.heap.size := ⟨hmk.st.lt, hmk.ws.lt⟩
        have hww : w.heap.size ≤ wr.heap.size := hck.size
        have hz0 := Blk.new wr 45 #[.slice none 0 0, .slice none 0 0, .slice none 0 0, .slice none 0 0, .slice none 0 0, .slice none 0 0, .slice none 0 0, .slice none 0 0, .slice none 0 0, .slice none 0 0, .slice none 0 0, .slice none 0 0, .slice none 0 0, .slice none 0 0, .slice none 0 0, .slice none 0 0]
        have hcz := hck.alloc (.cells #[.slice none 0 0, .slice none 0 0, .slice none 0 0, .slice none 0 0, .slice none 0 0, .slice none 0 0, .slice none 0 0, .slice none 0 0, .slice none 0 0, .slice none 0 0, .slice none 0 0, .slice none 0 0, .slice none 0 0, .slice none 0 0, .slice none 0 0, .slice none 0 0] 45)
        have hmz := hmk.chg ((Chg.refl [] wr).alloc (.cells #[.slice none 0 0, .slice none 0 0, .slice none 0 0, .slice none 0 0, .slice none 0 0, .slice none 0 0, .slice none 0 0, .slice none 0 0, .slice none 0 0, .slice none 0 0, .slice none 0 0, .slice none 0 0, .slice none 0 0, .slice none 0 0, .slice none 0 0, .slice none 0 0] 45)) (by simp) (by simp)
        clear hck hmk hin
        go_wp2_with fail
        generalize hzz : wr.heap.size = z at *
        clear hzz
        go_loopw [11] (fun i w' => ∃ (k : Nat) (cs : Array Value), k ≤ 16 ∧ i = .int .i64 k ∧ Chg [] w w' ∧ MemAt w' p d 16 L ∧ Blk w' z 45 cs ∧ cs.size = 16 ∧ ∀ j, j < k → ∃ A c, cs[j]? = some (.slice A 8 c) ∧ SlU w' A 8 (frameOf L j) ∧ ∀ g o, A = some ⟨g, o, none⟩ → z < g) (fun i _ => 16 - (intOf i).toNat)
        case atStart => exact ⟨0, _, by omega, rfl, hcz, hmz, hz0, rfl, fun j hj => by omega⟩
        case round =>
          clear hz0 hcz hmz
          obtain ⟨k, cs, hk, rfl, hck, hmk, hzb, hcs, hall⟩ := hrel
          have HA := Lib.hid hall; have HC := Lib.hid hcs
          clear hall hcs
          by_cases hlt3 : k < 16
          · have hzl := hzb.lt
            go_wp2_with fail
            refine (Frame_yes p d 16 L k _ hmk hlt3).mono ?_; rintro e w5 ⟨rfl, hc5, _, hb5⟩
            have hfl := frameOf_len hlen hlt3
            have hs5 := SlU.of_blk hb5 hfl
            have hz5 := hc5.blk hzb (by simp)
            have hcw5 := hck.trans hc5 (by simp)
            have hm5 := hmk.chg hc5 (by simp) (by simp)
            have hold : ∀ j, j < k → ∃ A c, cs[j]? = some (.slice A 8 c) ∧ SlU w5 A 8 (frameOf L j) ∧ ∀ g o, A = some ⟨g, o, none⟩ → z < g := fun j hj => by
              obtain ⟨A, c, h1, h2, h3⟩ := HA.out j hj
              exact ⟨A, c, h1, h2.chg hc5 (by simp), h3⟩
            have HO := Lib.hid hold
            have hck5 : w5.cell? ⟨z, k, none⟩ = some (cs[k]'(by rw [HC.out]; exact hlt3)) := by rw [hz5.cell, Array.getElem?_eq_getElem]
            have hfr := hz5.frozen k
            clear hold hb5 hc5 hzb hck hmk
            generalize (cs[k]'(by rw [HC.out]; exact hlt3)) = old at *
            generalize hvv : wr.heap.size = y at *
            clear hvv
            go_wp2_with fail
            have hset := hz5.set_ k (.slice (some ⟨y, 0, none⟩) 8 8)
            have hnew : ∀ j, j < k + 1 → ∃ A c, (cs.setIfInBounds k (.slice (some ⟨y, 0, none⟩) 8 8))[j]? = some (.slice A 8 c) ∧ SlU (w5.setCell ⟨z, k, none⟩ (.slice (some ⟨y, 0, none⟩) 8 8)) A 8 (frameOf L j) ∧ ∀ g o, A = some ⟨g, o, none⟩ → z < g := fun j hj => by
              have hcc : Chg [z] w5 (w5.setCell ⟨z, k, none⟩ (.slice (some ⟨y, 0, none⟩) 8 8)) := (Chg.refl _ _).setCell (by simp) _
              by_cases e : j = k
              · subst e
                exact ⟨some ⟨y, 0, none⟩, 8, by rw [Array.getElem?_setIfInBounds]; simp [HC.out, hlt3], hs5.chg hcc (by intro b o e; injection e with e; injection e with e; simp; omega), by intro g o e; injection e with e; injection e with e; omega⟩
              · obtain ⟨A, c, h1, h2, h3⟩ := HO.out j (by omega)
                exact ⟨A, c, by rw [Array.getElem?_setIfInBounds, if_neg (by omega)]; exact h1, h2.chg hcc (fun b o e => by have := h3 b o e; simp; omega), h3⟩
            go_roundw
            case rel => exact ⟨k + 1, _, by omega, by go_num, hcw5.setCell (by simp; omega) _, ⟨hm5.st.far (by simp; omega) _, hm5.ws.far (by simp; omega) _, hm5.len, hm5.pos, hm5.le⟩, hset, by simp [HC.out], hnew⟩
            case measure => simp [intOf]; omega
          · obtain rfl : k = 16 := by omega
            have hwsr := hws.chg hck (by simp)
            have hzl := hzb.lt
            have hwl := hws.len
            go_wp2_with fail
            refine (Fill_at p d 16 L f WA wn wc ws _ hmk hwsr (by omega)).mono ?_; rintro e w5 ⟨rfl, hc5, hm5⟩
            have hz5 := hc5.blk hzb (by simp; omega)
            have hcw5 : Chg [] w w5 := hck.trans hc5 (by intro q hq hm; simp at hm; omega)
            have hws5 := hws.chg hcw5 (by simp)
            have hold : ∀ j, j < 16 → ∃ A c, cs[j]? = some (.slice A 8 c) ∧ SlU w5 A 8 (frameOf L j) := fun j hj => by
              obtain ⟨A, c, h1, h2, h3⟩ := HA.out j hj
              exact ⟨A, c, h1, h2.chg hc5 (fun b o e => by have := h3 b o e; simp; omega)⟩
            have hfo : ∀ k, k < 16 → frameOf (fillW 16 L f ws) k = if fillB 16 f wn = true ∧ (k : Int) = f then ws else frameOf L k := fun k hk => frameOf_fill hlen hwl hk
            have hl8 : ∀ k, k < 16 → (frameOf L k).length = 8 := fun k hk => frameOf_len hlen hk
            have hl9 : ∀ k, k < 16 → (frameOf (fillW 16 L f ws) k).length = 8 := fun k hk => frameOf_len hm5.len hk
            have HO := Lib.hid hold; have HF := Lib.hid hfo; have H8 := Lib.hid hl8; have H9 := Lib.hid hl9
            clear hold hfo hl8 hl9 hwsr hmk hck hc5 hzb hlen HA HC
            generalize fillW 16 L f ws = M at *
            generalize hT : fillB 16 f wn = t at *
            have HT := Lib.hid hT
            clear hT
            go_wp2_with fail
            go_loopw [13] (fun i w' => ∃ (k : Nat), k ≤ 16 ∧ i = .int .i64 k ∧ Chg [] w5 w') (fun i _ => 16 - (intOf i).toNat)
            case atStart => exact ⟨0, by omega, rfl, Chg.refl _ _⟩
            case round =>
              obtain ⟨k, hk, rfl, hck⟩ := hrel
              by_cases hlt3 : k < 16
              · have hzk := hck.blk hz5 (by simp)
                have hmk := hm5.chg hck (by simp) (by simp)
                have hwk := hws5.chg hck (by simp)
                obtain ⟨A1, c1, h1, h2⟩ := HO.out k hlt3
                have h2k := h2.chg hck (by simp)
                have hcell := hzk.cell k
                rw [h1] at hcell
                have hff := HF.out k hlt3
                have h8 := H8.out k hlt3
                have h9 := H9.out k hlt3
                clear h1 h2
                cases t with
                | true =>
                  by_cases hkf : (k : Int) = f
                  · rw [if_pos ⟨rfl, hkf⟩] at hff
                    have hb1 : ((k : Int) == f) = true := by simp [hkf]
                    have hfl : wn = 8 := by have hB := HT.out; simp only [fillB, Bool.and_eq_true, decide_eq_true_eq] at hB; exact hB.2
                    clear hkf hfl
                    go_wp2_with fail
                    refine (Frame_yes p d 16 M k _ hmk hlt3).mono ?_; rintro e w6 ⟨rfl, hc6, _, hb6⟩
                    have hs6 := SlU.of_blk hb6 h9
                    rw [hff] at hs6
                    have hw6 := hwk.chg hc6 (by simp)
                    have hxx : eqL ws ws = true := by simp [eqL]
                    clear hb6 h8 h9 hff
                    go_wp2_with fail
                    refine (SameWords_any _ WA 8 wn 8 wc ws ws _ hs6 hw6 (by omega) (by omega)).mono ?_; rintro e w' ⟨rfl, q, rfl⟩
                    go_wp2_with fail
                    go_roundw
                    case rel => exact ⟨k + 1, by omega, by go_num, (hck.trans hc6 (by simp)).drewN q⟩
                    case measure => simp [intOf]; omega
                  · rw [if_neg (fun h => hkf h.2)] at hff
                    have hb1 : ((k : Int) == f) = false := by simp [hkf]
                    clear hkf
                    go_wp2_with fail
                    refine (Frame_yes p d 16 M k _ hmk hlt3).mono ?_; rintro e w6 ⟨rfl, hc6, _, hb6⟩
                    have hs6 := SlU.of_blk hb6 h9
                    rw [hff] at hs6
                    have hw6 := h2k.chg hc6 (by simp)
                    have hxx : eqL (frameOf L k) (frameOf L k) = true := by simp [eqL]
                    clear hb6 h8 h9 hff
                    go_wp2_with fail
                    refine (SameWords_any _ A1 8 8 8 c1 _ _ _ hs6 hw6 (by omega) (by omega)).mono ?_; rintro e w' ⟨rfl, q, rfl⟩
                    go_wp2_with fail
                    go_roundw
                    case rel => exact ⟨k + 1, by omega, by go_num, (hck.trans hc6 (by simp)).drewN q⟩
                    case measure => simp [intOf]; omega
                | false =>
                  rw [if_neg (fun h => by cases h.1)] at hff
                  go_wp2_with fail
                  refine (Frame_yes p d 16 M k _ hmk hlt3).mono ?_; rintro e w6 ⟨rfl, hc6, _, hb6⟩
                  have hs6 := SlU.of_blk hb6 h9
                  rw [hff] at hs6
                  have hw6 := h2k.chg hc6 (by simp)
                  have hxx : eqL (frameOf L k) (frameOf L k) = true := by simp [eqL]
                  clear hb6 h8 h9 hff
                  go_wp2_with fail
                  refine (SameWords_any _ A1 8 8 8 c1 _ _ _ hs6 hw6 (by omega) (by omega)).mono ?_; rintro e w' ⟨rfl, q, rfl⟩
                  go_wp2_with fail
                  go_roundw
                  case rel => exact ⟨k + 1, by omega, by go_num, (hck.trans hc6 (by simp)).drewN q⟩
                  case measure => simp [intOf]; omega
              · obtain rfl : k = 16 := by omega
                clear HO HF H8 H9 hz5 hm5 hws5 hk hlt3
                have hend := hcw5.trans hck (by simp)
                have hT := HT.out
                clear HT
                clear hcw5 hck
                by_cases f0 : 0 ≤ f
                · by_cases f1 : f < 16
                  · have hfb : fillB 16 f wn = decide (wn = 8) := by simp [fillB, hasF]; omega
                    by_cases f2 : wn = 8
                    · have e1 : ((wn : Int) == 8) = true := by simp [f2]
                      have e2 : t = true := by rw [← hT, hfb]; simp [f2]
                      clear f2 hfb hT
                      subst e2
                      go_wp2_with fail
                      go_ret
                      exact ⟨rfl, hend⟩
                    · have e1 : ((wn : Int) == 8) = false := by simp; omega
                      have e2 : t = false := by rw [← hT, hfb]; simp [f2]
                      clear f2 hfb hT
                      subst e2
                      go_wp2_with fail
                      go_ret
                      exact ⟨rfl, hend⟩
                  · have e2 : t = false := by rw [← hT]; simp [fillB, hasF]; omega
                    clear hT
                    subst e2
                    go_wp2_with fail
                    go_ret
                    exact ⟨rfl, hend⟩
                · have e2 : t = false := by rw [← hT]; simp [fillB, hasF]; omega
                  clear hT
                  subst e2
                  go_wp2_with fail
                  go_ret
                  exact ⟨rfl, hend⟩

end Go.Proofs.Yteljchmadapnfaa
