/-
  FrameWords: the walk.
-/
import Derived.Test.YteljchmadapnfaaHead
namespace Go.Proofs.Yteljchmadapnfaa
open Go.RowKit

theorem zeros_getD (n i : Nat) : (zeros n).getD i 0 = 0 := by
  simp only [zeros, List.getD_eq_getElem?_getD, List.getElem?_replicate]; split <;> rfl

theorem getW_at {L : List Int} {a b : Nat} (ha : a < 16) (hb : b < 8) : getW 16 L a b = L.getD (a * 8 + b) 0 := by
  have : hasW 16 a b = true := by simp [hasW]; omega
  simp [getW, this]
theorem getD_setAll {L xs : List Int} {f a b : Nat} (hl : L.length = 8 * 16) (hx : xs.length = 8) (hf : f < 16) (ha : a < 16) (hb : b < 8) :
    (setAll L (f * 8) xs).getD (a * 8 + b) 0 = if f = a then xs.getD b 0 else L.getD (a * 8 + b) 0 := by
  simp only [List.getD_eq_getElem?_getD]
  rw [setAll_get _ _ _ _ (by omega)]
  by_cases e : f = a
  · subst e
    rw [if_pos (by omega), if_pos rfl, Nat.add_sub_cancel_left]
  · rw [if_neg (by omega), if_neg e]
theorem getD_setW {L : List Int} {f i v : Int} {a b : Nat} (hl : L.length = 8 * 16) (ha : a < 16) (hb : b < 8) :
    (setW 16 L f i v).getD (a * 8 + b) 0 = if hasW 16 f i = true ∧ f = a ∧ i = b then v else L.getD (a * 8 + b) 0 := by
  unfold setW
  by_cases hw : hasW 16 f i = true
  · rw [if_pos hw]
    have hw' := hw
    simp only [hasW, decide_eq_true_eq] at hw'
    simp only [List.getD_eq_getElem?_getD, List.getElem?_set]
    by_cases e : f = a ∧ i = b
    · rw [if_pos (by omega), if_pos (by omega), if_pos ⟨hw, e⟩]; rfl
    · rw [if_neg (by omega), if_neg (fun h => e h.2)]
  · rw [if_neg hw, if_neg (fun h => hw h.1)]

set_option maxRecDepth 100000 in
set_option maxHeartbeats 4000000 in
theorem FrameWords_walk (A : Option Addr) (n c : Nat) (f i : Int) (w : World) (hl : SlOp w A n) (hf : 0 ≤ f ∧ f ≤ 255) (hi : 0 ≤ i ∧ i ≤ 255) :
    Calls Try.prog 4 #[.slice A n c, .int .u8 f, .int .u8 i] w fun e w' => e = .returned (.bool true) ∧ Chg [] w w' := by
  obtain ⟨a, ha⟩ := Int.eq_ofNat_of_zero_le (show 0 ≤ f % 16 by omega)
  obtain ⟨b, hb⟩ := Int.eq_ofNat_of_zero_le (show 0 ≤ i % 8 by omega)
  have ha16 : a < 16 := by omega
  have hb8 : b < 8 := by omega
  have hn := hl.le
  have hwab : hasW 16 a b = true := by simp [hasW]; omega
  go_enter Try.func4, Try.ntmps4
  go_wp2_with fail
  refine (head_any _).mono ?_; rintro e w1 ⟨rfl, hc1⟩
  go_wp2_with fail
  refine (New_at 16 _ (by omega) (by omega)).mono ?_; rintro e w2 ⟨p, d, rfl, hc2, hm, hp, hd⟩
  have hl2 := (hl.chg hc1).chg hc2
  go_wp2_with fail
  refine (Great_any A n c _ hl2).mono ?_; rintro e w' ⟨⟨g, rfl⟩, rfl⟩
  cases g with
  | true =>
    go_wp2_with fail
    go_ret
    exact ⟨rfl, hc1.trans hc2 (by simp)⟩
  | false =>
    go_wp2_with fail
    clear ha hb hf hi
    go_loopw [11, 12] (fun x i w' => ∃ (k : Nat) (L : List Int), k ≤ n ∧ i = .int .i64 k ∧ x = .int .u64 (L.getD (a * 8 + b) 0) ∧ Chg [] w w' ∧ MemAt w' p d 16 L) (fun _ i _ => n - (intOf i).toNat)
    case atStart => exact ⟨0, _, by omega, rfl, by rw [zeros_getD], hc1.trans hc2 (by simp), hm⟩
    case round =>
      obtain ⟨k, L, hk, rfl, rfl, hc, hM⟩ := hrel
      have hpd : w.heap.size ≤ p ∧ w.heap.size ≤ d := by have := hc1.size; omega
      clear hm hl2 hc1 hc2 hp hd
      by_cases hlt : k < n
      · obtain ⟨ob, off, rfl, what, f, i, v, LA, LN, LC, xs, ho0⟩ := hl.get hlt
        have ho := ho0.chg hc (World.block_lt_of_cell? _ _ ho0.c0)
        have c0 := ho.c0; have c1 := ho.c1; have c2 := ho.c2; have c3 := ho.c3; have c4 := ho.c4
        by_cases h3 : what = 3
        · subst h3
          have hcA : Chg [] wr (wr.alloc (.cells #[.int .i64 3, .int .i64 f, .int .i64 i, .int .u64 v, .slice LA LN LC] 32)) := (Chg.refl _ _).alloc _
          have hA := Blk.new wr 32 #[.int .i64 3, .int .i64 f, .int .i64 i, .int .u64 v, .slice LA LN LC]
          have hdl := hM.ws.lt
          have hlen := hM.len
          have hMA := hM.chg hcA (by simp) (by simp)
          have hsA := ho.ls.chg hcA (by simp)
          have hln := ho.ln
          go_wp2_with fail
          refine (Fill_at p d 16 L f LA LN LC xs _ hMA hsA hln).mono ?_; rintro e w3 ⟨rfl, hcF, hM3⟩
          have hB3 := hcF.blk hA (by simp; omega)
          have d1 := hB3.cell 1; have d4 := hB3.cell 4
          simp at d1 d4
          have hcw : Chg [] w w3 := (hc.trans hcA (by simp)).trans hcF (by intro q hq hm; simp at hm; omega)
          have hs3 : SlU w3 LA LN xs := ho0.ls.chg hcw (by simp)
          clear c0 c1 c2 c3 c4 ho ho0 hcF hA hB3 hMA hsA hcA hM
          by_cases hB : fillB 16 f LN = true
          · have hB' := hB
            simp only [fillB, hasF, Bool.and_eq_true, decide_eq_true_eq] at hB'
            obtain ⟨hff, rfl⟩ := hB'
            obtain ⟨f, rfl⟩ := Int.eq_ofNat_of_zero_le hff.1
            have hxl := hs3.len
            have hfill : fillW 16 L f xs = setAll L (f * 8) xs := by simp [fillW, hxl, hB]
            rw [hfill] at hM3
            have hx := getD_setAll (f := f) hlen hxl (by omega) ha16 hb8
            have hg := getW_at (L := setAll L (f * 8) xs) ha16 hb8
            have HXL := Lib.hid hxl; have HL := Lib.hid hlen; clear hxl hlen hfill
            by_cases hfa : f = a
            · rw [if_pos hfa] at hx
              rw [hx] at hg
              obtain ⟨g, o, rfl, hgl, hr⟩ := hs3.get hb8
              have h1 : ((f : Int) == a) = true := by simp [hfa]
              clear hfa
              generalize xs.getD b 0 = x at *
              have HX := Lib.hid hx; clear hx
              go_wp2_with fail
              refine (Get_at p d 16 _ a b _ hM3).mono ?_; rintro e w' ⟨rfl, rfl⟩
              go_wp2_with fail
              go_roundw
              case rel => exact ⟨k + 1, _, by omega, by go_num, by rw [HX.out], hcw, hM3⟩
              case measure => simp [intOf]; omega
            · rw [if_neg hfa] at hx
              rw [hx] at hg
              have h1 : ((f : Int) == a) = false := by simp; omega
              clear hfa
              generalize L.getD (a * 8 + b) 0 = x at *
              have HX := Lib.hid hx; clear hx
              go_wp2_with fail
              refine (Get_at p d 16 _ a b _ hM3).mono ?_; rintro e w' ⟨rfl, rfl⟩
              go_wp2_with fail
              go_roundw
              case rel => exact ⟨k + 1, _, by omega, by go_num, by rw [HX.out], hcw, hM3⟩
              case measure => simp [intOf]; omega
          · have hB' : fillB 16 f LN = false := by simpa using hB
            have hfill : fillW 16 L f xs = L := by simp [fillW, hs3.len, hB']
            rw [hfill] at hM3
            have hg := getW_at (L := L) ha16 hb8
            have HL := Lib.hid hlen; clear hlen hfill
            generalize hx : L.getD (a * 8 + b) 0 = x at hg ⊢
            have HX := Lib.hid hx; clear hx
            go_wp2_with fail
            refine (Get_at p d 16 _ a b _ hM3).mono ?_; rintro e w' ⟨rfl, rfl⟩
            go_wp2_with fail
            go_roundw
            case rel => exact ⟨k + 1, _, by omega, by go_num, by rw [HX.out], hcw, hM3⟩
            case measure => simp [intOf]; omega
        · have h3b : (what == 3) = false := by simp [h3]
          clear h3
          have hcA : Chg [] wr (wr.alloc (.cells #[.int .i64 what, .int .i64 f, .int .i64 i, .int .u64 v, .slice LA LN LC] 32)) := (Chg.refl _ _).alloc _
          have hA := Blk.new wr 32 #[.int .i64 what, .int .i64 f, .int .i64 i, .int .u64 v, .slice LA LN LC]
          have hdl := hM.ws.lt
          have hlen := hM.len
          have hMA := hM.chg hcA (by simp) (by simp)
          go_wp2_with fail
          refine (Set_at p d 16 L f i v _ hMA).mono ?_; rintro e w3 ⟨rfl, hcF, hM3⟩
          have hB3 := hcF.blk hA (by simp; omega)
          have d1 := hB3.cell 1; have d2 := hB3.cell 2; have d3 := hB3.cell 3
          simp at d1 d2 d3
          have hcw : Chg [] w w3 := (hc.trans hcA (by simp)).trans hcF (by intro q hq hm; simp at hm; omega)
          have hx := getD_setW (L := L) (f := f) (i := i) (v := v) hlen ha16 hb8
          have hg := getW_at (L := setW 16 L f i v) ha16 hb8
          clear c0 c1 c2 c3 c4 ho ho0 hcF hA hB3 hMA hcA hM hlen
          by_cases hall : hasW 16 f i = true ∧ f = a ∧ i = b
          · rw [if_pos hall] at hx
            rw [hx] at hg
            obtain ⟨hW, hfa, hib⟩ := hall
            have h1 : (f == (a : Int)) = true := by simp [hfa]
            have h2 : (i == (b : Int)) = true := by simp [hib]
            clear hfa hib
            have HX := Lib.hid hx; clear hx
            go_wp2_with fail
            refine (Get_at p d 16 _ a b _ hM3).mono ?_; rintro e w' ⟨rfl, rfl⟩
            go_wp2_with fail
            go_roundw
            case rel => exact ⟨k + 1, _, by omega, by go_num, by rw [HX.out], hcw, hM3⟩
            case measure => simp [intOf]; omega
          · rw [if_neg hall] at hx
            rw [hx] at hg
            generalize L.getD (a * 8 + b) 0 = x at *
            by_cases hW : hasW 16 f i = true
            · by_cases hfa : f = a
              · have h1 : (f == (a : Int)) = true := by simp [hfa]
                have h2 : (i == (b : Int)) = false := by simp; intro e; exact hall ⟨hW, hfa, e⟩
                clear hfa hall
                have HX := Lib.hid hx; clear hx
                go_wp2_with fail
                refine (Get_at p d 16 _ a b _ hM3).mono ?_; rintro e w' ⟨rfl, rfl⟩
                go_wp2_with fail
                go_roundw
                case rel => exact ⟨k + 1, _, by omega, by go_num, by rw [HX.out], hcw, hM3⟩
                case measure => simp [intOf]; omega
              · have h1 : (f == (a : Int)) = false := by simp [hfa]
                clear hfa hall
                have HX := Lib.hid hx; clear hx
                go_wp2_with fail
                refine (Get_at p d 16 _ a b _ hM3).mono ?_; rintro e w' ⟨rfl, rfl⟩
                go_wp2_with fail
                go_roundw
                case rel => exact ⟨k + 1, _, by omega, by go_num, by rw [HX.out], hcw, hM3⟩
                case measure => simp [intOf]; omega
            · have hW' : hasW 16 f i = false := by simpa using hW
              clear hW hall
              have HX := Lib.hid hx; clear hx
              go_wp2_with fail
              refine (Get_at p d 16 _ a b _ hM3).mono ?_; rintro e w' ⟨rfl, rfl⟩
              go_wp2_with fail
              go_roundw
              case rel => exact ⟨k + 1, _, by omega, by go_num, by rw [HX.out], hcw, hM3⟩
              case measure => simp [intOf]; omega
      · obtain rfl : k = n := by omega
        go_wp2_with fail
        go_ret
        exact ⟨rfl, hc⟩

end Go.Proofs.Yteljchmadapnfaa
