/-
  FrameOwn: the walk.
-/
import Derived.Test.YteljchmadapnfaaHead
namespace Go.Proofs.Yteljchmadapnfaa
open Go.RowKit

theorem SlU.set {w : World} {g o n : Nat} {xs : List Int} (h : SlU w (some ⟨g, o, none⟩) n xs) (i : Nat) (v : Int) (hi : i < n) : SlU (w.setCell ⟨g, o + i, none⟩ (.int .u64 v)) (some ⟨g, o, none⟩) n (xs.set i v) :=
  ⟨by simp [h.len], fun h0 => by
    obtain ⟨b, off, e, hb, hr⟩ := h.at_ h0
    injection e with e; injection e with e1 e2; subst e1; subst e2
    refine ⟨g, o, rfl, by simpa using hb, fun j u hu => ?_⟩
    rw [List.getElem?_set] at hu
    have hl := h.len
    have hri := hr i _ (List.getElem?_eq_getElem (by omega))
    by_cases e : i = j
    · subst e
      rw [if_pos rfl, if_pos (by omega)] at hu
      injection hu with hu
      rw [World.cell?_setCell_same _ _ _ hri, hu]
    · rw [if_neg e] at hu
      rw [World.cell?_setCell_other _ _ _ _ (fun h => e (by injection h; omega))]
      exact hr j u hu⟩

theorem frameOf_setAll {L xs : List Int} {n f : Nat} (hl : L.length = 8 * n) (hx : xs.length = 8) (hf : f < n) : frameOf (setAll L (f * 8) xs) f = xs := by
  apply List.ext_getElem?
  intro j
  by_cases hj : j < 8
  · rw [frameOf_get j hj, setAll_get _ _ _ _ (by omega), if_pos (by omega), Nat.add_sub_cancel_left]
  · rw [List.getElem?_eq_none (by rw [frameOf_len (by rw [setAll_len]; exact hl) hf]; omega), List.getElem?_eq_none (by omega)]

set_option maxRecDepth 100000 in
set_option maxHeartbeats 2000000 in
theorem FrameOwn_walk (A : Option Addr) (n c : Nat) (xs : List Int) (f : Int) (w : World) (hn : n ≤ 9223372036854775807) (hnil : A = none → n = 0 ∧ c = 0) (hs : SlU w A n xs) (hf : 0 ≤ f ∧ f ≤ 255) :
    Calls Try.prog 6 #[.slice A n c, .int .u8 f] w fun e w' => e = .returned (.bool true) ∧ Chg [] w w' := by
  obtain ⟨a, ha⟩ := Int.eq_ofNat_of_zero_le (show 0 ≤ f % 16 by omega)
  have ha16 : a < 16 := by omega
  obtain ⟨i0, hi0, hz0, hz1, hz2⟩ := info_parts u64_info
  by_cases h8 : n = 8
  · subst h8
    have hB : fillB 16 a 8 = true := by simp [fillB, hasF]; omega
    go_enter Try.func6, Try.ntmps6
    go_wp2_with fail
    refine (head_any _).mono ?_; rintro e w1 ⟨rfl, hc1⟩
    go_wp2_with fail
    refine (New_at 16 _ (by omega) (by omega)).mono ?_; rintro e w2 ⟨p, d, rfl, hc2, hm, hp, hd⟩
    have hc := hc1.trans hc2 (by simp)
    have hpd : w.heap.size ≤ p ∧ w.heap.size ≤ d := by have := hc1.size; omega
    have hsrc := ((hs.chg hc (by simp)).chg ((Chg.refl [] w2).alloc (Obj.cells #[] 29)) (by simp)).src hnil
    have hown := World.ownsRow_lit (base := w2.heap.size) (e := 29) (size := 1) w2 #[] 0 (Nat.le_refl _) (by simp [maxLen]) rfl
    clear hp hd hc1 hc2
    go_wp2_with (at_builtin
                 refine wpList_append_src rfl (.tmp 29) (.tmp 30) 30 rfl w2.heap.size 29 i0 _ 1 8 Try.underlying30 hi0 hz0 hz1 hz2 rfl (by omega) (.slice (some ⟨w2.heap.size, 0, none⟩) 0 0) 0 [] rfl hown _ 8 _ _ rfl hsrc (by simp [maxLen]) (by omega) (by simp) ?_
                 intro v1 w3 hown1 hg1 hat1)
    have hform := own_blk hown1 (by omega)
    obtain ⟨g, c3, cur, rfl, hg, hbg, _⟩ := hform
    simp only [List.nil_append] at hown1
    have hc3 : Chg [] w2 w3 := ((Chg.refl [] w2).alloc _).trans hg1 (by intro i hi hm; simp [Value.ownBlock] at hm; omega)
    have hs3 := own_slu hown1
    have hm3 := hm.chg hc3 (by simp) (by simp)
    have hpd2 : p < w2.heap.size ∧ d < w2.heap.size := ⟨hm.st.lt, hm.ws.lt⟩
    have hlen := hm.len
    have hxl := hs.len
    clear hown hown1 hg1 hat1 hsrc hm
    go_wp2_with fail
    refine (Fill_at p d 16 _ a _ 8 c3 xs _ hm3 hs3 (by omega)).mono ?_; rintro e w4 ⟨rfl, hc4, hm4⟩
    have hfill : fillW 16 (zeros (8 * 16)) a xs = setAll (zeros (8 * 16)) (a * 8) xs := by simp [fillW, hxl, hB]
    rw [hfill] at hm4
    have hfo := frameOf_setAll (f := a) hlen hxl ha16
    have hb4 := hc4.blk hbg (by simp; omega)
    have hs4 := hs3.chg hc4 (by intro b o e; injection e with e; injection e with e; simp; omega)
    have hc04 : Chg [] w w4 := (hc.trans hc3 (by simp)).trans hc4 (by intro i hi hm; simp at hm; omega)
    have HF := Lib.hid hfo
    clear hfill hfo hs3 hbg hm3 hlen hc hc3 hc4
    generalize setAll (zeros (8 * 16)) (a * 8) xs = L at *
    go_wp2_with fail
    go_loopw [9] (fun i w' => ∃ (k : Nat) (cs : Array Value) (ys : List Int), k ≤ 8 ∧ i = .int .i64 k ∧ Chg [] w w' ∧ MemAt w' p d 16 L ∧ Blk w' g 29 cs ∧ SlU w' (some ⟨g, 0, none⟩) 8 ys) (fun i _ => 8 - (intOf i).toNat)
    case atStart => exact ⟨0, _, _, by omega, rfl, hc04, hm4, hb4, hs4⟩
    case round =>
      obtain ⟨k, cs, ys, hk, rfl, hck, hmk, hbk, hsk⟩ := hrel
      clear hc04 hm4 hb4 hs4
      by_cases hlt : k < 8
      · obtain ⟨g', o', hgo, _, hr⟩ := hsk.get hlt
        injection hgo with hgo; injection hgo with e1 e2; subst e1; subst e2
        have hfr := hbk.frozen k
        rw [Nat.zero_add] at hr
        have hset := hsk.set k
        simp only [Nat.zero_add] at hset
        have HS := Lib.hid hset; clear hset
        generalize ys.getD k 0 = y at *
        go_wp2_with fail
        go_roundw
        case rel => exact ⟨k + 1, _, _, by omega, by go_num, hck.setCell (by simp; omega) _, ⟨hmk.st.far (by simp; omega) _, hmk.ws.far (by simp; omega) _, hmk.len, hmk.pos, hmk.le⟩, hbk.set_ k _, HS.out _ hlt⟩
        case measure => simp [intOf]; omega
      · obtain rfl : k = 8 := by omega
        clear hk hlt hbk hsk
        have hsx := hs.chg hck (by simp)
        have hpd3 : p < wr.heap.size ∧ d < wr.heap.size := ⟨hmk.st.lt, hmk.ws.lt⟩
        have hwr := hck.size
        have hxx : eqL xs xs = true := by simp [eqL]
        go_wp2_with fail
        refine (Frame_yes p d 16 L a _ hmk ha16).mono ?_; rintro e w5 ⟨rfl, hc5, _, hb5⟩
        rw [HF.out] at hb5
        have hc05 := hck.trans hc5 (by simp)
        have hm5 := hmk.chg hc5 (by simp) (by simp)
        have hs5 := SlU.of_blk hb5 hxl
        have hsx5 := hsx.chg hc5 (by simp)
        clear hck hc5 hmk hsx
        generalize hg2 : wr.heap.size = g2 at *
        clear hg2
        go_wp2_with fail
        refine (SameWords_any _ A 8 8 8 c xs xs _ hs5 hsx5 (by omega) (by omega)).mono ?_; rintro e w' ⟨rfl, q, rfl⟩
        have hb6 := hb5.drewN q; have hm6 := hm5.chg ((Chg.refl [] w5).drewN q) (by simp) (by simp); have hs6 := hs5.chg ((Chg.refl [] w5).drewN q) (by simp)
        have hc06 := hc05.drewN q
        clear hb5 hm5 hs5 hsx5 hc05
        go_wp2_with fail
        go_loopw [11] (fun i w' => ∃ (k : Nat) (cs : Array Value) (ys : List Int), k ≤ 8 ∧ i = .int .i64 k ∧ Chg [] w w' ∧ MemAt w' p d 16 L ∧ Blk w' g2 29 cs ∧ SlU w' (some ⟨g2, 0, none⟩) 8 ys) (fun i _ => 8 - (intOf i).toNat)
        case atStart => exact ⟨0, _, _, by omega, rfl, hc06, hm6, hb6, hs6⟩
        case round =>
          obtain ⟨k, cs, ys, hk, rfl, hck, hmk, hbk, hsk⟩ := hrel
          clear hc06 hm6 hb6 hs6
          by_cases hlt : k < 8
          · obtain ⟨g', o', hgo, _, hr⟩ := hsk.get hlt
            injection hgo with hgo; injection hgo with e1 e2; subst e1; subst e2
            have hfr := hbk.frozen k
            rw [Nat.zero_add] at hr
            have hset := hsk.set k
            simp only [Nat.zero_add] at hset
            have HS := Lib.hid hset; clear hset
            generalize ys.getD k 0 = y at *
            go_wp2_with fail
            go_roundw
            case rel => exact ⟨k + 1, _, _, by omega, by go_num, hck.setCell (by simp; omega) _, ⟨hmk.st.far (by simp; omega) _, hmk.ws.far (by simp; omega) _, hmk.len, hmk.pos, hmk.le⟩, hbk.set_ k _, HS.out _ hlt⟩
            case measure => simp [intOf]; omega
          · obtain rfl : k = 8 := by omega
            clear hk hlt hbk hsk
            have hsx := hs.chg hck (by simp)
            go_wp2_with fail
            refine (Frame_yes p d 16 L a _ hmk ha16).mono ?_; rintro e w7 ⟨rfl, hc7, _, hb7⟩
            rw [HF.out] at hb7
            have hs7 := SlU.of_blk hb7 hxl
            have hsx7 := hsx.chg hc7 (by simp)
            go_wp2_with fail
            refine (SameWords_any _ A 8 8 8 c xs xs _ hs7 hsx7 (by omega) (by omega)).mono ?_; rintro e w' ⟨rfl, q2, rfl⟩
            go_wp2_with fail
            go_ret
            exact ⟨rfl, (hck.trans hc7 (by simp)).drewN q2⟩
  · have h1 : ((n : Int) != 8) = true := by simp; omega
    clear h8
    go_enter Try.func6, Try.ntmps6
    go_wp2_with fail
    refine (head_any _).mono ?_; rintro e w1 ⟨rfl, hc1⟩
    go_wp2_with fail
    refine (New_at 16 _ (by omega) (by omega)).mono ?_; rintro e w2 ⟨p, d, rfl, hc2, hm, hp, hd⟩
    go_wp2_with fail
    go_ret
    exact ⟨rfl, hc1.trans hc2 (by simp)⟩

end Go.Proofs.Yteljchmadapnfaa
