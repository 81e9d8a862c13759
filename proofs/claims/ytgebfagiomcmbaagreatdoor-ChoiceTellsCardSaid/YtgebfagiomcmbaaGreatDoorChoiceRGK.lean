/-
  The contract of the document's Get.
-/
import Derived.Test.YtgebfagiomcmbaaGreatDoorChoiceRK
namespace Go.Proofs.YtgebfagiomcmbaaGreatDoor
open Go.RowKit Go.Shelf

set_option maxRecDepth 100000 in
set_option maxHeartbeats 4000000 in
theorem RChGet_any (A : Option Addr) (nn c : Nat) (b : List Int) (w : World) (hs : SlG (numE .u8) w A nn b) (hb : nn ≤ 1000000) (hwf : ∀ x ∈ b, 0 ≤ x ∧ x < 256) :
    Calls Tryz.prog 18 #[.slice A nn c] w fun e w' => ((getC b = none ∧ e = .returned (.tuple #[.slice none 0 0, .int .i64 12])) ∨ ∃ A' c' L, getC b = some L ∧ e = .returned (.tuple #[.slice A' L.length c', .int .i64 0]) ∧ LG chE w w' 56 (.slice A' L.length c') L) ∧ Chg [] w w' := by
  have hll := hs.len
  have hmod : (nn : Int).tmod 2 = nn % 2 := Int.tmod_eq_emod_of_nonneg (by omega)
  cases hodd : ((nn : Int) % 2 != 0) with
  | true =>
    have hno := getC_odd b (by have := hodd; simp at this; omega)
    go_enter Tryz.func18, Tryz.ntmps18
    go_wp2_with fail
    go_ret2
    exact ⟨.inl ⟨hno, rfl⟩, Chg.refl _ _⟩
  | false =>
    obtain ⟨nk, hnk⟩ : ∃ nk, nn = 2 * nk := ⟨nn / 2, by have := hodd; simp at this; omega⟩
    go_enter Tryz.func18, Tryz.ntmps18
    go_wp2_with fail
    replace hll := Lib.hid hll
    replace hnk := Lib.hid hnk
    go_loopg [4, 5] nk (fun gg s4 s5 wr => ∃ (k i : Nat) (A' : Option Addr) (c' : Nat) (dn : List Ch), k ≤ nk ∧ nk - k ≤ gg ∧ s4 = .slice A' k c' ∧ s5 = .int .i64 (i : Nat) ∧ Aside (i = 2 * k) ∧ Aside (LG chE w wr 56 (.slice A' k c') dn) ∧ Aside (dn.length = k) ∧ Aside (GetAt b k dn))
    case atStart => exact ⟨0, 0, none, 0, [], by omega, by omega, rfl, rfl, (rfl : 0 = 2 * 0), LG.none_ w _, rfl, GetAt.zero b⟩
    case round =>
      obtain ⟨k, i, A', c', dn, hk, hg, rfl, rfl, hi, lg, hdl, hat⟩ := hrel
      replace lg := lg.out
      by_cases hlt : i < nn
      · have hsr := hs.new lg.1
        obtain ⟨j, hj⟩ : ∃ j, j = i + 1 := ⟨_, rfl⟩
        have hlj : j < nn := by have := hi.out; have := hnk.out; omega
        have hkn : k < nk := by have := hi.out; have := hnk.out; omega
        have hwj : IntKind.i64.wrap ((i : Int) + 1) = (j : Int) := by rw [IntKind.wrap_i64]; omega
        obtain ⟨bl, off, x0, rfl, hbl, hx, e0⟩ := SlN.get hsr (i := i) hlt
        obtain ⟨bl', off', x1, e', _, hy, e1⟩ := SlN.get hsr (i := j) hlj
        injection e' with e'; injection e' with e2 e3; subst e2; subst e3
        have ha := hwf x0 (List.mem_of_getElem? hx)
        have hb' := hwf x1 (List.mem_of_getElem? hy)
        have hstep := hat.out.step (x := x0) (y := x1) (by rw [← hi.out]; exact hx) (by rw [← hi.out, ← hj]; exact hy)
        replace hj := Lib.hid hj
        have hU : unC x0 x1 = ⟨decide (128 ≤ x0), 256 * (x0 % 128) + x1⟩ := rfl
        have ht1 : Int.tmod x0 128 = x0 % 128 := Int.tmod_eq_emod_of_nonneg ha.1
        have hv : 0 ≤ x0 % 128 ∧ x0 % 128 < 128 := by omega
        generalize x0 % 128 = xm at *
        have hw2 : IntKind.i64.wrap (256 * xm) = 256 * xm := by rw [IntKind.wrap_i64]; omega
        have hw3 : IntKind.i64.wrap (256 * xm + x1) = 256 * xm + x1 := by rw [IntKind.wrap_i64]; omega
        clear hx hy hat
        go_wp2_with fail
        go_region
        have B := ((Chg.refl [] (wr.alloc (.cells #[.bool (decide (128 ≤ x0)), .int .i64 (256 * xm + x1)] 56))).drew).blk (Blk.new wr 56 #[.bool (decide (128 ≤ x0)), .int .i64 (256 * xm + x1)]) (by simp)
        have lg3 := lg.new ((Chg.refl [] wr).alloc (.cells #[.bool (decide (128 ≤ x0)), .int .i64 (256 * xm + x1)] 56)).drew
        rw [hU] at hstep
        clear hU hw2 hw3 ht1 hv ha hb' hwj lg hsr e0 e1
        generalize decide (128 ≤ x0) = uf at *
        generalize 256 * xm + x1 = up at *
        generalize (wr.alloc (.cells #[.bool uf, .int .i64 up] 56)).drew = w3 at *
        generalize wr.heap.size = pb at *
        obtain ⟨d0, d1⟩ := blk2 B
        have hR := fun w9 => RChRight_any uf up w9
        cases hok : Ch.ok ⟨uf, up⟩ with
        | false =>
          rw [hok] at hR
          rw [hok] at hstep
          replace hstep : Hid (getC b = none) := Lib.hid (by simpa using hstep)
          clear hok
          go_wp2_with fail
          refine (hR _).mono ?_; rintro e w4 ⟨rfl, k4⟩
          go_wp2_with fail
          go_ret2
          exact ⟨.inl ⟨hstep.out, rfl⟩, (lg3.1).trans k4 (by simp)⟩
        | true =>
          rw [hok] at hR
          rw [hok, if_pos rfl] at hstep
          replace hstep := Lib.hid hstep
          clear hok
          go_wp2_with fail
          refine (hR _).mono ?_; rintro e w4 ⟨rfl, k4⟩
          have B4 := k4.blk B (by simp)
          have lg4 := lg3.new k4
          clear d0 d1 B lg3 hR
          obtain ⟨d0, d1⟩ := blk2 B4
          go_wp2_with (at_builtin; refine wpList_append_G rfl _ _ 24 rfl 56 (.agg #[.bool false, .int .i64 0]) 16 Tryz.underlying24 (by kernel_rfl) (by kernel_rfl) (.slice A' k c') dn rfl (lg4.new ((Chg.refl [] w4).alloc _)).2.1 (some ⟨w4.heap.size, 0, none⟩) 1 1 [⟨uf, up⟩] rfl (OwnG.src (E := chE) (OwnG.lit (L := [Ch.mk uf up]) (Blk.new w4 56 #[.bool uf, .int .i64 up]) (by simp))) rfl (by have := hdl.out; have := hnk.out; omega) ?_; intro v5 w5 ho5 hc5 hv5; obtain ⟨A5, c5, rfl, _, _⟩ := ho5.form)
          have lg5 := (lg4.new ((Chg.refl [] w4).alloc _)).app ho5 hc5 hv5
          have hlen5 : (dn ++ [Ch.mk uf up]).length = k + 1 := by simp [hdl.out]
          go_roundg (nk - (k + 1))
          case measure => omega
          case rel => exact ⟨k + 1, i + 2, A5, c5, dn ++ [Ch.mk uf up], by omega, by omega, by rw [show dn.length = k from hdl.out], by go_num, (by show i + 2 = 2 * (k + 1); have := hi.out; omega), lg5.len_ hlen5, hlen5, hstep.out⟩
      · have hkk : k = nk := by have := hi.out; have := hnk.out; omega
        have hG := hat.out.all (by rw [hll.out, hnk.out, hkk])
        go_wp2_with fail
        go_ret2
        have hdl := hdl.out
        subst hdl
        exact ⟨.inr ⟨A', c', dn, hG, rfl, lg⟩, lg.1⟩

end Go.Proofs.YtgebfagiomcmbaaGreatDoor
