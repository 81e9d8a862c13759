/-
  The contract of choice.Get.
-/
import Derived.Test.YtgebfagiomcmbaaGreatDoorChoiceCK
namespace Go.Proofs.YtgebfagiomcmbaaGreatDoor
open Go.RowKit Go.Shelf

theorem blk2f {w : World} {g : Nat} {t : TypeId} {x0 x1 : Value} (h : Blk w g t #[x0, x1]) : w.cell? ⟨g, 0, none⟩ = some x0 ∧ w.cell? ⟨g, 1, none⟩ = some x1 ∧ w.frozen? ⟨g, 0, none⟩ = false ∧ w.frozen? ⟨g, 1, none⟩ = false := ⟨h.cell 0, h.cell 1, h.frozen 0, h.frozen 1⟩
/-- where Get stands: the choices that it has read, those that are left -/
theorem getC_odd : ∀ (b : List Int), b.length % 2 = 1 → getC b = none
  | [], h => by simp at h
  | [_], _ => rfl
  | x :: y :: l, h => by
    rw [getC, getC_odd l (by simp at h; omega)]
    split <;> rfl
def GetAt (b : List Int) (k : Nat) (d : List Ch) : Prop := getC b = (getC (b.drop (2 * k))).map (d ++ ·)
theorem GetAt.zero (b : List Int) : GetAt b 0 [] := by unfold GetAt; cases h : getC b <;> simp [h]
theorem GetAt.step {b : List Int} {k : Nat} {d : List Ch} {x y : Int} (h : GetAt b k d) (hx : b[2 * k]? = some x) (hy : b[2 * k + 1]? = some y) : if (unC x y).ok = true then GetAt b (k + 1) (d ++ [unC x y]) else getC b = none := by
  unfold GetAt at *
  have hk := (List.getElem?_eq_some_iff.1 hx)
  have hk2 := (List.getElem?_eq_some_iff.1 hy)
  obtain ⟨hk, ex⟩ := hk
  obtain ⟨hk2, ey⟩ := hk2
  have e : b.drop (2 * k) = x :: y :: b.drop (2 * (k + 1)) := by
    rw [List.drop_eq_getElem_cons hk, List.drop_eq_getElem_cons hk2, ex, ey]; rfl
  rw [e, getC] at h
  split
  · rename_i ho
    rw [if_pos ho] at h
    rw [h]
    cases getC (b.drop (2 * (k + 1))) <;> simp
  · rename_i ho
    rw [if_neg ho] at h
    exact h
theorem GetAt.all {b : List Int} {k : Nat} {d : List Ch} (h : GetAt b k d) (hk : b.length = 2 * k) : getC b = some d := by
  unfold GetAt at h
  rw [List.drop_of_length_le (by omega)] at h
  rw [h]; simp [getC]

set_option maxRecDepth 100000 in
set_option maxHeartbeats 1000000 in
theorem ChGet_any (A : Option Addr) (nn c : Nat) (b : List Int) (w : World) (hs : SlG (numE .u8) w A nn b) (hb : nn ≤ 1000000) (hwf : ∀ x ∈ b, 0 ≤ x ∧ x < 256) :
    Calls Tryz.prog 17 #[.slice A nn c] w fun e w' => ((getC b = none ∧ e = .returned (.tuple #[.slice none 0 0, .int .i64 12])) ∨ ∃ A' c' L, getC b = some L ∧ e = .returned (.tuple #[.slice A' L.length c', .int .i64 0]) ∧ LG chE w w' 56 (.slice A' L.length c') L) ∧ Chg [] w w' := by
  have hll := hs.len
  have hmod : (nn : Int).tmod 2 = nn % 2 := Int.tmod_eq_emod_of_nonneg (by omega)
  cases hodd : ((nn : Int) % 2 != 0) with
  | true =>
    have hno := getC_odd b (by have := hodd; simp at this; omega)
    go_enter Tryz.func17, Tryz.ntmps17
    go_wp2_with fail
    go_ret2
    exact ⟨.inl ⟨hno, rfl⟩, Chg.refl _ _⟩
  | false =>
    obtain ⟨nk, hnk⟩ : ∃ nk, nn = 2 * nk := ⟨nn / 2, by have := hodd; simp at this; omega⟩
    go_enter Tryz.func17, Tryz.ntmps17
    go_wp2_with fail
    replace hll := Lib.hid hll
    replace hnk := Lib.hid hnk
    go_loopg [4, 5] nk (fun gg s4 s5 wr => ∃ (k i : Nat) (A' : Option Addr) (c' : Nat) (dn : List Ch), k ≤ nk ∧ nk - k ≤ gg ∧ s4 = .slice A' k c' ∧ s5 = .int .i64 (i : Nat) ∧ Aside (i = 2 * k) ∧ Aside (LG chE w wr 56 (.slice A' k c') dn) ∧ Aside (dn.length = k) ∧ Aside (GetAt b k dn))
    case atStart => exact ⟨0, 0, none, 0, [], by omega, by omega, rfl, rfl, (rfl : 0 = 2 * 0), LG.none_ w _, rfl, GetAt.zero b⟩
    case round =>
      obtain ⟨k, i, A', c', dn, hk, hg, rfl, rfl, hi, lg, hdl, hat⟩ := hrel
      have lg := lg.out
      by_cases hlt : i < nn
      · have hsr := hs.new lg.1
        obtain ⟨j, hj⟩ : ∃ j, j = i + 1 := ⟨_, rfl⟩
        have hlj : j < nn := by have := hi.out; have := hnk.out; omega
        have hkn : k < nk := by have := hi.out; have := hnk.out; omega
        have hwj : IntKind.i64.wrap ((i : Int) + 1) = (j : Int) := by rw [IntKind.wrap_i64]; omega
        obtain ⟨bl, off, x0, rfl, hbl, hx, e0⟩ := SlN.get hsr (i := i) hlt
        obtain ⟨bl', off', x1, e', _, hy, e1⟩ := SlN.get hsr (i := j) hlj
        injection e' with e'; injection e' with e2 e3; subst e2; subst e3
        have ha := hwf x0 (List.mem_of_getElem? hx)
        have hb' := hwf x1 (List.mem_of_getElem? hy)
        have hRd := fun w9 => ChRead_any x0 x1 w9 ha hb'
        simp only [Ch.ar] at hRd
        have hstep := hat.out.step (x := x0) (y := x1) (by rw [← hi.out]; exact hx) (by rw [← hi.out, ← hj]; exact hy)
        replace hj := Lib.hid hj
        have hend := fun (h : getC b = none) => h
        have hcell : ∀ w', Chg [] wr w' → w'.cell? ⟨bl, off + i, none⟩ = some (.int .u8 x0) ∧ w'.cell? ⟨bl, off + j, none⟩ = some (.int .u8 x1) := fun w' hc => ⟨(hc.cell hbl (by simp)).trans e0, (hc.cell hbl (by simp)).trans e1⟩
        clear hx hy ha hb' hat e0 e1 hsr
        go_wp2_with fail
        refine wp_region_noPanic ?_
        refine wp_region_held_drew (S := (fun w' => Chg [] wr w')) (by kernel_rfl) ?_ (fun hHeld => ?_)
        · exact (Chg.refl [] wr).drew
        (refine take_on 0 (some 17) (v := ?_) rfl rfl (by kernel_rfl) (by kernel_rfl) (by kernel_rfl) (fun _ _ _ h => h) (by rfl) (by assumption) ?_ ?_; rotate_left; · (intro w hSw; (try dsimp only at hSw); go_simp; (try with_reducible rfl)))
        (try simp only [Act.put, List.setIfInBounds_toArray, List.set_cons_zero, List.set_cons_succ])
        (refine take_on 1 (some 18) (v := ?_) rfl rfl (by kernel_rfl) (by kernel_rfl) (by kernel_rfl) (fun _ _ _ h => h) (by rfl) (by assumption) ?_ ?_; rotate_left; · (intro w hSw; (try dsimp only at hSw); go_simp; (try with_reducible rfl)))
        (try simp only [Act.put, List.setIfInBounds_toArray, List.set_cons_zero, List.set_cons_succ])
        (refine take_on 2 (some 19) (v := ?_) rfl rfl (by kernel_rfl) (by kernel_rfl) (by kernel_rfl) (fun _ _ _ h => h) (by rfl) (by assumption) ?_ ?_; rotate_left; · (intro w hSw; (try dsimp only at hSw); go_simp; (try with_reducible rfl)))
        (try simp only [Act.put, List.setIfInBounds_toArray, List.set_cons_zero, List.set_cons_succ])
        (refine take_on 3 (some 20) (v := ?_) rfl rfl (by kernel_rfl) (by kernel_rfl) (by kernel_rfl) (fun _ _ _ h => h) (by rfl) (by assumption) ?_ ?_; rotate_left; · (intro w hSw; (try dsimp only at hSw); obtain ⟨c0, c1⟩ := hcell _ hSw; go_simp; (try with_reducible rfl)))
        (try simp only [Act.put, List.setIfInBounds_toArray, List.set_cons_zero, List.set_cons_succ])
        (refine take_on 4 (some 21) (v := ?_) rfl rfl (by kernel_rfl) (by kernel_rfl) (by kernel_rfl) (fun _ _ _ h => h) (by rfl) (by assumption) ?_ ?_; rotate_left; · (intro w hSw; (try dsimp only at hSw); go_simp; (try with_reducible rfl)))
        (try simp only [Act.put, List.setIfInBounds_toArray, List.set_cons_zero, List.set_cons_succ])
        (refine take_on 5 (some 22) (v := ?_) rfl rfl (by kernel_rfl) (by kernel_rfl) (by kernel_rfl) (fun _ _ _ h => h) (by rfl) (by assumption) ?_ ?_; rotate_left; · (intro w hSw; (try dsimp only at hSw); go_simp; (try with_reducible rfl)))
        (try simp only [Act.put, List.setIfInBounds_toArray, List.set_cons_zero, List.set_cons_succ])
        (refine take_on 6 (some 23) (v := ?_) rfl rfl (by kernel_rfl) (by kernel_rfl) (by kernel_rfl) (fun _ _ _ h => h) (by rfl) (by assumption) ?_ ?_; rotate_left; · (intro w hSw; (try dsimp only at hSw); go_simp; (try with_reducible rfl)))
        (try simp only [Act.put, List.setIfInBounds_toArray, List.set_cons_zero, List.set_cons_succ])
        (refine take_on 7 (some 24) (v := ?_) rfl rfl (by kernel_rfl) (by kernel_rfl) (by kernel_rfl) (fun _ _ _ h => h) (by rfl) (by assumption) ?_ ?_; rotate_left; · (intro w hSw; (try dsimp only at hSw); go_simp; (try with_reducible rfl)))
        (try simp only [Act.put, List.setIfInBounds_toArray, List.set_cons_zero, List.set_cons_succ])
        (refine take_on 8 (some 25) (v := ?_) rfl rfl (by kernel_rfl) (by kernel_rfl) (by kernel_rfl) (fun _ _ _ h => h) (by rfl) (by assumption) ?_ ?_; rotate_left; · (intro w hSw; (try dsimp only at hSw); obtain ⟨c0, c1⟩ := hcell _ hSw; go_simp; (try with_reducible rfl)))
        (try simp only [Act.put, List.setIfInBounds_toArray, List.set_cons_zero, List.set_cons_succ])
        refine wpAnyH_ready (rs := [9, 10]) (by kernel_rfl) (by simp) ?_; refine AllReadyH.cons (o := _) rfl (fun K hK => ?_) (AllReadyH.cons (o := _) rfl (fun K hK => ?_) AllReadyH.nil)
        · go_simp
          (go_at_call 65; refine (hRd _).mono ?_; rintro e u1 ⟨rfl, y1⟩)
          refine hK.out _ _ (by (try dsimp only); exact hHeld.trans y1 (by simp)) (fun hHeld => ?_)
          clear hK K
          (try simp only [Act.put, List.setIfInBounds_toArray, List.set_cons_zero, List.set_cons_succ])
          refine wpAnyH_ready (rs := [10]) (by kernel_rfl) (by simp) ?_; refine AllReadyH.cons (o := _) rfl (fun K hK => ?_) AllReadyH.nil
          go_simp
          skip
          refine hK.out _ _ (by (try dsimp only); exact hHeld.alloc _) (fun hHeld => ?_)
          clear hK K
          (try simp only [Act.put, List.setIfInBounds_toArray, List.set_cons_zero, List.set_cons_succ])
          have hu2 : Chg [] wr (u1.alloc (.cells #[.bool false, .int .i64 0] 56)) := ((Chg.refl [] wr).drew.trans y1 (by simp)).alloc _
          have hp := Blk.new u1 56 #[.bool false, .int .i64 0]
          have hpl : wr.heap.size ≤ u1.heap.size := by simpa using y1.size
          clear y1
          generalize u1.alloc (.cells #[.bool false, .int .i64 0] 56) = u2 at *
          generalize u1.heap.size = pb at *
          obtain ⟨g0, g1, g2, g3⟩ := blk2f hp
          refine wpAnyH_ready (rs := [11]) (by kernel_rfl) (by simp) ?_; refine AllReadyH.cons (o := _) rfl (fun K hK => ?_) AllReadyH.nil
          go_simp
          skip
          refine hK.out _ _ (by (try dsimp only); exact chg2 (g := pb) (y0 := .bool (unC x0 x1).fill) (y1 := .int .i64 (unC x0 x1).page) hHeld (by intro h; omega)) (fun hHeld => ?_)
          clear hK K
          (try simp only [Act.put, List.setIfInBounds_toArray, List.set_cons_zero, List.set_cons_succ])
          refine wpAnyH_done (by kernel_rfl) ?_ _
          refine NoPanic.normal ?_
          have B := set2 (y0 := .bool (unC x0 x1).fill) (y1 := .int .i64 (unC x0 x1).page) hp
          have k3 : Chg [] wr _ := chg2 (y0 := .bool (unC x0 x1).fill) (y1 := .int .i64 (unC x0 x1).page) (g := pb) hu2 (by intro h; omega)
          have lg3 := lg.new k3
          rw [show #[Value.bool (unC x0 x1).fill, .int .i64 (unC x0 x1).page] = (unC x0 x1).ar from rfl] at B
          clear hHeld hp hu2 k3
          generalize (u2.setCell ⟨pb, 0, none⟩ (.bool (unC x0 x1).fill)).setCell ⟨pb, 1, none⟩ (.int .i64 (unC x0 x1).page) = w3 at *
          clear lg hRd hcell
          obtain ⟨d0, d1⟩ := blk2 B
          have hR := fun w9 => ChRight_any (unC x0 x1).fill (unC x0 x1).page w9
          rw [show Ch.mk (unC x0 x1).fill (unC x0 x1).page = unC x0 x1 from rfl] at hR
          generalize hU : unC x0 x1 = U at *
          obtain ⟨uf, up⟩ := U
          simp only [Ch.ar] at *
          cases hok : Ch.ok ⟨uf, up⟩ with
          | false =>
            rw [hok] at hR
            rw [hok] at hstep
            have hb2 := Lib.hid (hend (hstep.trans (by simp)))
            clear hok hstep hend hU
            go_wp2_with fail
            refine (hR _).mono ?_; rintro e w4 ⟨rfl, k4⟩
            go_wp2_with fail
            go_ret2
            rw [hb2.out]
            exact ⟨.inl ⟨rfl, rfl⟩, (lg3.1).trans k4 (by simp)⟩
          | true =>
            rw [hok] at hR
            rw [hok, if_pos rfl] at hstep
            replace hstep := Lib.hid hstep
            clear hok hend hU
            go_wp2_with fail
            refine (hR _).mono ?_; rintro e w4 ⟨rfl, k4⟩
            have B4 := k4.blk B (by simp)
            have lg4 := lg3.new k4
            clear d0 d1 B lg3 hR
            obtain ⟨d0, d1⟩ := blk2 B4
            go_wp2_with (at_builtin; refine wpList_append_G rfl _ _ 24 rfl 56 (.agg #[.bool false, .int .i64 0]) 16 Tryz.underlying24 (by kernel_rfl) (by kernel_rfl) (.slice A' k c') dn rfl (lg4.new ((Chg.refl [] w4).alloc _)).2.1 (some ⟨w4.heap.size, 0, none⟩) 1 1 [⟨uf, up⟩] rfl (OwnG.src (E := chE) (OwnG.lit (L := [Ch.mk uf up]) (Blk.new w4 56 #[.bool uf, .int .i64 up]) (by simp))) rfl (by have := hdl.out; have := hnk.out; omega) ?_; intro v5 w5 ho5 hc5 hv5; obtain ⟨A5, c5, rfl, _, _⟩ := ho5.form)
            have lg5 := (lg4.new ((Chg.refl [] w4).alloc _)).app ho5 hc5 hv5
            have hlen5 : (dn ++ [Ch.mk uf up]).length = k + 1 := by simp [hdl.out]
            go_roundg (nk - (k + 1))
            case measure => omega
            case rel => exact ⟨k + 1, i + 2, A5, c5, dn ++ [Ch.mk uf up], by omega, by omega, by rw [show dn.length = k from hdl.out], by go_num, (by show i + 2 = 2 * (k + 1); have := hi.out; omega), lg5.len_ hlen5, hlen5, hstep.out⟩
        · go_simp
          skip
          refine hK.out _ _ (by (try dsimp only); exact hHeld.alloc _) (fun hHeld => ?_)
          clear hK K
          (try simp only [Act.put, List.setIfInBounds_toArray, List.set_cons_zero, List.set_cons_succ])
          have x9 : Chg [] wr (wr.drew.alloc (.cells #[.bool false, .int .i64 0] 56)) := ((Chg.refl [] wr).drew).alloc _
          have hp9 : Blk (wr.drew.alloc (.cells #[.bool false, .int .i64 0] 56)) wr.heap.size 56 #[.bool false, .int .i64 0] := Blk.new wr.drew _ _
          refine wpAnyH_ready (rs := [9]) (by kernel_rfl) (by simp) ?_; refine AllReadyH.cons (o := _) rfl (fun K hK => ?_) AllReadyH.nil
          go_simp
          (go_at_call 65; refine (hRd _).mono ?_; rintro e u1 ⟨rfl, y1⟩)
          refine hK.out _ _ (by (try dsimp only); exact hHeld.trans y1 (by simp)) (fun hHeld => ?_)
          clear hK K
          (try simp only [Act.put, List.setIfInBounds_toArray, List.set_cons_zero, List.set_cons_succ])
          have hu2 := x9.trans y1 (by simp)
          have hp := hp9.chg_ y1 (by simp)
          clear x9 hp9 y1
          obtain ⟨pb, hpe⟩ : ∃ pb, pb = wr.heap.size := ⟨_, rfl⟩
          have hpl : wr.heap.size ≤ pb := by omega
          rw [← hpe] at hp ⊢
          clear hpe
          generalize u1 = u2 at *
          obtain ⟨g0, g1, g2, g3⟩ := blk2f hp
          refine wpAnyH_ready (rs := [11]) (by kernel_rfl) (by simp) ?_; refine AllReadyH.cons (o := _) rfl (fun K hK => ?_) AllReadyH.nil
          go_simp
          skip
          refine hK.out _ _ (by (try dsimp only); exact chg2 (g := pb) (y0 := .bool (unC x0 x1).fill) (y1 := .int .i64 (unC x0 x1).page) hHeld (by intro h; omega)) (fun hHeld => ?_)
          clear hK K
          (try simp only [Act.put, List.setIfInBounds_toArray, List.set_cons_zero, List.set_cons_succ])
          refine wpAnyH_done (by kernel_rfl) ?_ _
          refine NoPanic.normal ?_
          have B := set2 (y0 := .bool (unC x0 x1).fill) (y1 := .int .i64 (unC x0 x1).page) hp
          have k3 : Chg [] wr _ := chg2 (y0 := .bool (unC x0 x1).fill) (y1 := .int .i64 (unC x0 x1).page) (g := pb) hu2 (by intro h; omega)
          have lg3 := lg.new k3
          rw [show #[Value.bool (unC x0 x1).fill, .int .i64 (unC x0 x1).page] = (unC x0 x1).ar from rfl] at B
          clear hHeld hp hu2 k3
          generalize (u2.setCell ⟨pb, 0, none⟩ (.bool (unC x0 x1).fill)).setCell ⟨pb, 1, none⟩ (.int .i64 (unC x0 x1).page) = w3 at *
          clear lg hRd hcell
          obtain ⟨d0, d1⟩ := blk2 B
          have hR := fun w9 => ChRight_any (unC x0 x1).fill (unC x0 x1).page w9
          rw [show Ch.mk (unC x0 x1).fill (unC x0 x1).page = unC x0 x1 from rfl] at hR
          generalize hU : unC x0 x1 = U at *
          obtain ⟨uf, up⟩ := U
          simp only [Ch.ar] at *
          cases hok : Ch.ok ⟨uf, up⟩ with
          | false =>
            rw [hok] at hR
            rw [hok] at hstep
            have hb2 := Lib.hid (hend (hstep.trans (by simp)))
            clear hok hstep hend hU
            go_wp2_with fail
            refine (hR _).mono ?_; rintro e w4 ⟨rfl, k4⟩
            go_wp2_with fail
            go_ret2
            rw [hb2.out]
            exact ⟨.inl ⟨rfl, rfl⟩, (lg3.1).trans k4 (by simp)⟩
          | true =>
            rw [hok] at hR
            rw [hok, if_pos rfl] at hstep
            replace hstep := Lib.hid hstep
            clear hok hend hU
            go_wp2_with fail
            refine (hR _).mono ?_; rintro e w4 ⟨rfl, k4⟩
            have B4 := k4.blk B (by simp)
            have lg4 := lg3.new k4
            clear d0 d1 B lg3 hR
            obtain ⟨d0, d1⟩ := blk2 B4
            go_wp2_with (at_builtin; refine wpList_append_G rfl _ _ 24 rfl 56 (.agg #[.bool false, .int .i64 0]) 16 Tryz.underlying24 (by kernel_rfl) (by kernel_rfl) (.slice A' k c') dn rfl (lg4.new ((Chg.refl [] w4).alloc _)).2.1 (some ⟨w4.heap.size, 0, none⟩) 1 1 [⟨uf, up⟩] rfl (OwnG.src (E := chE) (OwnG.lit (L := [Ch.mk uf up]) (Blk.new w4 56 #[.bool uf, .int .i64 up]) (by simp))) rfl (by have := hdl.out; have := hnk.out; omega) ?_; intro v5 w5 ho5 hc5 hv5; obtain ⟨A5, c5, rfl, _, _⟩ := ho5.form)
            have lg5 := (lg4.new ((Chg.refl [] w4).alloc _)).app ho5 hc5 hv5
            have hlen5 : (dn ++ [Ch.mk uf up]).length = k + 1 := by simp [hdl.out]
            go_roundg (nk - (k + 1))
            case measure => omega
            case rel => exact ⟨k + 1, i + 2, A5, c5, dn ++ [Ch.mk uf up], by omega, by omega, by rw [show dn.length = k from hdl.out], by go_num, (by show i + 2 = 2 * (k + 1); have := hi.out; omega), lg5.len_ hlen5, hlen5, hstep.out⟩
      · have hkk : k = nk := by have := hi.out; have := hnk.out; omega
        have hG := hat.out.all (by rw [hll.out, hnk.out, hkk])
        go_wp2_with fail
        go_ret2
        have hdl := hdl.out
        subst hdl
        exact ⟨.inr ⟨A', c', dn, hG, rfl, lg⟩, lg.1⟩

end Go.Proofs.YtgebfagiomcmbaaGreatDoor
