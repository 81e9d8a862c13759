/-
 The program's filler: what a path's entries say.
-/
import Derived.Test.YtmbgepafpcbakaaGreatDoorFlAK
namespace Go.Proofs.YtmbgepafpcbakaaGreatDoor
open Go.RowKit Go.Maps
section
variable {w0 w w' : World} {xq fq mq dd gq mp q hp hb t n a m most : Nat} {L : List Int} {d : Gd} {root page : Int} {A : Option Addr} {cA : Nat} {P : Pa} {dirty : Bool} {e0 e1 e2 : Ent} {tv av : Value} {tk an : List Int} {l : List Th}
set_option maxRecDepth 100000 in
set_option maxHeartbeats 8000000 in
theorem SepC.flRead (H : SepC w0 w (blkT xq 175 (wkC fq root page A cA P dirty e0 e1 e2 (tv) (av)) :: ownT (numE .i64) 3 (tv) (tk) :: ownT (numE .i64) 3 (av) (an) :: blkT fq 202 (flC gq mq q dd) :: gdT dd gq mp q hp hb t n a m most L (d) :: mapT mq L :: l)) (hA : SlA w A P.ats.length P.ats) (h3 : P.ats.length = 2 ∨ P.ats.length = 3) : Calls Tryz.prog 85 #[.pointer (some ⟨xq, 0, none⟩)] w fun e w' => e = .returned (.agg (says3 (entF n L d.s.W P 0) (entF n L d.s.W P 1) (sayK n L d.s.W P P.ats.length 2))) ∧ Chg [] w w' := by
 have G := (H.pick 4 rfl).gIn
 have hwd : ∀ g i, 0 ≤ getG n d.s.W L g i ∧ getG n d.s.W L g i < 18446744073709551616 := fun g i => G.wd.getG_ g i
 clear G
 have cG := fun (z : World) (y_ : Chg [] w z) (g i : Int) => ((H.new y_).pick 4 rfl).kGet g i
 have cW := fun (z : World) (y_ : Chg [] w z) => (H.new y_).blk
 have cF := fun (z : World) (y_ : Chg [] w z) => ((H.new y_).pick 3 rfl).blk
 clear H
 obtain ⟨N, hN⟩ : ∃ N, P.ats.length = N := ⟨_, rfl⟩
 rw [hN] at hA h3 ⊢
 obtain ⟨R, hR⟩ : ∃ R, says3 (entF n L d.s.W P 0) (entF n L d.s.W P 1) (sayK n L d.s.W P N 2) = R := ⟨_, rfl⟩
 rw [hR]
 replace hR := Lib.hid hR
 have hNz := hA.at_ (by omega)
 obtain ⟨b, off, rfl, hb_, hat⟩ := hNz
 clear hb_
 have hx : ∀ j, j < N → w.cell? ⟨b, off + j * 2, none⟩ = some (.int .i64 (atF P j).1) ∧ w.cell? ⟨b, off + j * 2 + 1, none⟩ = some (.int .i64 (atF P j).2) := fun j hj => hat j _ (by unfold atF; rw [List.getD_eq_getElem?_getD, List.getElem?_eq_getElem (by omega)]; rfl)
 have hbl := hA.at_ (by omega)
 obtain ⟨b', off', eA, hbl, _⟩ := hbl
 cases eA
 have hxz : ∀ (z : World), Chg [] w z → ∀ j, j < N → z.cell? ⟨b, off + j * 2, none⟩ = some (.int .i64 (atF P j).1) ∧ z.cell? ⟨b, off + j * 2 + 1, none⟩ = some (.int .i64 (atF P j).2) := fun z y_ j hj => ⟨(y_.cell hbl (by simp)).trans (hx j hj).1, (y_.cell hbl (by simp)).trans (hx j hj).2⟩
 clear hat hx hbl hA
 have hEk : ∀ k, entF n L d.s.W P k = getE (getG n d.s.W L (atF P k).1 (atF P k).2).toNat := fun _ => rfl
 have HA := ((SepC.nil w).alloc #[.bool false, .bool false, .bool false, .bool false, .bool false, .bool false, .bool false, .bool false, .int .i64 0, .bool false, .bool false, .bool false, .bool false, .bool false, .bool false, .bool false, .bool false, .int .i64 0, .bool false, .bool false, .bool false, .bool false, .bool false, .bool false, .bool false, .bool false, .int .i64 0] 173).allocN (g := w.heap.size + 1) (by simp) #[.bool false, .bool false, .bool false, .bool false, .bool false, .bool false, .bool false, .bool false, .int .i64 0, .bool false, .bool false, .bool false, .bool false, .bool false, .bool false, .bool false, .bool false, .int .i64 0, .bool false, .bool false, .bool false, .bool false, .bool false, .bool false, .bool false, .bool false, .int .i64 0] 173
 have c3 := fun (z : World) (y_ : Chg [] w z) => wk3_ (cW z y_)
 skip
 replace hN := Lib.hid hN
 replace hxz := Lib.hid hxz; replace cG := Lib.hid cG; replace cW := Lib.hid cW; replace cF := Lib.hid cF; replace c3 := Lib.hid c3; replace hEk := Lib.hid hEk; replace hwd := Lib.hid hwd
 skip
 go_enter Tryz.func85, Tryz.ntmps85
 go_upto_region 2 with fail
 generalize (w.alloc (.cells #[.bool false, .bool false, .bool false, .bool false, .bool false, .bool false, .bool false, .bool false, .int .i64 0, .bool false, .bool false, .bool false, .bool false, .bool false, .bool false, .bool false, .bool false, .int .i64 0, .bool false, .bool false, .bool false, .bool false, .bool false, .bool false, .bool false, .bool false, .int .i64 0] 173)).alloc (.cells #[.bool false, .bool false, .bool false, .bool false, .bool false, .bool false, .bool false, .bool false, .int .i64 0, .bool false, .bool false, .bool false, .bool false, .bool false, .bool false, .bool false, .bool false, .int .i64 0, .bool false, .bool false, .bool false, .bool false, .bool false, .bool false, .bool false, .bool false, .int .i64 0] 173) = w1 at *
 generalize w.heap.size + 1 = lb at *
 generalize w.heap.size = rb at *
 have d3 := c3.out w1 HA.1
 rw [hN.out] at d3
 have hm3 : ¬ (3 : Int) < (N : Int) := by omega
 go_wp2_with fail
 go_loopw [14] (fun s14 wr => ∃ j : Nat, j ≤ N ∧ s14 = .int .i64 j ∧ SepC w wr (blkT lb 173 (says3 (sayK n L d.s.W P (j) 0) (sayK n L d.s.W P (j) 1) (sayK n L d.s.W P (j) 2)) :: blkT rb 173 (says3 Ent.none_ Ent.none_ Ent.none_) :: [])) (fun s14 _ => N - (intOf s14).toNat)
 case atStart => exact ⟨0, Nat.zero_le _, rfl, HA⟩
 clear HA d3
 obtain ⟨j, hj, rfl, HA⟩ := hrel
 have cE3 := c3.out wr HA.1
 rw [hN.out] at cE3
 by_cases hlt : j < N
 ·have hltz : (j : Int) < (N : Int) := by omega
  obtain ⟨V, hV⟩ : ∃ V : Nat, getG n d.s.W L (atF P j).1 (atF P j).2 = (V : Int) := ⟨(getG n d.s.W L (atF P j).1 (atF P j).2).toNat, by have := (hwd.out (atF P j).1 (atF P j).2); omega⟩
  have hV2 : V < 18446744073709551616 := by have := (hwd.out (atF P j).1 (atF P j).2); omega
  have cP := fun z => Get_any V z hV2
  have hEj : entF n L d.s.W P j = getE V := by rw [hEk.out, hV]; rfl
  have cGj := fun (z : World) (y_ : Chg [] w z) => cG.out z y_ (atF P j).1 (atF P j).2
  rw [hV] at cGj
  replace hEj := Lib.hid hEj
  clear hV hV2
  generalize hasG n L (atF P j).1 (atF P j).2 = hg_ at *
  simp only [Ent.cs] at cP
  replace cGj := Lib.hid cGj
  go_upto_region 5 with fail
  have yy := HA.1.drew
  refine wp_region_noPanic ?_
  refine wp_region_held_drew (S := (fun w' => Chg [] w w')) (by kernel_rfl) ?_ (fun hHeld => ?_)
  ·exact yy
  refine tq 0 18 _ ?_
  refine tq 1 19 _ ?_
  refine tq 2 20 _ ?_
  (refine tkz 3 21 ?_ ?_ ?_; rotate_left; · (intro w hSw; (try dsimp only at hSw); have c_ := wk0 (cW.out _ hSw); go_simp; (try with_reducible rfl)))
  (try simp only [Act.put, qI, qO, qU])
  refine tq 4 22 _ ?_
  refine tq 5 23 _ ?_
  (refine tkz 6 24 ?_ ?_ ?_; rotate_left; · (intro w hSw; (try dsimp only at hSw); have c_ := fl_c (cF.out _ hSw); go_simp; (try with_reducible rfl)))
  refine tq 7 25 _ ?_
  (try simp only [Act.put, qI, qO, qU])
  refine tq 8 26 _ ?_
  refine tq 9 27 _ ?_
  refine tq 10 28 _ ?_
  (refine tkz 11 29 ?_ ?_ ?_; rotate_left; · (intro w hSw; (try dsimp only at hSw); have c_ := c3.out _ hSw; rw [hN.out] at c_; go_simp; (try with_reducible rfl)))
  (try simp only [Act.put, qI, qO, qU])
  refine tq 12 30 _ ?_
  refine tq 13 31 _ ?_
  refine tq 14 32 _ ?_
  (refine tkz 15 33 ?_ ?_ ?_; rotate_left; · (intro w hSw; (try dsimp only at hSw); have c_ := hxz.out _ hSw j hlt; go_simp; (try with_reducible rfl)))
  (try simp only [Act.put, qI, qO, qU])
  refine tq 16 34 _ ?_
  refine tq 17 35 _ ?_
  refine tq 18 36 _ ?_
  refine tq 19 37 _ ?_
  (try simp only [Act.put, qI, qO, qU])
  (refine tkz 20 38 ?_ ?_ ?_; rotate_left; · (intro w hSw; (try dsimp only at hSw); have c_ := c3.out _ hSw; rw [hN.out] at c_; go_simp; (try with_reducible rfl)))
  refine tq 21 39 _ ?_
  refine tq 22 40 _ ?_
  refine tq 23 41 _ ?_
  (try simp only [Act.put, qI, qO, qU])
  (refine tkz 24 42 ?_ ?_ ?_; rotate_left; · (intro w hSw; (try dsimp only at hSw); have c_ := hxz.out _ hSw j hlt; go_simp; (try with_reducible rfl)))
  (try simp only [Act.put, qI, qO, qU])
  refine rdy 25 fun K hK => ?_
  go_simp
  (go_at_call 153; refine (cGj.out _ yy).mono ?_; rintro e u1 ⟨rfl, hz_⟩; subst hz_)
  refine hK.out _ _ (by (try dsimp only); exact yy) (fun hHeld => ?_)
  clear hK K
  (try simp only [Act.put, qI, qO, qU])
  refine tq 26 17 _ ?_
  refine tq 27 44 _ ?_
  refine tq 28 45 _ ?_
  refine tq 29 5 _ ?_
  (try simp only [Act.put, qI, qO, qU])
  refine tq 30 6 _ ?_
  (try simp only [Act.put, qI, qO, qU])
  refine wpAnyH_done (by kernel_rfl) ?_ _
  refine NoPanic.normal ?_
  clear hHeld cGj cE3
  have HB := HA.new (Chg.refl [] wr).drew
  clear HA yy
  go_wp2_with fail
  refine (cP _).mono ?_; rintro e u2 ⟨rfl, y2⟩
  replace HB := HB.new y2
  clear cP y2
  generalize getE V = en at *
  have sc_ := says_c HB.blk; have sf_ := says_f HB.blk
  have ej : j = 0 ∨ j = 1 ∨ j = 2 := by omega
  rcases ej with rfl | rfl | rfl
  ·have HC := HB.sayPut0 en
   have a0 : sayK n L d.s.W P (0 + 1) 0 = en := by unfold sayK; rw [if_pos (by omega)]; exact hEj.out
   have a1 : sayK n L d.s.W P (0 + 1) 1 = sayK n L d.s.W P 0 1 := by unfold sayK; simp
   have a2 : sayK n L d.s.W P (0 + 1) 2 = sayK n L d.s.W P 0 2 := by unfold sayK; simp
   replace a0 := Lib.hid a0; replace a1 := Lib.hid a1; replace a2 := Lib.hid a2
   go_wp2_with fail
   go_roundw
   case rel => exact ⟨0 + 1, by omega, by go_num, by rw [a0.out, a1.out, a2.out]; exact HC⟩
   case measure => simp [intOf]; omega
  ·have HC := HB.sayPut1 en
   have a0 : sayK n L d.s.W P (1 + 1) 0 = sayK n L d.s.W P 1 0 := by unfold sayK; simp
   have a1 : sayK n L d.s.W P (1 + 1) 1 = en := by unfold sayK; rw [if_pos (by omega)]; exact hEj.out
   have a2 : sayK n L d.s.W P (1 + 1) 2 = sayK n L d.s.W P 1 2 := by unfold sayK; simp
   replace a0 := Lib.hid a0; replace a1 := Lib.hid a1; replace a2 := Lib.hid a2
   go_wp2_with fail
   go_roundw
   case rel => exact ⟨1 + 1, by omega, by go_num, by rw [a0.out, a1.out, a2.out]; exact HC⟩
   case measure => simp [intOf]; omega
  have HC := HB.sayPut2 en
  have a0 : sayK n L d.s.W P (2 + 1) 0 = sayK n L d.s.W P 2 0 := by unfold sayK; simp
  have a1 : sayK n L d.s.W P (2 + 1) 1 = sayK n L d.s.W P 2 1 := by unfold sayK; simp
  have a2 : sayK n L d.s.W P (2 + 1) 2 = en := by unfold sayK; rw [if_pos (by omega)]; exact hEj.out
  replace a0 := Lib.hid a0; replace a1 := Lib.hid a1; replace a2 := Lib.hid a2
  go_wp2_with fail
  go_roundw
  case rel => exact ⟨2 + 1, by omega, by go_num, by rw [a0.out, a1.out, a2.out]; exact HC⟩
  case measure => simp [intOf]; omega
 have ej : j = N := by omega
 subst ej
 have hltz : ¬ (j : Int) < (j : Int) := by omega
 have a0 : sayK n L d.s.W P j 0 = entF n L d.s.W P 0 := by unfold sayK; rw [if_pos (by omega)]
 have a1 : sayK n L d.s.W P j 1 = entF n L d.s.W P 1 := by unfold sayK; rw [if_pos (by omega)]
 have hR2 := hR.out
 rw [← a0, ← a1] at hR2
 clear a0 a1
 replace hR2 := Lib.hid hR2
 have HC := (HA.pick 1 rfl).putAll (says3 (sayK n L d.s.W P j 0) (sayK n L d.s.W P j 1) (sayK n L d.s.W P j 2)) rfl
 have hrg := HA.blk.whole
 have hth := Blk.there (HA.pick 1 rfl).blk 0 27 (by decide)
 clear hwd hEk hxz cG cW cF hN hR cE3
 go_upto_region 8 with fail
 refine wp_region_lit ?_
 refine wpList_load_mid rfl 173 _ rfl lb 0 rfl (says3 (sayK n L d.s.W P j 0) (sayK n L d.s.W P j 1) (sayK n L d.s.W P j 2)).toList _ hrg Tryz.underlying173 rfl (by kernel_rfl) ?_
 refine wpList_store_mid rfl 173 _ _ rfl rb 0 (says3 (sayK n L d.s.W P j 0) (sayK n L d.s.W P j 1) (sayK n L d.s.W P j 2)) rfl rfl hth (by kernel_rfl) (by unfold says3; simp [Value.oneCell']) ?_
 clear hrg hth
 skip
 go_wp2_with fail
 exact bodyPost_ret (cell_ret rfl HC.blk rfl Tryz.underlying173 rfl (by kernel_rfl)) rfl ⟨by rw [← hR2.out], HC.1⟩
end
end Go.Proofs.YtmbgepafpcbakaaGreatDoor
