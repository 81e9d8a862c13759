/-
 The program's filler: what a leaf permits.
-/
import Derived.Test.YtmbgepafpcbakaaGreatDoorFlAK
namespace Go.Proofs.YtmbgepafpcbakaaGreatDoor
open Go.RowKit Go.Maps
section
variable {w0 w w' : World} {xq fq mq dd gq mp q hp hb t n a m most : Nat} {L : List Int} {d : Gd} {root page : Int} {A : Option Addr} {cA : Nat} {P : Pa} {dirty : Bool} {e0 e1 e2 : Ent} {tv av : Value} {tk an : List Int} {l : List Th}
theorem SepC.put3_ {g : Nat} {ty : TypeId} {a b c : Value} (H : SepC w0 w (blkT g ty #[a, b, c] :: l)) (x y z : Value) : SepC w0 (((w.setCell ⟨g, 0, none⟩ x).setCell ⟨g, 1, none⟩ y).setCell ⟨g, 2, none⟩ z) (blkT g ty #[x, y, z] :: l) := by
 have h := ((H.cellSet 0 x).cellSet 1 y).cellSet 2 z
 simpa using h
set_option maxRecDepth 100000 in
set_option maxHeartbeats 8000000 in
theorem SepC.flRights (H : SepC w0 w (blkT xq 175 (wkC fq root page A cA P dirty e0 e1 e2 (tv) (av)) :: ownT (numE .i64) 3 (tv) (tk) :: ownT (numE .i64) 3 (av) (an) :: blkT fq 202 (flC gq mq q dd) :: gdT dd gq mp q hp hb t n a m most L (d) :: mapT mq L :: l)) : Calls Tryz.prog 163 #[.pointer (some ⟨xq, 0, none⟩)] w fun e w' => e = .returned (.agg (leafW d (if P.large then Rg.all else ofE e2) P.g dirty).cs) ∧ SepC w0 w' (blkT xq 175 (wkC fq root page A cA P dirty e0 e1 e2 (tv) (av)) :: ownT (numE .i64) 3 (tv) (tk) :: ownT (numE .i64) 3 (av) (an) :: blkT fq 202 (flC gq mq q dd) :: gdT dd gq mp q hp hb t n a m most L (d) :: mapT mq L :: l) := by
 have hA := fun w' => All_any w'
 simp only [Rg.all, Rg.cs] at hA
 have hO := fun w' => Of_any e2.p e2.w e2.u e2.a e2.d e2.s e2.n e2.bad e2.f w'
 have hP := fun {z : World} {l' : List Th} (H' : SepC w0 z (gdT dd gq mp q hp hb t n a m most L (d) :: l')) => H'.kProt P.g
 obtain ⟨pr, hpr⟩ : ∃ pr, protB d P.g = pr := ⟨_, rfl⟩
 rw [hpr] at hP
 obtain ⟨R, hR⟩ : ∃ R, (leafW d (if P.large then Rg.all else ofE e2) P.g dirty).cs = R := ⟨_, rfl⟩
 rw [hR]
 replace hR := Lib.hid hR; replace hpr := Lib.hid hpr
 have H1 := H.alloc #[.bool false, .bool false, .bool false] 54
 clear H
 go_enter Tryz.func163, Tryz.ntmps163
 go_wp2_with fail
 generalize w.alloc (.cells #[.bool false, .bool false, .bool false] 54) = w1 at *
 generalize w.heap.size = cb at *
 refine (hA _).mono ?_; rintro e w2 ⟨rfl, y2⟩
 have H2 := (H1.new y2).alloc #[.bool true, .bool true, .bool true] 54
 clear H1 y2 hA
 have c8 := wk8 (H2.pick 2 rfl).blk
 skip
 cases hlg : P.large
 ·rw [hlg] at c8
  replace hlg := Lib.hid hlg
  go_upto_region 3 with fail
  generalize w2.alloc (.cells #[.bool true, .bool true, .bool true] 54) = w3 at *
  generalize w2.heap.size = rb at *
  have cE := wke2 (H2.pick 2 rfl).blk
  go_wp2_with fail
  refine (hO _).mono ?_; rintro e w4 ⟨rfl, y4⟩
  have H2b := H2.new y4
  have e0_ := H2b.blk.cell 0; have e1_ := H2b.blk.cell 1; have e2_ := H2b.blk.cell 2; have f0_ := H2b.blk.frozen 0; have f1_ := H2b.blk.frozen 1; have f2_ := H2b.blk.frozen 2
  simp only [qA, qZ, qS] at e0_ e1_ e2_
  have H3 := H2b.put3_ (.bool e2.w) (.bool e2.u) (.bool !e2.n)
  clear H2 y4 cE hO c8
  go_upto_region 4 with fail
  clear e0_ e1_ e2_ f0_ f1_ f2_
  generalize ((w4.setCell ⟨rb, 0, none⟩ (.bool e2.w)).setCell ⟨rb, 1, none⟩ (.bool e2.u)).setCell ⟨rb, 2, none⟩ (.bool !e2.n) = w5 at *
  cases hw_ : e2.w
  ·rw [hw_] at H3
   replace hw_ := Lib.hid hw_
   skip
   have HH := H3.new (Chg.refl [] _).drew
   clear H3
   refine wp_region_noPanic ?_
   refine late_region (S := (fun w' => Blk w' xq 175 (wkC fq root page A cA P dirty e0 e1 e2 tv av) ∧ Blk w' fq 202 (flC gq mq q dd) ∧ Blk w' rb 54 #[.bool false, .bool e2.u, .bool !e2.n])) (Z := 25) (by kernel_rfl) ⟨(HH.pick 2 rfl).blk, (HH.pick 5 rfl).blk, HH.blk⟩ (fun hHeld => ?_)
   generalize World.drew w5 = wd at *
   (refine lk 0 17 ?_ ?_ ?_; rotate_left; · (intro w hSw; go_simp; (try with_reducible rfl)))
   (try simp only [Act.put, qI, qO, qU])
   (refine lk 1 18 ?_ ?_ ?_; rotate_left; · (intro w hSw; (try dsimp only at hSw); have c_ := hSw.2.2.cell 0; simp only [qA, qZ] at c_; go_simp; (try with_reducible rfl)))
   (try simp only [Act.put, qI, qO, qU])
   (refine lk 2 19 ?_ ?_ ?_; rotate_left; · (intro w hSw; go_simp; (try with_reducible rfl)))
   (try simp only [Act.put, qI, qO, qU])
   (refine late_off 3 (some 20) rfl rfl (by kernel_rfl) (by kernel_rfl) (by kernel_rfl) (by kernel_rfl) (fun _ _ _ h => h) (by rfl) (by assumption) ?_)
   (try simp only [Act.put, qI, qO, qU])
   (refine late_off 4 (some 21) rfl rfl (by kernel_rfl) (by kernel_rfl) (by kernel_rfl) (by kernel_rfl) (fun _ _ _ h => h) (by rfl) (by assumption) ?_)
   (try simp only [Act.put, qI, qO, qU])
   (refine late_off 5 (some 22) rfl rfl (by kernel_rfl) (by kernel_rfl) (by kernel_rfl) (by kernel_rfl) (fun _ _ _ h => h) (by rfl) (by assumption) ?_)
   (try simp only [Act.put, qI, qO, qU])
   (refine late_off 6 (some 23) rfl rfl (by kernel_rfl) (by kernel_rfl) (by kernel_rfl) (by kernel_rfl) (fun _ _ _ h => h) (by rfl) (by assumption) ?_)
   (try simp only [Act.put, qI, qO, qU])
   (refine lk 7 24 ?_ ?_ ?_; rotate_left; · (intro w hSw; go_simp; (try with_reducible rfl)))
   (try simp only [Act.put, qI, qO, qU])
   (refine lk 8 25 ?_ ?_ ?_; rotate_left; · (intro w hSw; go_simp; (try with_reducible rfl)))
   (try simp only [Act.put, qI, qO, qU])
   (refine late_off 9 (some 26) rfl rfl (by kernel_rfl) (by kernel_rfl) (by kernel_rfl) (by kernel_rfl) (fun _ _ _ h => h) (by rfl) (by assumption) ?_)
   (try simp only [Act.put, qI, qO, qU])
   (refine late_off 10 (some 27) rfl rfl (by kernel_rfl) (by kernel_rfl) (by kernel_rfl) (by kernel_rfl) (fun _ _ _ h => h) (by rfl) (by assumption) ?_)
   (try simp only [Act.put, qI, qO, qU])
   (refine late_off 11 (some 28) rfl rfl (by kernel_rfl) (by kernel_rfl) (by kernel_rfl) (by kernel_rfl) (fun _ _ _ h => h) (by rfl) (by assumption) ?_)
   (try simp only [Act.put, qI, qO, qU])
   (refine late_off 12 (some 29) rfl rfl (by kernel_rfl) (by kernel_rfl) (by kernel_rfl) (by kernel_rfl) (fun _ _ _ h => h) (by rfl) (by assumption) ?_)
   (try simp only [Act.put, qI, qO, qU])
   (refine late_off 13 (some 30) rfl rfl (by kernel_rfl) (by kernel_rfl) (by kernel_rfl) (by kernel_rfl) (fun _ _ _ h => h) (by rfl) (by assumption) ?_)
   (try simp only [Act.put, qI, qO, qU])
   (refine late_off 14 (some 31) rfl rfl (by kernel_rfl) (by kernel_rfl) (by kernel_rfl) (by kernel_rfl) (fun _ _ _ h => h) (by rfl) (by assumption) ?_)
   (try simp only [Act.put, qI, qO, qU])
   (refine late_off 15 (some 32) rfl rfl (by kernel_rfl) (by kernel_rfl) (by kernel_rfl) (by kernel_rfl) (fun _ _ _ h => h) (by rfl) (by assumption) ?_)
   (try simp only [Act.put, qI, qO, qU])
   (refine late_off 16 (some 33) rfl rfl (by kernel_rfl) (by kernel_rfl) (by kernel_rfl) (by kernel_rfl) (fun _ _ _ h => h) (by rfl) (by assumption) ?_)
   (try simp only [Act.put, qI, qO, qU])
   (refine late_off 17 (some 34) rfl rfl (by kernel_rfl) (by kernel_rfl) (by kernel_rfl) (by kernel_rfl) (fun _ _ _ h => h) (by rfl) (by assumption) ?_)
   (try simp only [Act.put, qI, qO, qU])
   (refine late_off 18 (some 35) rfl rfl (by kernel_rfl) (by kernel_rfl) (by kernel_rfl) (by kernel_rfl) (fun _ _ _ h => h) (by rfl) (by assumption) ?_)
   (try simp only [Act.put, qI, qO, qU])
   (refine late_off 19 (some 36) rfl rfl (by kernel_rfl) (by kernel_rfl) (by kernel_rfl) (by kernel_rfl) (fun _ _ _ h => h) (by rfl) (by assumption) ?_)
   (try simp only [Act.put, qI, qO, qU])
   (refine late_off 20 (some 37) rfl rfl (by kernel_rfl) (by kernel_rfl) (by kernel_rfl) (by kernel_rfl) (fun _ _ _ h => h) (by rfl) (by assumption) ?_)
   (try simp only [Act.put, qI, qO, qU])
   (refine late_off 21 (some 38) rfl rfl (by kernel_rfl) (by kernel_rfl) (by kernel_rfl) (by kernel_rfl) (fun _ _ _ h => h) (by rfl) (by assumption) ?_)
   (try simp only [Act.put, qI, qO, qU])
   (refine late_off 22 (some 39) rfl rfl (by kernel_rfl) (by kernel_rfl) (by kernel_rfl) (by kernel_rfl) (fun _ _ _ h => h) (by rfl) (by assumption) ?_)
   (try simp only [Act.put, qI, qO, qU])
   (refine lk 23 40 ?_ ?_ ?_; rotate_left; · (intro w hSw; go_simp; (try with_reducible rfl)))
   (try simp only [Act.put, qI, qO, qU])
   refine lrdy 24 fun K hK => ?_
   go_simp
   refine hK.out _ _ (fun _ => by (try dsimp only); exact hHeld) ?_
   clear hK K
   (try simp only [Act.put, qI, qO, qU])
   have hHeld := hHeld
   have e0_ := HH.blk.cell 0; have f0_ := HH.blk.frozen 0
   simp only [qA, qZ] at e0_
   refine lrdy 25 fun K hK => ?_
   go_simp
   have HH3 := HH.cellSet 0 (.bool false)
   simp only [qI, qO] at HH3
   refine hK.out _ _ (fun e => absurd rfl e) ?_
   clear hK K
   (try simp only [Act.put, qI, qO, qU])
   refine late_done (by kernel_rfl) ?_ _
   refine NoPanic.normal ?_
   clear e0_ f0_ HH
   generalize World.setCell wd ⟨rb, 0, none⟩ (.bool false) = w9 at *
   have r0_ := HH3.blk.cell 0; have r1_ := HH3.blk.cell 1; have r2_ := HH3.blk.cell 2
   simp only [qA, qZ, qS] at r0_ r1_ r2_
   have z0_ := (HH3.pick 1 rfl).blk.cell 0; have z1_ := (HH3.pick 1 rfl).blk.cell 1; have z2_ := (HH3.pick 1 rfl).blk.cell 2; have y0_ := (HH3.pick 1 rfl).blk.frozen 0; have y1_ := (HH3.pick 1 rfl).blk.frozen 1; have y2_ := (HH3.pick 1 rfl).blk.frozen 2
   simp only [qA, qZ, qS] at z0_ z1_ z2_
   have H5 := (HH3.pick 1 rfl).put3_ (.bool false) (.bool e2.u) (.bool !e2.n)
   go_wp2_with fail
   all_goals exact bodyPost_ret (cell_ret rfl H5.blk rfl Tryz.underlying54 rfl (by kernel_rfl)) rfl ⟨(by rw [← hR.out]; simp [leafW, ofE, Rg.cs, hpr.out, hlg.out, hw_.out]), H5.tail.tail⟩
  rw [hw_] at H3
  replace hw_ := Lib.hid hw_
  cases dirty
  ·skip
   have HH := H3.new (Chg.refl [] _).drew
   clear H3
   refine wp_region_noPanic ?_
   refine late_region (S := (fun w' => Blk w' xq 175 (wkC fq root page A cA P false e0 e1 e2 tv av) ∧ Blk w' fq 202 (flC gq mq q dd) ∧ Blk w' rb 54 #[.bool true, .bool e2.u, .bool !e2.n])) (Z := 25) (by kernel_rfl) ⟨(HH.pick 2 rfl).blk, (HH.pick 5 rfl).blk, HH.blk⟩ (fun hHeld => ?_)
   generalize World.drew w5 = wd at *
   (refine lk 0 17 ?_ ?_ ?_; rotate_left; · (intro w hSw; go_simp; (try with_reducible rfl)))
   (try simp only [Act.put, qI, qO, qU])
   (refine lk 1 18 ?_ ?_ ?_; rotate_left; · (intro w hSw; (try dsimp only at hSw); have c_ := hSw.2.2.cell 0; simp only [qA, qZ] at c_; go_simp; (try with_reducible rfl)))
   (try simp only [Act.put, qI, qO, qU])
   (refine lk 2 19 ?_ ?_ ?_; rotate_left; · (intro w hSw; go_simp; (try with_reducible rfl)))
   (try simp only [Act.put, qI, qO, qU])
   (refine lk 3 20 ?_ ?_ ?_; rotate_left; · (intro w hSw; go_simp; (try with_reducible rfl)))
   (try simp only [Act.put, qI, qO, qU])
   (refine lk 4 21 ?_ ?_ ?_; rotate_left; · (intro w hSw; go_simp; (try with_reducible rfl)))
   (try simp only [Act.put, qI, qO, qU])
   (refine lk 5 22 ?_ ?_ ?_; rotate_left; · (intro w hSw; go_simp; (try with_reducible rfl)))
   (try simp only [Act.put, qI, qO, qU])
   (refine lk 6 23 ?_ ?_ ?_; rotate_left; · (intro w hSw; (try dsimp only at hSw); have c_ := wk10 hSw.1; go_simp; (try with_reducible rfl)))
   (try simp only [Act.put, qI, qO, qU])
   (refine lk 7 24 ?_ ?_ ?_; rotate_left; · (intro w hSw; go_simp; (try with_reducible rfl)))
   (try simp only [Act.put, qI, qO, qU])
   (refine lk 8 25 ?_ ?_ ?_; rotate_left; · (intro w hSw; go_simp; (try with_reducible rfl)))
   (try simp only [Act.put, qI, qO, qU])
   (refine late_off 9 (some 26) rfl rfl (by kernel_rfl) (by kernel_rfl) (by kernel_rfl) (by kernel_rfl) (fun _ _ _ h => h) (by rfl) (by assumption) ?_)
   (try simp only [Act.put, qI, qO, qU])
   (refine late_off 10 (some 27) rfl rfl (by kernel_rfl) (by kernel_rfl) (by kernel_rfl) (by kernel_rfl) (fun _ _ _ h => h) (by rfl) (by assumption) ?_)
   (try simp only [Act.put, qI, qO, qU])
   (refine late_off 11 (some 28) rfl rfl (by kernel_rfl) (by kernel_rfl) (by kernel_rfl) (by kernel_rfl) (fun _ _ _ h => h) (by rfl) (by assumption) ?_)
   (try simp only [Act.put, qI, qO, qU])
   (refine late_off 12 (some 29) rfl rfl (by kernel_rfl) (by kernel_rfl) (by kernel_rfl) (by kernel_rfl) (fun _ _ _ h => h) (by rfl) (by assumption) ?_)
   (try simp only [Act.put, qI, qO, qU])
   (refine late_off 13 (some 30) rfl rfl (by kernel_rfl) (by kernel_rfl) (by kernel_rfl) (by kernel_rfl) (fun _ _ _ h => h) (by rfl) (by assumption) ?_)
   (try simp only [Act.put, qI, qO, qU])
   (refine late_off 14 (some 31) rfl rfl (by kernel_rfl) (by kernel_rfl) (by kernel_rfl) (by kernel_rfl) (fun _ _ _ h => h) (by rfl) (by assumption) ?_)
   (try simp only [Act.put, qI, qO, qU])
   (refine late_off 15 (some 32) rfl rfl (by kernel_rfl) (by kernel_rfl) (by kernel_rfl) (by kernel_rfl) (fun _ _ _ h => h) (by rfl) (by assumption) ?_)
   (try simp only [Act.put, qI, qO, qU])
   (refine late_off 16 (some 33) rfl rfl (by kernel_rfl) (by kernel_rfl) (by kernel_rfl) (by kernel_rfl) (fun _ _ _ h => h) (by rfl) (by assumption) ?_)
   (try simp only [Act.put, qI, qO, qU])
   (refine late_off 17 (some 34) rfl rfl (by kernel_rfl) (by kernel_rfl) (by kernel_rfl) (by kernel_rfl) (fun _ _ _ h => h) (by rfl) (by assumption) ?_)
   (try simp only [Act.put, qI, qO, qU])
   (refine late_off 18 (some 35) rfl rfl (by kernel_rfl) (by kernel_rfl) (by kernel_rfl) (by kernel_rfl) (fun _ _ _ h => h) (by rfl) (by assumption) ?_)
   (try simp only [Act.put, qI, qO, qU])
   (refine late_off 19 (some 36) rfl rfl (by kernel_rfl) (by kernel_rfl) (by kernel_rfl) (by kernel_rfl) (fun _ _ _ h => h) (by rfl) (by assumption) ?_)
   (try simp only [Act.put, qI, qO, qU])
   (refine late_off 20 (some 37) rfl rfl (by kernel_rfl) (by kernel_rfl) (by kernel_rfl) (by kernel_rfl) (fun _ _ _ h => h) (by rfl) (by assumption) ?_)
   (try simp only [Act.put, qI, qO, qU])
   (refine late_off 21 (some 38) rfl rfl (by kernel_rfl) (by kernel_rfl) (by kernel_rfl) (by kernel_rfl) (fun _ _ _ h => h) (by rfl) (by assumption) ?_)
   (try simp only [Act.put, qI, qO, qU])
   (refine late_off 22 (some 39) rfl rfl (by kernel_rfl) (by kernel_rfl) (by kernel_rfl) (by kernel_rfl) (fun _ _ _ h => h) (by rfl) (by assumption) ?_)
   (try simp only [Act.put, qI, qO, qU])
   (refine lk 23 40 ?_ ?_ ?_; rotate_left; · (intro w hSw; go_simp; (try with_reducible rfl)))
   (try simp only [Act.put, qI, qO, qU])
   refine lrdy 24 fun K hK => ?_
   go_simp
   refine hK.out _ _ (fun _ => by (try dsimp only); exact hHeld) ?_
   clear hK K
   (try simp only [Act.put, qI, qO, qU])
   have hHeld := hHeld
   have e0_ := HH.blk.cell 0; have f0_ := HH.blk.frozen 0
   simp only [qA, qZ] at e0_
   refine lrdy 25 fun K hK => ?_
   go_simp
   have HH3 := HH.cellSet 0 (.bool false)
   simp only [qI, qO] at HH3
   refine hK.out _ _ (fun e => absurd rfl e) ?_
   clear hK K
   (try simp only [Act.put, qI, qO, qU])
   refine late_done (by kernel_rfl) ?_ _
   refine NoPanic.normal ?_
   clear e0_ f0_ HH
   generalize World.setCell wd ⟨rb, 0, none⟩ (.bool false) = w9 at *
   have r0_ := HH3.blk.cell 0; have r1_ := HH3.blk.cell 1; have r2_ := HH3.blk.cell 2
   simp only [qA, qZ, qS] at r0_ r1_ r2_
   have z0_ := (HH3.pick 1 rfl).blk.cell 0; have z1_ := (HH3.pick 1 rfl).blk.cell 1; have z2_ := (HH3.pick 1 rfl).blk.cell 2; have y0_ := (HH3.pick 1 rfl).blk.frozen 0; have y1_ := (HH3.pick 1 rfl).blk.frozen 1; have y2_ := (HH3.pick 1 rfl).blk.frozen 2
   simp only [qA, qZ, qS] at z0_ z1_ z2_
   have H5 := (HH3.pick 1 rfl).put3_ (.bool false) (.bool e2.u) (.bool !e2.n)
   go_wp2_with fail
   all_goals exact bodyPost_ret (cell_ret rfl H5.blk rfl Tryz.underlying54 rfl (by kernel_rfl)) rfl ⟨(by rw [← hR.out]; simp [leafW, ofE, Rg.cs, hpr.out, hlg.out, hw_.out]), H5.tail.tail⟩
  skip
  have HH := H3.new (Chg.refl [] _).drew
  clear H3
  refine wp_region_noPanic ?_
  refine late_region (S := (fun w' => Blk w' xq 175 (wkC fq root page A cA P true e0 e1 e2 tv av) ∧ Blk w' fq 202 (flC gq mq q dd) ∧ Blk w' rb 54 #[.bool true, .bool e2.u, .bool !e2.n])) (Z := 25) (by kernel_rfl) ⟨(HH.pick 2 rfl).blk, (HH.pick 5 rfl).blk, HH.blk⟩ (fun hHeld => ?_)
  generalize World.drew w5 = wd at *
  (refine lk 0 17 ?_ ?_ ?_; rotate_left; · (intro w hSw; go_simp; (try with_reducible rfl)))
  (try simp only [Act.put, qI, qO, qU])
  (refine lk 1 18 ?_ ?_ ?_; rotate_left; · (intro w hSw; (try dsimp only at hSw); have c_ := hSw.2.2.cell 0; simp only [qA, qZ] at c_; go_simp; (try with_reducible rfl)))
  (try simp only [Act.put, qI, qO, qU])
  (refine lk 2 19 ?_ ?_ ?_; rotate_left; · (intro w hSw; go_simp; (try with_reducible rfl)))
  (try simp only [Act.put, qI, qO, qU])
  (refine lk 3 20 ?_ ?_ ?_; rotate_left; · (intro w hSw; go_simp; (try with_reducible rfl)))
  (try simp only [Act.put, qI, qO, qU])
  (refine lk 4 21 ?_ ?_ ?_; rotate_left; · (intro w hSw; go_simp; (try with_reducible rfl)))
  (try simp only [Act.put, qI, qO, qU])
  (refine lk 5 22 ?_ ?_ ?_; rotate_left; · (intro w hSw; go_simp; (try with_reducible rfl)))
  (try simp only [Act.put, qI, qO, qU])
  (refine lk 6 23 ?_ ?_ ?_; rotate_left; · (intro w hSw; (try dsimp only at hSw); have c_ := wk10 hSw.1; go_simp; (try with_reducible rfl)))
  (try simp only [Act.put, qI, qO, qU])
  (refine lk 7 24 ?_ ?_ ?_; rotate_left; · (intro w hSw; go_simp; (try with_reducible rfl)))
  (try simp only [Act.put, qI, qO, qU])
  (refine lk 8 25 ?_ ?_ ?_; rotate_left; · (intro w hSw; go_simp; (try with_reducible rfl)))
  (try simp only [Act.put, qI, qO, qU])
  (refine lk 9 26 ?_ ?_ ?_; rotate_left; · (intro w hSw; go_simp; (try with_reducible rfl)))
  (try simp only [Act.put, qI, qO, qU])
  (refine lk 10 27 ?_ ?_ ?_; rotate_left; · (intro w hSw; go_simp; (try with_reducible rfl)))
  (try simp only [Act.put, qI, qO, qU])
  (refine lk 11 28 ?_ ?_ ?_; rotate_left; · (intro w hSw; go_simp; (try with_reducible rfl)))
  (try simp only [Act.put, qI, qO, qU])
  (refine lk 12 29 ?_ ?_ ?_; rotate_left; · (intro w hSw; (try dsimp only at hSw); have c_ := wk0 hSw.1; go_simp; (try with_reducible rfl)))
  (try simp only [Act.put, qI, qO, qU])
  (refine lk 13 30 ?_ ?_ ?_; rotate_left; · (intro w hSw; go_simp; (try with_reducible rfl)))
  (try simp only [Act.put, qI, qO, qU])
  (refine lk 14 31 ?_ ?_ ?_; rotate_left; · (intro w hSw; go_simp; (try with_reducible rfl)))
  (try simp only [Act.put, qI, qO, qU])
  (refine lk 15 32 ?_ ?_ ?_; rotate_left; · (intro w hSw; (try dsimp only at hSw); have c_ := fl_c hSw.2.1; go_simp; (try with_reducible rfl)))
  (try simp only [Act.put, qI, qO, qU])
  (refine lk 16 33 ?_ ?_ ?_; rotate_left; · (intro w hSw; go_simp; (try with_reducible rfl)))
  (try simp only [Act.put, qI, qO, qU])
  (refine lk 17 34 ?_ ?_ ?_; rotate_left; · (intro w hSw; go_simp; (try with_reducible rfl)))
  (try simp only [Act.put, qI, qO, qU])
  (refine lk 18 35 ?_ ?_ ?_; rotate_left; · (intro w hSw; go_simp; (try with_reducible rfl)))
  (try simp only [Act.put, qI, qO, qU])
  (refine lk 19 36 ?_ ?_ ?_; rotate_left; · (intro w hSw; go_simp; (try with_reducible rfl)))
  (try simp only [Act.put, qI, qO, qU])
  (refine lk 20 37 ?_ ?_ ?_; rotate_left; · (intro w hSw; (try dsimp only at hSw); have c_ := wk4 hSw.1; go_simp; (try with_reducible rfl)))
  (try simp only [Act.put, qI, qO, qU])
  refine lrdy 21 fun K hK => ?_
  go_simp
  (go_at_call 40; refine (hP (HH.pick 6 rfl)).mono ?_; rintro e u1 ⟨rfl, HX⟩; clear HH; have HH := ((((((HX.pick 6 rfl).pick 6 rfl).pick 6 rfl).pick 6 rfl).pick 6 rfl).pick 6 rfl); clear HX)
  refine hK.out _ _ (fun _ => by (try dsimp only); exact ⟨(HH.pick 2 rfl).blk, (HH.pick 5 rfl).blk, HH.blk⟩) ?_
  clear hK K
  (try simp only [Act.put, qI, qO, qU])
  have hHeld := (show Blk _ xq 175 (wkC fq root page A cA P true e0 e1 e2 tv av) ∧ Blk _ fq 202 (flC gq mq q dd) ∧ Blk _ rb 54 #[.bool true, .bool e2.u, .bool !e2.n] from ⟨(HH.pick 2 rfl).blk, (HH.pick 5 rfl).blk, HH.blk⟩)
  (refine lk 22 39 ?_ ?_ ?_; rotate_left; · (intro w hSw; go_simp; (try with_reducible rfl)))
  (try simp only [Act.put, qI, qO, qU])
  (refine lk 23 40 ?_ ?_ ?_; rotate_left; · (intro w hSw; go_simp; (try with_reducible rfl)))
  (try simp only [Act.put, qI, qO, qU])
  refine lrdy 24 fun K hK => ?_
  go_simp
  refine hK.out _ _ (fun _ => by (try dsimp only); exact hHeld) ?_
  clear hK K
  (try simp only [Act.put, qI, qO, qU])
  have hHeld := hHeld
  have e0_ := HH.blk.cell 0; have f0_ := HH.blk.frozen 0
  simp only [qA, qZ] at e0_
  refine lrdy 25 fun K hK => ?_
  go_simp
  have HH3 := HH.cellSet 0 (.bool !pr)
  simp only [qI, qO] at HH3
  refine hK.out _ _ (fun e => absurd rfl e) ?_
  clear hK K
  (try simp only [Act.put, qI, qO, qU])
  refine late_done (by kernel_rfl) ?_ _
  refine NoPanic.normal ?_
  clear e0_ f0_ HH
  generalize World.setCell u1 ⟨rb, 0, none⟩ (.bool !pr) = w9 at *
  have r0_ := HH3.blk.cell 0; have r1_ := HH3.blk.cell 1; have r2_ := HH3.blk.cell 2
  simp only [qA, qZ, qS] at r0_ r1_ r2_
  have z0_ := (HH3.pick 1 rfl).blk.cell 0; have z1_ := (HH3.pick 1 rfl).blk.cell 1; have z2_ := (HH3.pick 1 rfl).blk.cell 2; have y0_ := (HH3.pick 1 rfl).blk.frozen 0; have y1_ := (HH3.pick 1 rfl).blk.frozen 1; have y2_ := (HH3.pick 1 rfl).blk.frozen 2
  simp only [qA, qZ, qS] at z0_ z1_ z2_
  have H5 := (HH3.pick 1 rfl).put3_ (.bool !pr) (.bool e2.u) (.bool !e2.n)
  go_wp2_with fail
  all_goals exact bodyPost_ret (cell_ret rfl H5.blk rfl Tryz.underlying54 rfl (by kernel_rfl)) rfl ⟨(by rw [← hR.out]; simp [leafW, ofE, Rg.cs, hpr.out, hlg.out, hw_.out]), H5.tail.tail⟩
 rw [hlg] at c8
 replace hlg := Lib.hid hlg
 go_upto_region 4 with fail
 generalize w2.alloc (.cells #[.bool true, .bool true, .bool true] 54) = w3 at *
 generalize w2.heap.size = rb at *
 have H3 := H2
 clear H2 c8 hO
 cases dirty
 ·skip
  have HH := H3.new (Chg.refl [] _).drew
  clear H3
  refine wp_region_noPanic ?_
  refine late_region (S := (fun w' => Blk w' xq 175 (wkC fq root page A cA P false e0 e1 e2 tv av) ∧ Blk w' fq 202 (flC gq mq q dd) ∧ Blk w' rb 54 #[.bool true, .bool true, .bool true])) (Z := 25) (by kernel_rfl) ⟨(HH.pick 2 rfl).blk, (HH.pick 5 rfl).blk, HH.blk⟩ (fun hHeld => ?_)
  generalize World.drew w3 = wd at *
  (refine lk 0 17 ?_ ?_ ?_; rotate_left; · (intro w hSw; go_simp; (try with_reducible rfl)))
  (try simp only [Act.put, qI, qO, qU])
  (refine lk 1 18 ?_ ?_ ?_; rotate_left; · (intro w hSw; (try dsimp only at hSw); have c_ := hSw.2.2.cell 0; simp only [qA, qZ] at c_; go_simp; (try with_reducible rfl)))
  (try simp only [Act.put, qI, qO, qU])
  (refine lk 2 19 ?_ ?_ ?_; rotate_left; · (intro w hSw; go_simp; (try with_reducible rfl)))
  (try simp only [Act.put, qI, qO, qU])
  (refine lk 3 20 ?_ ?_ ?_; rotate_left; · (intro w hSw; go_simp; (try with_reducible rfl)))
  (try simp only [Act.put, qI, qO, qU])
  (refine lk 4 21 ?_ ?_ ?_; rotate_left; · (intro w hSw; go_simp; (try with_reducible rfl)))
  (try simp only [Act.put, qI, qO, qU])
  (refine lk 5 22 ?_ ?_ ?_; rotate_left; · (intro w hSw; go_simp; (try with_reducible rfl)))
  (try simp only [Act.put, qI, qO, qU])
  (refine lk 6 23 ?_ ?_ ?_; rotate_left; · (intro w hSw; (try dsimp only at hSw); have c_ := wk10 hSw.1; go_simp; (try with_reducible rfl)))
  (try simp only [Act.put, qI, qO, qU])
  (refine lk 7 24 ?_ ?_ ?_; rotate_left; · (intro w hSw; go_simp; (try with_reducible rfl)))
  (try simp only [Act.put, qI, qO, qU])
  (refine lk 8 25 ?_ ?_ ?_; rotate_left; · (intro w hSw; go_simp; (try with_reducible rfl)))
  (try simp only [Act.put, qI, qO, qU])
  (refine late_off 9 (some 26) rfl rfl (by kernel_rfl) (by kernel_rfl) (by kernel_rfl) (by kernel_rfl) (fun _ _ _ h => h) (by rfl) (by assumption) ?_)
  (try simp only [Act.put, qI, qO, qU])
  (refine late_off 10 (some 27) rfl rfl (by kernel_rfl) (by kernel_rfl) (by kernel_rfl) (by kernel_rfl) (fun _ _ _ h => h) (by rfl) (by assumption) ?_)
  (try simp only [Act.put, qI, qO, qU])
  (refine late_off 11 (some 28) rfl rfl (by kernel_rfl) (by kernel_rfl) (by kernel_rfl) (by kernel_rfl) (fun _ _ _ h => h) (by rfl) (by assumption) ?_)
  (try simp only [Act.put, qI, qO, qU])
  (refine late_off 12 (some 29) rfl rfl (by kernel_rfl) (by kernel_rfl) (by kernel_rfl) (by kernel_rfl) (fun _ _ _ h => h) (by rfl) (by assumption) ?_)
  (try simp only [Act.put, qI, qO, qU])
  (refine late_off 13 (some 30) rfl rfl (by kernel_rfl) (by kernel_rfl) (by kernel_rfl) (by kernel_rfl) (fun _ _ _ h => h) (by rfl) (by assumption) ?_)
  (try simp only [Act.put, qI, qO, qU])
  (refine late_off 14 (some 31) rfl rfl (by kernel_rfl) (by kernel_rfl) (by kernel_rfl) (by kernel_rfl) (fun _ _ _ h => h) (by rfl) (by assumption) ?_)
  (try simp only [Act.put, qI, qO, qU])
  (refine late_off 15 (some 32) rfl rfl (by kernel_rfl) (by kernel_rfl) (by kernel_rfl) (by kernel_rfl) (fun _ _ _ h => h) (by rfl) (by assumption) ?_)
  (try simp only [Act.put, qI, qO, qU])
  (refine late_off 16 (some 33) rfl rfl (by kernel_rfl) (by kernel_rfl) (by kernel_rfl) (by kernel_rfl) (fun _ _ _ h => h) (by rfl) (by assumption) ?_)
  (try simp only [Act.put, qI, qO, qU])
  (refine late_off 17 (some 34) rfl rfl (by kernel_rfl) (by kernel_rfl) (by kernel_rfl) (by kernel_rfl) (fun _ _ _ h => h) (by rfl) (by assumption) ?_)
  (try simp only [Act.put, qI, qO, qU])
  (refine late_off 18 (some 35) rfl rfl (by kernel_rfl) (by kernel_rfl) (by kernel_rfl) (by kernel_rfl) (fun _ _ _ h => h) (by rfl) (by assumption) ?_)
  (try simp only [Act.put, qI, qO, qU])
  (refine late_off 19 (some 36) rfl rfl (by kernel_rfl) (by kernel_rfl) (by kernel_rfl) (by kernel_rfl) (fun _ _ _ h => h) (by rfl) (by assumption) ?_)
  (try simp only [Act.put, qI, qO, qU])
  (refine late_off 20 (some 37) rfl rfl (by kernel_rfl) (by kernel_rfl) (by kernel_rfl) (by kernel_rfl) (fun _ _ _ h => h) (by rfl) (by assumption) ?_)
  (try simp only [Act.put, qI, qO, qU])
  (refine late_off 21 (some 38) rfl rfl (by kernel_rfl) (by kernel_rfl) (by kernel_rfl) (by kernel_rfl) (fun _ _ _ h => h) (by rfl) (by assumption) ?_)
  (try simp only [Act.put, qI, qO, qU])
  (refine late_off 22 (some 39) rfl rfl (by kernel_rfl) (by kernel_rfl) (by kernel_rfl) (by kernel_rfl) (fun _ _ _ h => h) (by rfl) (by assumption) ?_)
  (try simp only [Act.put, qI, qO, qU])
  (refine lk 23 40 ?_ ?_ ?_; rotate_left; · (intro w hSw; go_simp; (try with_reducible rfl)))
  (try simp only [Act.put, qI, qO, qU])
  refine lrdy 24 fun K hK => ?_
  go_simp
  refine hK.out _ _ (fun _ => by (try dsimp only); exact hHeld) ?_
  clear hK K
  (try simp only [Act.put, qI, qO, qU])
  have hHeld := hHeld
  have e0_ := HH.blk.cell 0; have f0_ := HH.blk.frozen 0
  simp only [qA, qZ] at e0_
  refine lrdy 25 fun K hK => ?_
  go_simp
  have HH3 := HH.cellSet 0 (.bool false)
  simp only [qI, qO] at HH3
  refine hK.out _ _ (fun e => absurd rfl e) ?_
  clear hK K
  (try simp only [Act.put, qI, qO, qU])
  refine late_done (by kernel_rfl) ?_ _
  refine NoPanic.normal ?_
  clear e0_ f0_ HH
  generalize World.setCell wd ⟨rb, 0, none⟩ (.bool false) = w9 at *
  have r0_ := HH3.blk.cell 0; have r1_ := HH3.blk.cell 1; have r2_ := HH3.blk.cell 2
  simp only [qA, qZ, qS] at r0_ r1_ r2_
  have z0_ := (HH3.pick 1 rfl).blk.cell 0; have z1_ := (HH3.pick 1 rfl).blk.cell 1; have z2_ := (HH3.pick 1 rfl).blk.cell 2; have y0_ := (HH3.pick 1 rfl).blk.frozen 0; have y1_ := (HH3.pick 1 rfl).blk.frozen 1; have y2_ := (HH3.pick 1 rfl).blk.frozen 2
  simp only [qA, qZ, qS] at z0_ z1_ z2_
  have H5 := (HH3.pick 1 rfl).put3_ (.bool false) (.bool true) (.bool true)
  go_wp2_with fail
  all_goals exact bodyPost_ret (cell_ret rfl H5.blk rfl Tryz.underlying54 rfl (by kernel_rfl)) rfl ⟨(by rw [← hR.out]; simp [leafW, Rg.all, Rg.cs, hpr.out, hlg.out]), H5.tail.tail⟩
 skip
 have HH := H3.new (Chg.refl [] _).drew
 clear H3
 refine wp_region_noPanic ?_
 refine late_region (S := (fun w' => Blk w' xq 175 (wkC fq root page A cA P true e0 e1 e2 tv av) ∧ Blk w' fq 202 (flC gq mq q dd) ∧ Blk w' rb 54 #[.bool true, .bool true, .bool true])) (Z := 25) (by kernel_rfl) ⟨(HH.pick 2 rfl).blk, (HH.pick 5 rfl).blk, HH.blk⟩ (fun hHeld => ?_)
 generalize World.drew w3 = wd at *
 (refine lk 0 17 ?_ ?_ ?_; rotate_left; · (intro w hSw; go_simp; (try with_reducible rfl)))
 (try simp only [Act.put, qI, qO, qU])
 (refine lk 1 18 ?_ ?_ ?_; rotate_left; · (intro w hSw; (try dsimp only at hSw); have c_ := hSw.2.2.cell 0; simp only [qA, qZ] at c_; go_simp; (try with_reducible rfl)))
 (try simp only [Act.put, qI, qO, qU])
 (refine lk 2 19 ?_ ?_ ?_; rotate_left; · (intro w hSw; go_simp; (try with_reducible rfl)))
 (try simp only [Act.put, qI, qO, qU])
 (refine lk 3 20 ?_ ?_ ?_; rotate_left; · (intro w hSw; go_simp; (try with_reducible rfl)))
 (try simp only [Act.put, qI, qO, qU])
 (refine lk 4 21 ?_ ?_ ?_; rotate_left; · (intro w hSw; go_simp; (try with_reducible rfl)))
 (try simp only [Act.put, qI, qO, qU])
 (refine lk 5 22 ?_ ?_ ?_; rotate_left; · (intro w hSw; go_simp; (try with_reducible rfl)))
 (try simp only [Act.put, qI, qO, qU])
 (refine lk 6 23 ?_ ?_ ?_; rotate_left; · (intro w hSw; (try dsimp only at hSw); have c_ := wk10 hSw.1; go_simp; (try with_reducible rfl)))
 (try simp only [Act.put, qI, qO, qU])
 (refine lk 7 24 ?_ ?_ ?_; rotate_left; · (intro w hSw; go_simp; (try with_reducible rfl)))
 (try simp only [Act.put, qI, qO, qU])
 (refine lk 8 25 ?_ ?_ ?_; rotate_left; · (intro w hSw; go_simp; (try with_reducible rfl)))
 (try simp only [Act.put, qI, qO, qU])
 (refine lk 9 26 ?_ ?_ ?_; rotate_left; · (intro w hSw; go_simp; (try with_reducible rfl)))
 (try simp only [Act.put, qI, qO, qU])
 (refine lk 10 27 ?_ ?_ ?_; rotate_left; · (intro w hSw; go_simp; (try with_reducible rfl)))
 (try simp only [Act.put, qI, qO, qU])
 (refine lk 11 28 ?_ ?_ ?_; rotate_left; · (intro w hSw; go_simp; (try with_reducible rfl)))
 (try simp only [Act.put, qI, qO, qU])
 (refine lk 12 29 ?_ ?_ ?_; rotate_left; · (intro w hSw; (try dsimp only at hSw); have c_ := wk0 hSw.1; go_simp; (try with_reducible rfl)))
 (try simp only [Act.put, qI, qO, qU])
 (refine lk 13 30 ?_ ?_ ?_; rotate_left; · (intro w hSw; go_simp; (try with_reducible rfl)))
 (try simp only [Act.put, qI, qO, qU])
 (refine lk 14 31 ?_ ?_ ?_; rotate_left; · (intro w hSw; go_simp; (try with_reducible rfl)))
 (try simp only [Act.put, qI, qO, qU])
 (refine lk 15 32 ?_ ?_ ?_; rotate_left; · (intro w hSw; (try dsimp only at hSw); have c_ := fl_c hSw.2.1; go_simp; (try with_reducible rfl)))
 (try simp only [Act.put, qI, qO, qU])
 (refine lk 16 33 ?_ ?_ ?_; rotate_left; · (intro w hSw; go_simp; (try with_reducible rfl)))
 (try simp only [Act.put, qI, qO, qU])
 (refine lk 17 34 ?_ ?_ ?_; rotate_left; · (intro w hSw; go_simp; (try with_reducible rfl)))
 (try simp only [Act.put, qI, qO, qU])
 (refine lk 18 35 ?_ ?_ ?_; rotate_left; · (intro w hSw; go_simp; (try with_reducible rfl)))
 (try simp only [Act.put, qI, qO, qU])
 (refine lk 19 36 ?_ ?_ ?_; rotate_left; · (intro w hSw; go_simp; (try with_reducible rfl)))
 (try simp only [Act.put, qI, qO, qU])
 (refine lk 20 37 ?_ ?_ ?_; rotate_left; · (intro w hSw; (try dsimp only at hSw); have c_ := wk4 hSw.1; go_simp; (try with_reducible rfl)))
 (try simp only [Act.put, qI, qO, qU])
 refine lrdy 21 fun K hK => ?_
 go_simp
 (go_at_call 40; refine (hP (HH.pick 6 rfl)).mono ?_; rintro e u1 ⟨rfl, HX⟩; clear HH; have HH := ((((((HX.pick 6 rfl).pick 6 rfl).pick 6 rfl).pick 6 rfl).pick 6 rfl).pick 6 rfl); clear HX)
 refine hK.out _ _ (fun _ => by (try dsimp only); exact ⟨(HH.pick 2 rfl).blk, (HH.pick 5 rfl).blk, HH.blk⟩) ?_
 clear hK K
 (try simp only [Act.put, qI, qO, qU])
 have hHeld := (show Blk _ xq 175 (wkC fq root page A cA P true e0 e1 e2 tv av) ∧ Blk _ fq 202 (flC gq mq q dd) ∧ Blk _ rb 54 #[.bool true, .bool true, .bool true] from ⟨(HH.pick 2 rfl).blk, (HH.pick 5 rfl).blk, HH.blk⟩)
 (refine lk 22 39 ?_ ?_ ?_; rotate_left; · (intro w hSw; go_simp; (try with_reducible rfl)))
 (try simp only [Act.put, qI, qO, qU])
 (refine lk 23 40 ?_ ?_ ?_; rotate_left; · (intro w hSw; go_simp; (try with_reducible rfl)))
 (try simp only [Act.put, qI, qO, qU])
 refine lrdy 24 fun K hK => ?_
 go_simp
 refine hK.out _ _ (fun _ => by (try dsimp only); exact hHeld) ?_
 clear hK K
 (try simp only [Act.put, qI, qO, qU])
 have hHeld := hHeld
 have e0_ := HH.blk.cell 0; have f0_ := HH.blk.frozen 0
 simp only [qA, qZ] at e0_
 refine lrdy 25 fun K hK => ?_
 go_simp
 have HH3 := HH.cellSet 0 (.bool !pr)
 simp only [qI, qO] at HH3
 refine hK.out _ _ (fun e => absurd rfl e) ?_
 clear hK K
 (try simp only [Act.put, qI, qO, qU])
 refine late_done (by kernel_rfl) ?_ _
 refine NoPanic.normal ?_
 clear e0_ f0_ HH
 generalize World.setCell u1 ⟨rb, 0, none⟩ (.bool !pr) = w9 at *
 have r0_ := HH3.blk.cell 0; have r1_ := HH3.blk.cell 1; have r2_ := HH3.blk.cell 2
 simp only [qA, qZ, qS] at r0_ r1_ r2_
 have z0_ := (HH3.pick 1 rfl).blk.cell 0; have z1_ := (HH3.pick 1 rfl).blk.cell 1; have z2_ := (HH3.pick 1 rfl).blk.cell 2; have y0_ := (HH3.pick 1 rfl).blk.frozen 0; have y1_ := (HH3.pick 1 rfl).blk.frozen 1; have y2_ := (HH3.pick 1 rfl).blk.frozen 2
 simp only [qA, qZ, qS] at z0_ z1_ z2_
 have H5 := (HH3.pick 1 rfl).put3_ (.bool !pr) (.bool true) (.bool true)
 go_wp2_with fail
 all_goals exact bodyPost_ret (cell_ret rfl H5.blk rfl Tryz.underlying54 rfl (by kernel_rfl)) rfl ⟨(by rw [← hR.out]; simp [leafW, Rg.all, Rg.cs, hpr.out, hlg.out]), H5.tail.tail⟩
end
end Go.Proofs.YtmbgepafpcbakaaGreatDoor
