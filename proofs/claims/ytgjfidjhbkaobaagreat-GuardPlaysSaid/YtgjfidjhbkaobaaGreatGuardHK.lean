/-
 The live question of the laws of guard.
-/
import Derived.Test.YtgjfidjhbkaobaaGreatGuardAK
import Derived.Test.YtgjfidjhbkaobaaGreatSameIK
namespace Go.Proofs.YtgjfidjhbkaobaaGreat
open Go.RowKit Go.Maps
theorem SlP.lit2 {w : World} {g : Nat} {t : TypeId} (a b : Pu) (hb : Blk w g t #[.int .i64 a.g, .int .i64 a.i, .int .u64 a.v, .int .i64 b.g, .int .i64 b.i, .int .u64 b.v]) (h : ∀ x ∈ [a, b], 0 ≤ x.v ∧ x.v < 18446744073709551616) : SlP w (some ⟨g, 0, none⟩) 2 [a, b] := by
 refine ⟨by decide, rfl, h, fun _ => ⟨g, 0, rfl, hb.lt, fun j x hj => ?_⟩⟩
 match j, hj with
 | 0, hj => cases hj; exact ⟨hb.cell 0, hb.cell 1, hb.cell 2⟩
 | 1, hj => cases hj; exact ⟨hb.cell 3, hb.cell 4, hb.cell 5⟩
def ghP : List Pu := [⟨3, 0, 36903⟩, ⟨3, 1, 40999⟩]
def hg0 : Gd := gd0 (madeG ghP)
def hg1 : Gd := makeG 40 gl16 hg0 ⟨1, 3, 0⟩
def hg2 : Gd := makeG 40 gl16 hg1 ⟨2, 2, 0⟩
def hg3 : Gd := makeG 40 gl16 hg2 ⟨3, 1, 0⟩
def hg4 : Gd := ⟨childS 40 hg3.s 4 0 5 ⟨true, true, true⟩, hg3.T, hg3.l⟩
def hg5 : Gd := ⟨childS 40 hg4.s 5 2 6 ⟨true, true, true⟩, hg4.T, hg4.l⟩
def hg6 : Gd := ⟨leafS 40 hg5.s 6 0 9 33 ⟨false, true, true⟩, hg5.T, hg5.l⟩
def hg7 : Gd := ⟨leafS 40 hg6.s 6 1 9 33 ⟨false, true, true⟩, hg6.T, hg6.l⟩
def hg8 : Gd := ⟨leafS 40 hg7.s 6 2 3 27 ⟨true, false, false⟩, hg7.T, hg7.l⟩
def hg9 : Gd := loosenG hg8 3
def hg10 : Gd := loosenG hg9 1
def hg11 : Gd := lookG 40 gl16 hg10 3
def hg12 : Gd := dropG hg11 6
set_option maxRecDepth 100000 in
set_option maxHeartbeats 8000000 in
theorem GHead_any (w : World) : Calls Tryz.prog 4 #[] w fun e w' => e = .returned (.bool true) ∧ Chg [] w w' := by
 have c1 := fun {z : World} {l_ : List Th} {dd gq mp q hp hb t : Nat} (H : SepC w z (gdT dd gq mp q hp hb t 40 4 8 8 gl16 (hg0) :: l_)) => H.kMake ⟨1, 3, 0⟩
 have ec10 : makeGV 40 gl16 hg0 ⟨1, 3, 0⟩ = 4 := by kernel_rfl
 have ec11 : makeGB 40 gl16 hg0 ⟨1, 3, 0⟩ = true := by kernel_rfl
 simp only [ec10, ec11, Ky.cs] at c1
 clear ec10 ec11
 have c2 := fun {z : World} {l_ : List Th} {dd gq mp q hp hb t : Nat} (H : SepC w z (gdT dd gq mp q hp hb t 40 4 8 8 gl16 (hg1) :: l_)) => H.kMake ⟨2, 2, 0⟩
 have ec20 : makeGV 40 gl16 hg1 ⟨2, 2, 0⟩ = 5 := by kernel_rfl
 have ec21 : makeGB 40 gl16 hg1 ⟨2, 2, 0⟩ = true := by kernel_rfl
 simp only [ec20, ec21, Ky.cs] at c2
 clear ec20 ec21
 have c3 := fun {z : World} {l_ : List Th} {dd gq mp q hp hb t : Nat} (H : SepC w z (gdT dd gq mp q hp hb t 40 4 8 8 gl16 (hg2) :: l_)) => H.kMake ⟨3, 1, 0⟩
 have ec30 : makeGV 40 gl16 hg2 ⟨3, 1, 0⟩ = 6 := by kernel_rfl
 have ec31 : makeGB 40 gl16 hg2 ⟨3, 1, 0⟩ = true := by kernel_rfl
 simp only [ec30, ec31, Ky.cs] at c3
 clear ec30 ec31
 have c4 := fun {z : World} {l_ : List Th} {dd gq mp q hp hb t : Nat} (H : SepC w z (gdT dd gq mp q hp hb t 40 4 8 8 gl16 (hg3) :: l_)) => H.kChild 4 0 5 ⟨true, true, true⟩ (by unfold i64B; omega) (by unfold i64B; omega)
 have ec40 : childB hg3.s 4 0 5 = true := by kernel_rfl
 simp only [ec40, Rg.cs] at c4
 clear ec40
 have c5 := fun {z : World} {l_ : List Th} {dd gq mp q hp hb t : Nat} (H : SepC w z (gdT dd gq mp q hp hb t 40 4 8 8 gl16 (hg4) :: l_)) => H.kChild 5 2 6 ⟨true, true, true⟩ (by unfold i64B; omega) (by unfold i64B; omega)
 have ec50 : childB hg4.s 5 2 6 = true := by kernel_rfl
 simp only [ec50, Rg.cs] at c5
 clear ec50
 have c6 := fun {z : World} {l_ : List Th} {dd gq mp q hp hb t : Nat} (H : SepC w z (gdT dd gq mp q hp hb t 40 4 8 8 gl16 (hg5) :: l_)) => H.kLeaf 6 0 9 33 ⟨false, true, true⟩ (by unfold i64B; omega)
 have ec60 : leafB 40 hg5.s 6 0 33 = true := by kernel_rfl
 simp only [ec60, Rg.cs] at c6
 clear ec60
 have c7 := fun {z : World} {l_ : List Th} {dd gq mp q hp hb t : Nat} (H : SepC w z (gdT dd gq mp q hp hb t 40 4 8 8 gl16 (hg6) :: l_)) => H.kLeaf 6 1 9 33 ⟨false, true, true⟩ (by unfold i64B; omega)
 have ec70 : leafB 40 hg6.s 6 1 33 = true := by kernel_rfl
 simp only [ec70, Rg.cs] at c7
 clear ec70
 have c8 := fun {z : World} {l_ : List Th} {dd gq mp q hp hb t : Nat} (H : SepC w z (gdT dd gq mp q hp hb t 40 4 8 8 gl16 (hg7) :: l_)) => H.kLeaf 6 2 3 27 ⟨true, false, false⟩ (by unfold i64B; omega)
 have ec80 : leafB 40 hg7.s 6 2 27 = true := by kernel_rfl
 simp only [ec80, Rg.cs] at c8
 clear ec80
 have c9 := fun {z : World} {l_ : List Th} {dd gq mp q hp hb t : Nat} (H : SepC w z (gdT dd gq mp q hp hb t 40 4 8 8 gl16 (hg8) :: l_)) => H.kReach 1 6 1
 have ec90 : reachP hg8.s.L 1 6 1 = [17] := by kernel_rfl
 simp only [ec90, List.length_cons, List.length_nil, Nat.zero_add] at c9
 clear ec90
 have c10 := fun {z : World} {l_ : List Th} {dd gq mp q hp hb t : Nat} (H : SepC w z (gdT dd gq mp q hp hb t 40 4 8 8 gl16 (hg8) :: l_)) => H.kProt 3
 have ec100 : protB hg8 3 = true := by kernel_rfl
 simp only [ec100] at c10
 clear ec100
 have c11 := fun {z : World} {l_ : List Th} {dd gq mp q hp hb t : Nat} (H : SepC w z (gdT dd gq mp q hp hb t 40 4 8 8 gl16 (hg8) :: l_)) => H.kLoosen 3 (by unfold i64B; omega)
 have ec110 : loosenB hg8 3 = true := by kernel_rfl
 simp only [ec110] at c11
 clear ec110
 have c12 := fun {z : World} {l_ : List Th} {dd gq mp q hp hb t : Nat} (H : SepC w z (gdT dd gq mp q hp hb t 40 4 8 8 gl16 (hg9) :: l_)) => H.kLoosen 1 (by unfold i64B; omega)
 have ec120 : loosenB hg9 1 = false := by kernel_rfl
 simp only [ec120] at c12
 clear ec120
 have c13 := fun {z : World} {l_ : List Th} {dd gq mp q hp hb t : Nat} (H : SepC w z (gdT dd gq mp q hp hb t 40 4 8 8 gl16 (hg10) :: l_)) => H.kProt 3
 have ec130 : protB hg10 3 = false := by kernel_rfl
 simp only [ec130] at c13
 clear ec130
 have c14 := fun {z : World} {l_ : List Th} {dd gq mp q hp hb t : Nat} (H : SepC w z (gdT dd gq mp q hp hb t 40 4 8 8 gl16 (hg10) :: l_)) => H.kLook 3
 have ec140 : looseB hg10 3 = true := by kernel_rfl
 simp only [ec140] at c14
 clear ec140
 have c15 := fun {z : World} {l_ : List Th} {dd gq mp q hp hb t : Nat} (H : SepC w z (gdT dd gq mp q hp hb t 40 4 8 8 gl16 (hg11) :: l_)) => H.kSlot 6 0 (by unfold i64B; omega)
 have ec150 : slotV hg11.s.L 6 0 = ⟨2, 9, ⟨false, true, true⟩⟩ := by kernel_rfl
 have ec151 : (slotP hg11.s.L 6 0).isSome = true := by kernel_rfl
 simp only [ec150, ec151, Slt.cl] at c15
 clear ec150 ec151
 have c16 := fun {z : World} {l_ : List Th} {dd gq mp q hp hb t : Nat} (H : SepC w z (gdT dd gq mp q hp hb t 40 4 8 8 gl16 (hg11) :: l_)) => H.kSlot 6 1 (by unfold i64B; omega)
 have ec160 : slotV hg11.s.L 6 1 = ⟨0, 0, ⟨false, false, false⟩⟩ := by kernel_rfl
 have ec161 : (slotP hg11.s.L 6 1).isSome = true := by kernel_rfl
 simp only [ec160, ec161, Slt.cl] at c16
 clear ec160 ec161
 have c17 := fun {z : World} {l_ : List Th} {dd gq mp q hp hb t : Nat} (H : SepC w z (gdT dd gq mp q hp hb t 40 4 8 8 gl16 (hg11) :: l_)) => H.kSlot 6 2 (by unfold i64B; omega)
 have ec170 : slotV hg11.s.L 6 2 = ⟨0, 0, ⟨false, false, false⟩⟩ := by kernel_rfl
 have ec171 : (slotP hg11.s.L 6 2).isSome = true := by kernel_rfl
 simp only [ec170, ec171, Slt.cl] at c17
 clear ec170 ec171
 have c19 := fun {z : World} {l_ : List Th} {dd gq mp q hp hb t : Nat} (H : SepC w z (gdT dd gq mp q hp hb t 40 4 8 8 gl16 (hg11) :: l_)) => H.kProt 3
 have ec190 : protB hg11 3 = true := by kernel_rfl
 simp only [ec190] at c19
 clear ec190
 have c20 := fun {z : World} {l_ : List Th} {dd gq mp q hp hb t : Nat} (H : SepC w z (gdT dd gq mp q hp hb t 40 4 8 8 gl16 (hg11) :: l_)) => H.kList
 have ec200 : hg11.l = [] := by kernel_rfl
 simp only [ec200, List.length_nil] at c20
 clear ec200
 have c21 := fun {z : World} {l_ : List Th} {dd gq mp q hp hb t : Nat} (H : SepC w z (gdT dd gq mp q hp hb t 40 4 8 8 gl16 (hg11) :: l_)) => H.kReach 1 4 1
 have ec210 : (reachP hg11.s.L 1 4 1).length = 64 := by kernel_rfl
 simp only [ec210] at c21
 clear ec210
 have c22 := fun {z : World} {l_ : List Th} {dd gq mp q hp hb t : Nat} (H : SepC w z (gdT dd gq mp q hp hb t 40 4 8 8 gl16 (hg11) :: l_)) => H.kDrop 6 (by unfold i64B; omega)
 have ec220 : dropB hg11.s 6 = true := by kernel_rfl
 simp only [ec220] at c22
 clear ec220
 have c23 := fun {z : World} {l_ : List Th} {dd gq mp q hp hb t : Nat} (H : SepC w z (gdT dd gq mp q hp hb t 40 4 8 8 gl16 (hg12) :: l_)) => H.kProt 3
 have ec230 : protB hg12 3 = false := by kernel_rfl
 simp only [ec230] at c23
 clear ec230
 have hMd := fun (g : Nat) w' (hb : Blk w' g 67 #[.int .i64 3, .int .i64 0, .int .u64 36903, .int .i64 3, .int .i64 1, .int .u64 40999]) => Made16_at (A := some ⟨g, 0, none⟩) (n := 2) (c := 2) (P := ghP) (SlP.lit2 _ _ hb (by decide))
 have b0 := Blk.new w 67 #[.int .i64 3, .int .i64 0, .int .u64 36903, .int .i64 3, .int .i64 1, .int .u64 40999]
 have H0 := (SepC.nil w).alloc #[.int .i64 3, .int .i64 0, .int .u64 36903, .int .i64 3, .int .i64 1, .int .u64 40999] 67
 have hw17 : ∀ x ∈ ([17] : List Int), IntKind.i64.min ≤ x ∧ x ≤ IntKind.i64.max := by decide
 go_enter Tryz.func4, Tryz.ntmps4
 go_wp2_with fail
 refine (hMd _ _ b0).mono ?_; intro e z0 hMP
 unfold MadeP16 at hMP
 obtain ⟨wb, dd, gq, mp, q, hp, hb, t, rfl, HM⟩ := hMP
 clear hMd b0
 have H : SepC w z0 (gdT dd gq mp q hp hb t 40 4 8 8 gl16 (hg0) :: blkT wb 46 (wdC hp gq q t dd) :: blkT w.heap.size 67 #[.int .i64 3, .int .i64 0, .int .u64 36903, .int .i64 3, .int .i64 1, .int .u64 40999] :: []) := H0.merge HM
 clear H0 HM
 have w_ := (H.pick 1 rfl).blk.cell 4
 unfold wdC at w_
 simp only [qA, qZ, qS] at w_
 go_wp2_with fail
 refine (c1 H).mono ?_; rintro e z1 ⟨rfl, H_⟩
 change SepC w _ (gdT dd gq mp q hp hb t 40 4 8 8 gl16 (hg1) :: _) at H_
 clear c1 H w_
 have H := H_
 clear H_
 have w_ := (H.pick 1 rfl).blk.cell 4
 unfold wdC at w_
 simp only [qA, qZ, qS] at w_
 go_wp2_with fail
 refine (c2 H).mono ?_; rintro e z2 ⟨rfl, H_⟩
 change SepC w _ (gdT dd gq mp q hp hb t 40 4 8 8 gl16 (hg2) :: _) at H_
 clear c2 H w_
 have H := H_
 clear H_
 have w_ := (H.pick 1 rfl).blk.cell 4
 unfold wdC at w_
 simp only [qA, qZ, qS] at w_
 go_wp2_with fail
 refine (c3 H).mono ?_; rintro e z3 ⟨rfl, H_⟩
 change SepC w _ (gdT dd gq mp q hp hb t 40 4 8 8 gl16 (hg3) :: _) at H_
 clear c3 H w_
 have H := H_
 clear H_
 have w_ := (H.pick 1 rfl).blk.cell 2
 unfold wdC at w_
 simp only [qA, qZ, qS] at w_
 go_wp2_with fail
 refine (c4 H).mono ?_; rintro e z4 ⟨rfl, H_⟩
 change SepC w _ (gdT dd gq mp q hp hb t 40 4 8 8 gl16 (hg4) :: _) at H_
 clear c4 H w_
 have H := H_
 clear H_
 have w_ := (H.pick 1 rfl).blk.cell 2
 unfold wdC at w_
 simp only [qA, qZ, qS] at w_
 go_wp2_with fail
 refine (c5 H).mono ?_; rintro e z5 ⟨rfl, H_⟩
 change SepC w _ (gdT dd gq mp q hp hb t 40 4 8 8 gl16 (hg5) :: _) at H_
 clear c5 H w_
 have H := H_
 clear H_
 have w_ := (H.pick 1 rfl).blk.cell 2
 unfold wdC at w_
 simp only [qA, qZ, qS] at w_
 go_wp2_with fail
 refine (c6 H).mono ?_; rintro e z6 ⟨rfl, H_⟩
 change SepC w _ (gdT dd gq mp q hp hb t 40 4 8 8 gl16 (hg6) :: _) at H_
 clear c6 H w_
 have H := H_
 clear H_
 have w_ := (H.pick 1 rfl).blk.cell 2
 unfold wdC at w_
 simp only [qA, qZ, qS] at w_
 go_wp2_with fail
 refine (c7 H).mono ?_; rintro e z7 ⟨rfl, H_⟩
 change SepC w _ (gdT dd gq mp q hp hb t 40 4 8 8 gl16 (hg7) :: _) at H_
 clear c7 H w_
 have H := H_
 clear H_
 have w_ := (H.pick 1 rfl).blk.cell 2
 unfold wdC at w_
 simp only [qA, qZ, qS] at w_
 go_wp2_with fail
 refine (c8 H).mono ?_; rintro e z8 ⟨rfl, H_⟩
 change SepC w _ (gdT dd gq mp q hp hb t 40 4 8 8 gl16 (hg8) :: _) at H_
 clear c8 H w_
 have H := H_
 clear H_
 have w_ := (H.pick 1 rfl).blk.cell 4
 unfold wdC at w_
 simp only [qA, qZ, qS] at w_
 go_wp2_with fail
 refine (c9 H).mono ?_; rintro e z9 ⟨A1, c1_, rfl, H_⟩
 clear c9 H w_
 have H := (H_.pick 2 rfl).pick 2 rfl
 clear H_
 have w_ := (H.pick 1 rfl).blk.cell 4
 unfold wdC at w_
 simp only [qA, qZ, qS] at w_
 go_wp2_with fail
 refine (c10 H).mono ?_; rintro e z10 ⟨rfl, H_⟩
 change SepC w _ (gdT dd gq mp q hp hb t 40 4 8 8 gl16 (hg8) :: _) at H_
 clear c10 H w_
 have H := H_
 clear H_
 have w_ := (H.pick 1 rfl).blk.cell 4
 unfold wdC at w_
 simp only [qA, qZ, qS] at w_
 go_wp2_with fail
 refine (c11 H).mono ?_; rintro e z11 ⟨rfl, H_⟩
 change SepC w _ (gdT dd gq mp q hp hb t 40 4 8 8 gl16 (hg9) :: _) at H_
 clear c11 H w_
 have H := H_
 clear H_
 have w_ := (H.pick 1 rfl).blk.cell 4
 unfold wdC at w_
 simp only [qA, qZ, qS] at w_
 go_wp2_with fail
 refine (c12 H).mono ?_; rintro e z12 ⟨rfl, H_⟩
 change SepC w _ (gdT dd gq mp q hp hb t 40 4 8 8 gl16 (hg10) :: _) at H_
 clear c12 H w_
 have H := H_
 clear H_
 have w_ := (H.pick 1 rfl).blk.cell 4
 unfold wdC at w_
 simp only [qA, qZ, qS] at w_
 go_wp2_with fail
 refine (c13 H).mono ?_; rintro e z13 ⟨rfl, H_⟩
 change SepC w _ (gdT dd gq mp q hp hb t 40 4 8 8 gl16 (hg10) :: _) at H_
 clear c13 H w_
 have H := H_
 clear H_
 have w_ := (H.pick 1 rfl).blk.cell 4
 unfold wdC at w_
 simp only [qA, qZ, qS] at w_
 go_wp2_with fail
 refine (c14 H).mono ?_; rintro e z14 ⟨rfl, H_⟩
 change SepC w _ (gdT dd gq mp q hp hb t 40 4 8 8 gl16 (hg11) :: _) at H_
 clear c14 H w_
 have H := H_
 clear H_
 have w_ := (H.pick 1 rfl).blk.cell 2
 unfold wdC at w_
 simp only [qA, qZ, qS] at w_
 go_wp2_with fail
 refine (c15 H).mono ?_; rintro e z15a ⟨rfl, y_⟩
 have HX := (H.new y_).alloc #[.int .i64 2, .int .i64 9, .bool false, .bool true, .bool true] 72
 clear c15 H w_ y_
 have H := (HX.pick 2 rfl).pick 2 rfl
 clear HX
 have w_ := (H.pick 1 rfl).blk.cell 2
 unfold wdC at w_
 simp only [qA, qZ, qS] at w_
 go_wp2_with fail
 generalize z15a.alloc (.cells #[.int .i64 2, .int .i64 9, .bool false, .bool true, .bool true] 72) = z15 at *
 generalize z15a.heap.size = gz15 at *
 refine (c16 H).mono ?_; rintro e z16a ⟨rfl, y_⟩
 have HX := (H.new y_).alloc #[.int .i64 0, .int .i64 0, .bool false, .bool false, .bool false] 72
 clear c16 H w_ y_
 have H := (HX.pick 2 rfl).pick 2 rfl
 clear HX
 have w_ := (H.pick 1 rfl).blk.cell 2
 unfold wdC at w_
 simp only [qA, qZ, qS] at w_
 go_wp2_with fail
 generalize z16a.alloc (.cells #[.int .i64 0, .int .i64 0, .bool false, .bool false, .bool false] 72) = z16 at *
 generalize z16a.heap.size = gz16 at *
 refine (c17 H).mono ?_; rintro e z17a ⟨rfl, y_⟩
 have HX := (H.new y_).alloc #[.int .i64 0, .int .i64 0, .bool false, .bool false, .bool false] 72
 clear c17 H w_ y_
 have H := (HX.pick 2 rfl).pick 2 rfl
 clear HX
 have w_ := (H.pick 1 rfl).blk.cell 4
 unfold wdC at w_
 simp only [qA, qZ, qS] at w_
 have hsz : (z17a.alloc (.cells #[.int .i64 0, .int .i64 0, .bool false, .bool false, .bool false] 72)).heap.size = z17a.heap.size + 1 := by simp
 go_wp2_with fail
 generalize z17a.alloc (.cells #[.int .i64 0, .int .i64 0, .bool false, .bool false, .bool false] 72) = z17 at *
 generalize z17a.heap.size = gz17 at *
 have HS := H.allocN hsz #[.int .i64 17] 3
 have hb17 := HS.blk
 clear hsz
 refine (SameI_is A1 1 c1_ [17] _ 1 1 [17] true _ ((ownI_G.2 (HS.pick 6 rfl).own).slk hw17 (by simp)) ((ownI_G.2 (OwnG.lit (E := numE .i64) (L := [17]) hb17 (by simp))).slk hw17 (by simp)) (by decide)).mono ?_; rintro e zs ⟨rfl, ys⟩
 replace H := (HS.new ys).tail
 clear HS ys hb17 w_
 have w_ := (H.pick 1 rfl).blk.cell 4
 unfold wdC at w_
 simp only [qA, qZ, qS] at w_
 have s0_ := (H.pick 4 rfl).blk.cell 0
 have s1_ := (H.pick 3 rfl).blk.cell 0
 have s2_ := (H.pick 2 rfl).blk.cell 0
 simp only [qA, qZ] at s0_ s1_ s2_
 go_wp2_with fail
 refine (c19 H).mono ?_; rintro e z18 ⟨rfl, H_⟩
 clear c19 H w_ s0_ s1_ s2_
 have H := H_
 clear H_
 have w_ := (H.pick 1 rfl).blk.cell 4
 unfold wdC at w_
 simp only [qA, qZ, qS] at w_
 go_wp2_with fail
 refine (c20 H).mono ?_; rintro e z19 ⟨A19, c19_, rfl, H_⟩
 clear c20 H w_
 have H := H_.tail
 clear H_
 have w_ := (H.pick 1 rfl).blk.cell 4
 unfold wdC at w_
 simp only [qA, qZ, qS] at w_
 go_wp2_with fail
 refine (c21 H).mono ?_; rintro e z20 ⟨A20, c20_, rfl, H_⟩
 clear c21 H w_
 have H := H_.tail
 clear H_
 have w_ := (H.pick 1 rfl).blk.cell 4
 unfold wdC at w_
 simp only [qA, qZ, qS] at w_
 go_wp2_with fail
 refine (c22 H).mono ?_; rintro e z21 ⟨rfl, H_⟩
 change SepC w _ (gdT dd gq mp q hp hb t 40 4 8 8 gl16 (hg12) :: _) at H_
 clear c22 H w_
 have H := H_
 clear H_
 have w_ := (H.pick 1 rfl).blk.cell 4
 unfold wdC at w_
 simp only [qA, qZ, qS] at w_
 go_wp2_with fail
 refine (c23 H).mono ?_; rintro e z22 ⟨rfl, H_⟩
 change SepC w _ (gdT dd gq mp q hp hb t 40 4 8 8 gl16 (hg12) :: _) at H_
 clear c23 H w_
 have H := H_
 clear H_
 go_wp2_with fail
 go_ret
 exact ⟨rfl, H.1⟩
end Go.Proofs.YtgjfidjhbkaobaaGreat
