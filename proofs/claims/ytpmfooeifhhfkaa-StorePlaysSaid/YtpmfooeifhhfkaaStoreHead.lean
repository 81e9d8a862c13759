/-
  The live question 'head' of the laws of stores.
-/
import Derived.Test.YtpmfooeifhhfkaaStoreO
namespace Go.Proofs.Ytpmfooeifhhfkaa
open Go.RowKit Go.Maps

def hd0 : Sr := ⟨[], dnk 4 3, zeros 128⟩
def hd1 : Sr := makeS 16 hd0 ⟨9, 2, 0⟩
def hd2 : Sr := makeS 16 hd1 ⟨5, 1, 0⟩
def hd3 : Sr := makeS 16 hd2 ⟨5, 1, 0⟩
def hd4 : Sr := makeS 16 hd3 ⟨5, 2, 1⟩
def hd5 : Sr := childS 16 hd4 4 3 5 ⟨true, false, true⟩
def hd6 : Sr := leafS 16 hd5 5 0 7 12 ⟨false, true, false⟩
def hd7 : Sr := childS 16 hd6 5 3 4 ⟨false, false, false⟩
def hd8 : Sr := leafS 16 hd7 4 3 7 12 ⟨false, false, false⟩
def hd9 : Sr := dropS hd8 5

set_option maxRecDepth 100000 in
set_option maxHeartbeats 8000000 in
theorem SThead_any (w : World) : Calls Try.prog 10 #[] w fun e w' => e = .returned (.bool true) ∧ Chg [] w w' := by
  have hNew := New_at 16 w (by omega) (by omega)
  have hN1 := fun {w : World} {l : List Th} {hp hb : Nat} (H : SepC w w (hoT hp hb 16 (zeros (8 * 16)) :: l)) => H
  clear hN1
  have v1 : makeV hd0 ⟨9, 2, 0⟩ = 4 := by kernel_rfl
  have t1 : makeB hd0 ⟨9, 2, 0⟩ = true := by kernel_rfl
  have v2 : makeV hd1 ⟨5, 1, 0⟩ = 5 := by kernel_rfl
  have t2 : makeB hd1 ⟨5, 1, 0⟩ = true := by kernel_rfl
  have v3 : makeV hd2 ⟨5, 1, 0⟩ = 0 := by kernel_rfl
  have t3 : makeB hd2 ⟨5, 1, 0⟩ = false := by kernel_rfl
  have v4 : makeV hd3 ⟨5, 2, 1⟩ = 0 := by kernel_rfl
  have t4 : makeB hd3 ⟨5, 2, 1⟩ = false := by kernel_rfl
  have t5 : childB hd4 4 3 5 = true := by kernel_rfl
  have t6 : leafB 16 hd5 5 0 12 = true := by kernel_rfl
  have t7 : childB hd6 5 3 4 = false := by kernel_rfl
  have t8 : leafB 16 hd7 4 3 12 = false := by kernel_rfl
  have g1 : getW 16 hd8.W 4 3 = 20483 := by kernel_rfl
  have g2 : getW 16 hd8.W 5 0 = 9223372036854824965 := by kernel_rfl
  have w1 : hasW 16 4 3 = true := by kernel_rfl
  have w2 : hasW 16 5 0 = true := by kernel_rfl
  have p1 : toldP 1 5 hd8.L = [(4, 3)] := by kernel_rfl
  have p2 : toldP 2 7 hd8.L = [(5, 0)] := by kernel_rfl
  have t9 : dropB hd8 5 = true := by kernel_rfl
  have s1 : slotV hd9.L 4 3 = Slt.no := by kernel_rfl
  have s2 : (slotP hd9.L 4 3).isSome = true := by kernel_rfl
  have l1 : hd9.fr.length = 2 := by kernel_rfl
  have a1 : hd9.L.map Pg.f = [4] := by kernel_rfl
  have d1 : decide (([(4, 3)] : List (Int × Int)) = [(4, 3)]) = true := by decide
  have d2 : decide (([(5, 0)] : List (Int × Int)) = [(5, 0)]) = true := by decide
  have d3 : decide (([4] : List Int) = [4]) = true := by decide
  have e0 : SepC w w [] := SepC.nil w
  have hsl := run_eqSl Slt.no Slt.no
  rw [decide_eq_true (rfl : Slt.no = Slt.no)] at hsl
  simp only [Slt.cl, Slt.no] at hsl
  have cM1 := fun {w' : World} {l : List Th} {q hp hb : Nat} (H : SepC w w' (stT q hp hb 16 4 3 hd0 :: l)) => H.sMake ⟨9, 2, 0⟩
  rw [v1, t1] at cM1
  have cM2 := fun {w' : World} {l : List Th} {q hp hb : Nat} (H : SepC w w' (stT q hp hb 16 4 3 hd1 :: l)) => H.sMake ⟨5, 1, 0⟩
  rw [v2, t2] at cM2
  have cM3 := fun {w' : World} {l : List Th} {q hp hb : Nat} (H : SepC w w' (stT q hp hb 16 4 3 hd2 :: l)) => H.sMake ⟨5, 1, 0⟩
  rw [v3, t3] at cM3
  have cM4 := fun {w' : World} {l : List Th} {q hp hb : Nat} (H : SepC w w' (stT q hp hb 16 4 3 hd3 :: l)) => H.sMake ⟨5, 2, 1⟩
  rw [v4, t4] at cM4
  have cC5 := fun {w' : World} {l : List Th} {q hp hb : Nat} (H : SepC w w' (stT q hp hb 16 4 3 hd4 :: l)) => H.sChild 4 3 5 ⟨true, false, true⟩ (by omega) (by omega)
  rw [t5] at cC5
  have cL6 := fun {w' : World} {l : List Th} {q hp hb : Nat} (H : SepC w w' (stT q hp hb 16 4 3 hd5 :: l)) => H.sLeaf 5 0 7 12 ⟨false, true, false⟩ (by omega)
  rw [t6] at cL6
  have cC7 := fun {w' : World} {l : List Th} {q hp hb : Nat} (H : SepC w w' (stT q hp hb 16 4 3 hd6 :: l)) => H.sChild 5 3 4 ⟨false, false, false⟩ (by omega) (by omega)
  rw [t7] at cC7
  have cL8 := fun {w' : World} {l : List Th} {q hp hb : Nat} (H : SepC w w' (stT q hp hb 16 4 3 hd7 :: l)) => H.sLeaf 4 3 7 12 ⟨false, false, false⟩ (by omega)
  rw [t8] at cL8
  have cG1 := fun {w' : World} {l : List Th} {q hp hb : Nat} (H : SepC w w' (stT q hp hb 16 4 3 hd8 :: l)) => Get_at hp hb 16 hd8.W 4 3 w' H.smem
  rw [g1, w1] at cG1
  have cG2 := fun {w' : World} {l : List Th} {q hp hb : Nat} (H : SepC w w' (stT q hp hb 16 4 3 hd8 :: l)) => Get_at hp hb 16 hd8.W 5 0 w' H.smem
  rw [g2, w2] at cG2
  have cP1 := fun {w' : World} {l : List Th} {q hp hb : Nat} (H : SepC w w' (stT q hp hb 16 4 3 hd8 :: l)) => H.sParents 5
  rw [p1] at cP1
  have cP2 := fun {w' : World} {l : List Th} {q hp hb : Nat} (H : SepC w w' (stT q hp hb 16 4 3 hd8 :: l)) => H.sLeaves 7
  rw [p2] at cP2
  have cD9 := fun {w' : World} {l : List Th} {q hp hb : Nat} (H : SepC w w' (stT q hp hb 16 4 3 hd8 :: l)) => H.sDrop 5 (by omega)
  rw [t9] at cD9
  have cS := fun {w' : World} {l : List Th} {q hp hb : Nat} (H : SepC w w' (stT q hp hb 16 4 3 hd9 :: l)) => H.sSlot 4 3 (by omega)
  rw [s1, s2] at cS
  have cF := fun {w' : World} {l : List Th} {q hp hb : Nat} (H : SepC w w' (stT q hp hb 16 4 3 hd9 :: l)) => H.sLeft
  rw [l1] at cF
  have cA := fun {w' : World} {l : List Th} {q hp hb : Nat} (H : SepC w w' (stT q hp hb 16 4 3 hd9 :: l)) => H.sAll
  rw [a1] at cA
  simp only [Ky.cs, Rg.cs, Slt.cl, Slt.no] at cM1 cM2 cM3 cM4 cC5 cL6 cC7 cL8 cS
  clear v1 v2 v3 v4 t1 t2 t3 t4 t5 t6 t7 t8 t9 g1 g2 w1 w2 p1 p2 s1 s2 l1 a1
  go_enter Try.func10, Try.ntmps10
  go_wp2_with fail
  refine hNew.mono ?_; rintro e z1 ⟨hp, hb, rfl, y1, hm, hg1, hg2⟩
  have H1 : SepC w z1 [hoT hp hb 16 (zeros 128)] := e0.lay (P := hoT hp hb 16 (zeros 128)) (S := [hb, hp]) y1 ⟨rfl, hm⟩ (by intro i hi; simp only [List.mem_cons, List.not_mem_nil, or_false] at hi; rcases hi with rfl | rfl <;> assumption)
  clear hNew e0 hm hg1 hg2 y1
  go_wp2_with fail
  refine (H1.sNew (a := 4) (m := 3) (by omega)).mono ?_; rintro e z2 ⟨q, rfl, H2⟩
  have cN := Snew_no hp hb 16 (zeros 128) 14 3 z2 H2.smem (by omega) (by omega) (by decide)
  change SepC w z2 (stT q hp hb 16 4 3 hd0 :: []) at H2
  clear H1
  go_wp2_with fail
  refine cN.mono ?_; rintro e z3 ⟨rfl, y3⟩
  replace H2 := H2.new y3
  clear cN y3
  go_wp2_with fail
  refine (cM1 H2).mono ?_; rintro e z4 ⟨rfl, H3⟩
  change SepC w z4 (stT q hp hb 16 4 3 hd1 :: []) at H3
  clear H2 cM1
  go_wp2_with fail
  refine (cM2 H3).mono ?_; rintro e z5 ⟨rfl, H4⟩
  change SepC w z5 (stT q hp hb 16 4 3 hd2 :: []) at H4
  clear H3 cM2
  go_wp2_with fail
  refine (cM3 H4).mono ?_; rintro e z6 ⟨rfl, H5⟩
  change SepC w z6 (stT q hp hb 16 4 3 hd3 :: []) at H5
  clear H4 cM3
  go_wp2_with fail
  refine (cM4 H5).mono ?_; rintro e z7 ⟨rfl, H6⟩
  change SepC w z7 (stT q hp hb 16 4 3 hd4 :: []) at H6
  clear H5 cM4
  go_wp2_with fail
  refine (cC5 H6).mono ?_; rintro e z8 ⟨rfl, H7⟩
  change SepC w z8 (stT q hp hb 16 4 3 hd5 :: []) at H7
  clear H6 cC5
  go_wp2_with fail
  refine (cL6 H7).mono ?_; rintro e z9 ⟨rfl, H8⟩
  change SepC w z9 (stT q hp hb 16 4 3 hd6 :: []) at H8
  clear H7 cL6
  go_wp2_with fail
  refine (cC7 H8).mono ?_; rintro e z10 ⟨rfl, H9⟩
  change SepC w z10 (stT q hp hb 16 4 3 hd7 :: []) at H9
  clear H8 cC7
  go_wp2_with fail
  refine (cL8 H9).mono ?_; rintro e z11 ⟨rfl, H10⟩
  change SepC w z11 (stT q hp hb 16 4 3 hd8 :: []) at H10
  clear H9 cL8
  go_wp2_with fail
  refine (cG1 H10).mono ?_; rintro e z12 ⟨rfl, rfl⟩
  clear cG1
  go_wp2_with fail
  refine (cG2 H10).mono ?_; rintro e z13 ⟨rfl, rfl⟩
  clear cG2
  go_wp2_with fail
  refine (cP1 H10).mono ?_; rintro e z14 ⟨A1, c1, rfl, H11⟩
  clear cP1 H10
  go_wp2_with fail
  have H12 := H11.swap
  refine (cP2 H12).mono ?_; rintro e z15 ⟨A2, c2, rfl, H13⟩
  clear cP2 H11 H12
  go_wp2_with fail
  have H14 := H13.swap
  refine (cD9 H14).mono ?_; rintro e z16 ⟨rfl, H15⟩
  change SepC w z16 (stT q hp hb 16 4 3 hd9 :: _) at H15
  clear cD9 H13 H14
  go_wp2_with fail
  refine (cS H15).mono ?_; rintro e z17 ⟨rfl, y15⟩
  replace H15 := H15.new y15
  clear cS y15
  simp only [List.length_cons, List.length_nil, Nat.reduceAdd] at H15 ⊢
  have yx := (Chg.refl [] z17).alloc (.cells #[.int .i64 0, .int .i64 0, .bool false, .bool false, .bool false] 45)
  have bx := Blk.new z17 45 #[.int .i64 0, .int .i64 0, .bool false, .bool false, .bool false]
  have hzx : (z17.alloc (.cells #[.int .i64 0, .int .i64 0, .bool false, .bool false, .bool false] 45)).heap.size = z17.heap.size + 1 := by simp
  have hza : (z : World) → (cs : Array Value) → (t : TypeId) → (z.alloc (.cells cs t)).heap.size = z.heap.size + 1 := fun z cs t => by simp
  go_wp2_with fail
  have b1 := Blk.new (z17.alloc (.cells #[.int .i64 0, .int .i64 0, .bool false, .bool false, .bool false] 45)) 70 #[.int .i64 4, .int .i64 3]
  rw [hzx] at b1
  have H16 := (H15.new yx).new ((Chg.refl [] _).alloc (.cells #[.int .i64 4, .int .i64 3] 70))
  have bx1 := bx.alloc (.cells #[.int .i64 4, .int .i64 3] 70)
  generalize hgx : z17.heap.size = gx at *
  generalize (z17.alloc (.cells #[.int .i64 0, .int .i64 0, .bool false, .bool false, .bool false] 45)).alloc (.cells #[.int .i64 4, .int .i64 3] 70) = z18 at *
  clear H15 yx bx hzx hgx
  refine (SameA_is A1 1 c1 [(4, 3)] _ 1 1 [(4, 3)] true z18 (H16.pick 2 rfl).own.slg (OwnG.lit (E := atE) (L := [(4, 3)]) b1 (by simp)).slg d1).mono ?_; rintro e z19 ⟨rfl, y19⟩
  have H17 := H16.new y19
  have bx2 := bx1.chg_ y19 (by simp)
  clear H16 y19 bx1 b1 d1
  go_wp2_with fail
  have b2 := Blk.new z19 70 #[.int .i64 5, .int .i64 0]
  have H18 := H17.new ((Chg.refl [] z19).alloc (.cells #[.int .i64 5, .int .i64 0] 70))
  have bx3 := bx2.alloc (.cells #[.int .i64 5, .int .i64 0] 70)
  refine (SameA_is A2 1 c2 [(5, 0)] _ 1 1 [(5, 0)] true _ (H18.pick 1 rfl).own.slg (OwnG.lit (E := atE) (L := [(5, 0)]) b2 (by simp)).slg d2).mono ?_; rintro e z20 ⟨rfl, y20⟩
  have H19 := H18.new y20
  have bx4 := bx3.chg_ y20 (by simp)
  clear H17 H18 y20 bx2 bx3 b2 d2
  have x0 := bx4.cell 0; have x1 := bx4.cell 1; have x2 := bx4.cell 2; have x3 := bx4.cell 3; have x4 := bx4.cell 4
  simp only [List.getElem?_toArray, List.getElem?_cons_zero, List.getElem?_cons_succ] at x0 x1 x2 x3 x4
  go_wp2_with fail
  refine (cF H19).mono ?_; rintro e z21 ⟨rfl, y21⟩
  have H20 := H19.new y21
  clear H19 y21 cF bx4 x0 x1 x2 x3 x4
  go_wp2_with fail
  refine (cA H20).mono ?_; rintro e z22 ⟨A3, c3, rfl, H21⟩
  clear cA H20
  simp only [List.length_cons, List.length_nil, Nat.reduceAdd] at H21 ⊢
  go_wp2_with fail
  have b3 := Blk.new z22 3 #[.int .i64 4]
  have H22 := H21.new ((Chg.refl [] z22).alloc (.cells #[.int .i64 4] 3))
  have hw4 : ∀ x ∈ ([4] : List Int), IntKind.i64.min ≤ x ∧ x ≤ IntKind.i64.max := by decide
  have k1 := (ownI_G.2 H22.own).slk hw4 (by simp)
  have k2 := (ownI_G.2 (OwnG.lit (E := numE .i64) (L := [4]) b3 (by simp))).slk hw4 (by simp)
  refine (SameI_is A3 1 c3 [4] _ 1 1 [4] true _ k1 k2 d3).mono ?_; rintro e z23 ⟨rfl, y23⟩
  have H23 := H22.new y23
  clear H21 H22 b3 k1 k2
  go_wp2_with fail
  go_ret
  exact ⟨rfl, H23.1⟩

end Go.Proofs.Ytpmfooeifhhfkaa
