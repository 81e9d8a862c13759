/-
 The live question of the laws of fill.
-/
import Derived.Test.YtmbgepafpcbakaaGreatDoorFlLK
import Derived.Test.YtmbgepafpcbakaaGreatDoorGMmK
import Derived.Test.YtmbgepafpcbakaaGreatDoorSameIK
import Derived.Deep.CutRange
namespace Go.Proofs.YtmbgepafpcbakaaGreatDoor
open Go.RowKit Go.Maps
theorem SlP.lit4 {w : World} {g : Nat} {t : TypeId} (a b c d : Pu) (hb : Blk w g t #[.int .i64 a.g, .int .i64 a.i, .int .u64 a.v, .int .i64 b.g, .int .i64 b.i, .int .u64 b.v, .int .i64 c.g, .int .i64 c.i, .int .u64 c.v, .int .i64 d.g, .int .i64 d.i, .int .u64 d.v]) (h : ∀ x ∈ [a, b, c, d], 0 ≤ x.v ∧ x.v < 18446744073709551616) : SlP w (some ⟨g, 0, none⟩) 4 [a, b, c, d] := by
 refine ⟨by decide, rfl, h, fun _ => ⟨g, 0, rfl, hb.lt, fun j x hj => ?_⟩⟩
 match j, hj with
 | 0, hj => cases hj; exact ⟨hb.cell 0, hb.cell 1, hb.cell 2⟩
 | 1, hj => cases hj; exact ⟨hb.cell 3, hb.cell 4, hb.cell 5⟩
 | 2, hj => cases hj; exact ⟨hb.cell 6, hb.cell 7, hb.cell 8⟩
 | 3, hj => cases hj; exact ⟨hb.cell 9, hb.cell 10, hb.cell 11⟩
def fhP : List Pu := [⟨1, 0, 8199⟩, ⟨2, 0, 12295⟩, ⟨3, 5, 36871⟩, ⟨2, 1, 32903⟩]
def fo1 : Fst := ⟨0, 1, 5, 0, true, 0, 0, 0, 0⟩
def fo2 : Fst := ⟨0, 1, 5, 0, true, 0, 0, 0, 0⟩
def fo3 : Fst := ⟨0, 1, 5, 1, false, 0, 0, 0, 0⟩
def fo4 : Fst := ⟨0, 1, 11, 0, false, 0, 0, 0, 0⟩
def fh0 : Gd := ⟨⟨[], [11, 10, 9, 8, 7, 6, 5, 4], List.replicate 200 0 ++ ([8199] ++ (List.replicate 7 0 ++ ([12295, 32903] ++ (List.replicate 11 0 ++ ([36871] ++ (List.replicate 98 0))))))⟩, [], []⟩
theorem ft0 : gd0 (madeG fhP) = fh0 := by kernel_rfl
def fh1 : Gd := ⟨⟨[⟨4, ⟨1, 3, 0⟩, [⟨1, 5, ⟨true, true, true⟩⟩, Slt.no, Slt.no, Slt.no, Slt.no, Slt.no, Slt.no, Slt.no]⟩, ⟨5, ⟨2, 2, 0⟩, [⟨1, 6, ⟨true, true, true⟩⟩, Slt.no, Slt.no, Slt.no, Slt.no, Slt.no, Slt.no, Slt.no]⟩, ⟨6, ⟨3, 1, 0⟩, [Slt.no, Slt.no, Slt.no, Slt.no, Slt.no, ⟨2, 9, ⟨false, true, true⟩⟩, Slt.no, Slt.no]⟩], [11, 10, 9, 8, 7], List.replicate 32 0 ++ ([20487] ++ (List.replicate 7 0 ++ ([24583] ++ (List.replicate 12 0 ++ ([135173] ++ (List.replicate 146 0 ++ ([8199] ++ (List.replicate 7 0 ++ ([12295, 32903] ++ (List.replicate 11 0 ++ ([36871] ++ (List.replicate 98 0))))))))))))⟩, [], []⟩
def fh3 : Gd := ⟨⟨[⟨4, ⟨1, 3, 0⟩, [⟨1, 5, ⟨true, true, true⟩⟩, Slt.no, Slt.no, Slt.no, Slt.no, Slt.no, Slt.no, Slt.no]⟩, ⟨5, ⟨2, 2, 0⟩, [⟨1, 6, ⟨true, true, true⟩⟩, Slt.no, Slt.no, Slt.no, Slt.no, Slt.no, Slt.no, Slt.no]⟩, ⟨6, ⟨3, 1, 0⟩, [Slt.no, Slt.no, Slt.no, Slt.no, Slt.no, ⟨2, 9, ⟨true, true, true⟩⟩, Slt.no, Slt.no]⟩], [11, 10, 9, 8, 7], List.replicate 32 0 ++ ([20487] ++ (List.replicate 7 0 ++ ([24583] ++ (List.replicate 12 0 ++ ([135175] ++ (List.replicate 146 0 ++ ([8199] ++ (List.replicate 7 0 ++ ([12295, 32903] ++ (List.replicate 11 0 ++ ([36871] ++ (List.replicate 98 0))))))))))))⟩, [], []⟩
def fh4 : Gd := ⟨⟨[⟨4, ⟨1, 3, 0⟩, [⟨1, 5, ⟨true, true, true⟩⟩, Slt.no, Slt.no, Slt.no, Slt.no, Slt.no, Slt.no, Slt.no]⟩, ⟨5, ⟨2, 2, 0⟩, [⟨1, 6, ⟨true, true, true⟩⟩, ⟨1, 7, ⟨true, true, true⟩⟩, Slt.no, Slt.no, Slt.no, Slt.no, Slt.no, Slt.no]⟩, ⟨6, ⟨3, 1, 0⟩, [Slt.no, Slt.no, Slt.no, Slt.no, Slt.no, ⟨2, 9, ⟨true, true, true⟩⟩, Slt.no, Slt.no]⟩, ⟨7, ⟨8, 1, 1⟩, [Slt.no, Slt.no, Slt.no, ⟨2, 11, ⟨false, true, true⟩⟩, Slt.no, Slt.no, Slt.no, Slt.no]⟩], [11, 10, 9, 8], List.replicate 32 0 ++ ([20487] ++ (List.replicate 7 0 ++ ([24583, 28679] ++ (List.replicate 11 0 ++ ([135175] ++ (List.replicate 5 0 ++ ([143365] ++ (List.replicate 140 0 ++ ([8199] ++ (List.replicate 7 0 ++ ([12295, 32903] ++ (List.replicate 11 0 ++ ([36871] ++ (List.replicate 98 0))))))))))))))⟩, [], []⟩
theorem ft1 : (doF fh0 fo1).1 = fh1 := by kernel_rfl
theorem ft2 : (doF fh1 fo2).1 = fh1 := by kernel_rfl
theorem ft3 : (doF fh1 fo3).1 = fh3 := by kernel_rfl
theorem ft4 : (doF fh3 fo4).1 = fh4 := by kernel_rfl
theorem fhd0 : FdO fh0 := ft0 ▸ FdO.made fhP
theorem fhd1 : FdO fh1 := ft1 ▸ fhd0.doF fo1
theorem fhd3 : FdO fh3 := ft3 ▸ fhd1.doF fo3
theorem fa1 : (doF fh0 fo1).2.1.length = 73 := by kernel_rfl
theorem fb1 : (doF fh0 fo1).2.2 = (true, 0) := by kernel_rfl
theorem fa2 : (doF fh1 fo2).2 = ([], true, 0) := by kernel_rfl
theorem fa3 : (doF fh1 fo3).2 = ([5], true, 0) := by kernel_rfl
theorem fb4 : (doF fh3 fo4).2.2 = (true, 0) := by kernel_rfl
theorem fv3 : findV fh3.s.L ⟨1, 3, 0⟩ = 4 := by kernel_rfl
theorem fp3 : (pgOf fh3.s.L ⟨1, 3, 0⟩).isSome = true := by kernel_rfl
theorem fw3 : walkH 40 fh3.s.W 4 5 = some (33, ⟨true, true, true⟩) := by kernel_rfl
theorem fw4 : walkH 40 fh4.s.W 4 11 = some (35, ⟨false, true, true⟩) := by kernel_rfl
theorem fl4 : fh4.s.fr.length = 4 := by kernel_rfl
theorem fq4 : protB fh4 3 = true := by kernel_rfl
section
variable {w0 w w' : World} {xq fq mq dd gq mp q hp hb t n a m most : Nat} {L : List Int} {d : Gd} {root page : Int} {A : Option Addr} {cA : Nat} {P : Pa} {dirty : Bool} {e0 e1 e2 : Ent} {tv av : Value} {tk an : List Int} {l : List Th}
theorem SepC.gMWalk {mm t2 : Nat} (H : SepC w0 w (gdT dd gq mp q hp hb t n a m most L (d) :: blkT mm 156 (mmC t2 hp) :: l)) (root page : Int) : Calls Tryz.prog 39 #[.pointer (some ⟨mm, 0, none⟩), .int .i64 root, .int .i64 page] w fun e w' => e = .returned (.tuple #[.int .i64 (walkF n d.s.W root page), .agg (walkR n d.s.W root page).cs, .bool (walkH n d.s.W root page).isSome]) ∧ Chg [] w w' :=
 Walk_any root page w H.tail.blk H.kMem H.gIn.wd
theorem SepC.mmNew (H : SepC w0 w l) (hp t2 : Nat) : Calls Tryz.prog 34 #[.pointer (some ⟨hp, 0, none⟩), .pointer (some ⟨t2, 0, none⟩)] w fun e w' => ∃ m, e = .returned (.pointer (some ⟨m, 0, none⟩)) ∧ SepC w0 w' (blkT m 156 (mmC t2 hp) :: l) := by
 have H1 := H.alloc #[.pointer (some ⟨t2, 0, none⟩), .pointer (some ⟨hp, 0, none⟩)] 156
 go_enter Tryz.func34, Tryz.ntmps34
 go_wp2_with fail
 go_ret
 exact ⟨_, rfl, H1⟩
end
set_option maxRecDepth 100000 in
set_option maxHeartbeats 16000000 in
theorem FHead_any (w : World) (hE : ErrIn w) : Calls Tryz.prog 10 #[] w fun e w' => e = .returned (.bool true) ∧ Chg [] w w' := by
 have c1 := fun {z : World} {l_ : List Th} {dd gq mp q hp hb t wb fq mq : Nat} (H : SepC w z (gdT dd gq mp q hp hb t 40 4 8 8 gl16 (fh0) :: blkT wb 51 (wdC hp gq q t dd) :: blkT fq 202 (flC gq mq q dd) :: mapT mq gl16 :: l_)) => H.fDo fo1 (by unfold Fst.Wf i64B; decide) fhd0 (hE.new H.1)
 simp only [fa1, fb1, ft1] at c1
 generalize (doF fh0 fo1).2.1 = L1 at c1
 simp only [fo1, Fst.cs] at c1
 have c2 := fun {z : World} {l_ : List Th} {dd gq mp q hp hb t wb fq mq : Nat} (H : SepC w z (gdT dd gq mp q hp hb t 40 4 8 8 gl16 (fh1) :: blkT wb 51 (wdC hp gq q t dd) :: blkT fq 202 (flC gq mq q dd) :: mapT mq gl16 :: l_)) => H.fDo fo2 (by unfold Fst.Wf i64B; decide) fhd1 (hE.new H.1)
 simp only [fa2, ft2, List.length_nil] at c2
 simp only [fo2, Fst.cs] at c2
 have c3 := fun {z : World} {l_ : List Th} {dd gq mp q hp hb t wb fq mq : Nat} (H : SepC w z (gdT dd gq mp q hp hb t 40 4 8 8 gl16 (fh1) :: blkT wb 51 (wdC hp gq q t dd) :: blkT fq 202 (flC gq mq q dd) :: mapT mq gl16 :: l_)) => H.fDo fo3 (by unfold Fst.Wf i64B; decide) fhd1 (hE.new H.1)
 simp only [fa3, ft3, List.length_cons, List.length_nil, Nat.zero_add] at c3
 simp only [fo3, Fst.cs] at c3
 have c4 := fun {z : World} {l_ : List Th} {dd gq mp q hp hb t wb fq mq : Nat} (H : SepC w z (gdT dd gq mp q hp hb t 40 4 8 8 gl16 (fh3) :: blkT wb 51 (wdC hp gq q t dd) :: blkT fq 202 (flC gq mq q dd) :: mapT mq gl16 :: l_)) => H.fDo fo4 (by unfold Fst.Wf i64B; decide) fhd3 (hE.new H.1)
 simp only [fb4, ft4] at c4
 generalize (doF fh3 fo4).2.1 = L4 at c4
 simp only [fo4, Fst.cs] at c4
 have c5 := fun {z : World} {l_ : List Th} {dd gq mp q hp hb t wb fq mq : Nat} (H : SepC w z (gdT dd gq mp q hp hb t 40 4 8 8 gl16 (fh3) :: blkT wb 51 (wdC hp gq q t dd) :: blkT fq 202 (flC gq mq q dd) :: mapT mq gl16 :: l_)) => H.kFind ⟨1, 3, 0⟩
 simp only [fv3, fp3, Ky.cs] at c5
 have c6 := fun {z : World} {l_ : List Th} {dd gq mp q hp hb t mm t2 : Nat} (H : SepC w z (gdT dd gq mp q hp hb t 40 4 8 8 gl16 (fh3) :: blkT mm 156 (mmC t2 hp) :: l_)) => H.gMWalk 4 5
 obtain ⟨w1_, w2_, w3_⟩ := walk_is fw3
 simp only [w1_, w2_, w3_, Rg.cs] at c6
 clear w1_ w2_ w3_
 have c7 := fun {z : World} {l_ : List Th} {dd gq mp q hp hb t mm t2 : Nat} (H : SepC w z (gdT dd gq mp q hp hb t 40 4 8 8 gl16 (fh4) :: blkT mm 156 (mmC t2 hp) :: l_)) => H.gMWalk 4 11
 obtain ⟨w1_, w2_, w3_⟩ := walk_is fw4
 simp only [w1_, w2_, w3_, Rg.cs] at c7
 clear w1_ w2_ w3_
 have c8 := fun {z : World} {l_ : List Th} {dd gq mp q hp hb t wb fq mq : Nat} (H : SepC w z (gdT dd gq mp q hp hb t 40 4 8 8 gl16 (fh4) :: blkT wb 51 (wdC hp gq q t dd) :: blkT fq 202 (flC gq mq q dd) :: mapT mq gl16 :: l_)) => H.kLeft
 simp only [fl4] at c8
 have c9 := fun {z : World} {l_ : List Th} {dd gq mp q hp hb t wb fq mq : Nat} (H : SepC w z (gdT dd gq mp q hp hb t 40 4 8 8 gl16 (fh4) :: blkT wb 51 (wdC hp gq q t dd) :: blkT fq 202 (flC gq mq q dd) :: mapT mq gl16 :: l_)) => H.kProt 3
 simp only [fq4] at c9
 have hT := fun {z : World} {l_ : List Th} (H : SepC w z l_) => H.tNew 4 (by omega) (by omega)
 have hw5 : ∀ x ∈ ([5] : List Int), IntKind.i64.min ≤ x ∧ x ≤ IntKind.i64.max := by decide
 have hMd := fun (g : Nat) w' (hb : Blk w' g 107 #[.int .i64 1, .int .i64 0, .int .u64 8199, .int .i64 2, .int .i64 0, .int .u64 12295, .int .i64 3, .int .i64 5, .int .u64 36871, .int .i64 2, .int .i64 1, .int .u64 32903]) => Made16_at (A := some ⟨g, 0, none⟩) (n := 4) (c := 4) (P := fhP) (SlP.lit4 _ _ _ _ hb (by decide))
 have b0 := Blk.new w 107 #[.int .i64 1, .int .i64 0, .int .u64 8199, .int .i64 2, .int .i64 0, .int .u64 12295, .int .i64 3, .int .i64 5, .int .u64 36871, .int .i64 2, .int .i64 1, .int .u64 32903]
 have H0 := (SepC.nil w).alloc #[.int .i64 1, .int .i64 0, .int .u64 8199, .int .i64 2, .int .i64 0, .int .u64 12295, .int .i64 3, .int .i64 5, .int .u64 36871, .int .i64 2, .int .i64 1, .int .u64 32903] 107
 clear hE
 go_enter Tryz.func10, Tryz.ntmps10
 go_wp2_with fail
 refine (hMd _ _ b0).mono ?_; intro e z0 hMP
 unfold MadeP16 at hMP
 obtain ⟨wb, dd, gq, mp, q, hp, hb, t, rfl, HM⟩ := hMP
 clear hMd b0
 have H1 := H0.merge HM
 clear H0 HM
 rw [ft0] at H1
 go_wp2_with fail
 refine (hT H1).mono ?_; rintro e z1 ⟨t2, rfl, H2⟩
 clear hT H1
 have H3 := (H2.pick 1 rfl).pick 2 rfl
 replace H3 := H3.pick 1 rfl
 clear H2
 go_wp2_with fail
 refine H3.fMade.mono ?_; rintro e z2 ⟨fq, mq, rfl, H4⟩
 clear H3
 have w_ := wdC_cells (H4.pick 1 rfl).blk
 go_wp2_with fail
 refine (H4.mmNew hp t2).mono ?_; rintro e z3 ⟨mm, rfl, H5⟩
 clear w_ H4
 have H := (((((H5.pick 0 rfl).pick 4 rfl).pick 4 rfl).pick 4 rfl).pick 4 rfl)
 clear H5
 go_wp2_with fail
 refine (c1 H).mono ?_; rintro e z4 ⟨A1, n1, rfl, H_⟩
 clear c1 H
 have H := H_.tail
 clear H_
 go_wp2_with fail
 refine (c2 H).mono ?_; rintro e z5 ⟨A2, n2, rfl, H_⟩
 clear c2 H
 have H := H_.tail
 clear H_
 go_wp2_with fail
 refine (c3 H).mono ?_; rintro e z6 ⟨A3, n3, rfl, H_⟩
 clear c3 H
 have H := (((((H_.pick 0 rfl).pick 4 rfl).pick 4 rfl).pick 4 rfl).pick 4 rfl)
 clear H_
 have w_ := wdC_cells (H.pick 1 rfl).blk
 go_wp2_with fail
 refine (c5 H).mono ?_; rintro e z7 ⟨rfl, y_⟩
 replace H := H.new y_
 clear c5 y_ w_
 go_wp2_with fail
 refine (c6 (((((((H.pick 4 rfl).pick 4 rfl).pick 4 rfl).pick 4 rfl).pick 5 rfl).pick 5 rfl))).mono ?_; rintro e z8 ⟨rfl, y_⟩
 replace H := H.new y_
 clear c6 y_
 have HX := H.alloc #[.bool true, .bool true, .bool true] 54
 clear H
 go_wp2_with fail
 generalize z8.alloc (.cells #[.bool true, .bool true, .bool true] 54) = z9 at *
 generalize z8.heap.size = r1 at *
 have H := (((((((HX.pick 0 rfl).pick 6 rfl).pick 6 rfl).pick 6 rfl).pick 6 rfl).pick 6 rfl).pick 6 rfl)
 clear HX
 refine (c4 H).mono ?_; rintro e za ⟨A4, n4, rfl, H_⟩
 clear c4 H
 have H := H_.tail
 clear H_
 go_wp2_with fail
 refine (c7 ((((((((H.pick 6 rfl).pick 5 rfl).pick 5 rfl).pick 5 rfl).pick 5 rfl).pick 6 rfl).pick 6 rfl))).mono ?_; rintro e zb ⟨rfl, y_⟩
 replace H := H.new y_
 clear c7 y_
 have HX := H.alloc #[.bool false, .bool true, .bool true] 54
 clear H
 have hq1 := fun w' => run_eqR ⟨true, true, true⟩ ⟨true, true, true⟩ w'
 have hq2 := fun w' => run_eqR ⟨false, true, true⟩ ⟨false, true, true⟩ w'
 skip
 have he1 : (⟨true, true, true⟩ : Rg).eqb ⟨true, true, true⟩ = true := by decide
 have he2 : (⟨false, true, true⟩ : Rg).eqb ⟨false, true, true⟩ = true := by decide
 simp only [Rg.cs, he1, he2] at hq1 hq2
 clear he1 he2
 have hsz : (zb.alloc (.cells #[.bool false, .bool true, .bool true] 54)).heap.size = zb.heap.size + 1 := by simp
 go_wp2_with fail
 have HS := HX.allocN hsz #[.int .i64 5] 3
 have hb5 := HS.blk
 clear hsz HX
 refine (SameI_is A3 1 n3 [5] _ 1 1 [5] true _ ((ownI_G.2 (HS.pick 6 rfl).own).slk hw5 (by simp)) ((ownI_G.2 (OwnG.lit (E := numE .i64) (L := [5]) hb5 (by simp))).slk hw5 (by simp)) (by decide)).mono ?_; rintro e zs ⟨rfl, ys⟩
 replace HS := (HS.new ys).tail
 clear ys hb5 hw5
 generalize zb.heap.size = r2 at *
 have H := ((((((((HS.pick 0 rfl).pick 7 rfl).pick 7 rfl).pick 7 rfl).pick 7 rfl).pick 7 rfl).pick 7 rfl).pick 7 rfl)
 clear HS
 have w_ := wdC_cells (H.pick 1 rfl).blk
 have a0_ := (H.pick 6 rfl).blk.cell 0; have a1_ := (H.pick 6 rfl).blk.cell 1; have a2_ := (H.pick 6 rfl).blk.cell 2; have b0_ := (H.pick 7 rfl).blk.cell 0; have b1_ := (H.pick 7 rfl).blk.cell 1; have b2_ := (H.pick 7 rfl).blk.cell 2
 simp only [qA, qZ, qS] at a0_ a1_ a2_ b0_ b1_ b2_
 go_wp2_with fail
 refine (c8 H).mono ?_; rintro e zc ⟨rfl, y_⟩
 replace H := H.new y_
 clear c8 y_ w_ a0_ a1_ a2_ b0_ b1_ b2_ hq1 hq2
 have w_ := wdC_cells (H.pick 1 rfl).blk
 go_wp2_with fail
 refine (c9 H).mono ?_; rintro e zd ⟨rfl, H9⟩
 clear c9 H w_
 go_wp2_with fail
 go_ret
 exact ⟨rfl, H9.1⟩
end Go.Proofs.YtmbgepafpcbakaaGreatDoor
