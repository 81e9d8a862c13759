/-
 One call of the laws of guard.
-/
import Derived.Test.YtgjfidjhbkaobaaGreatGuardAK
namespace Go.Proofs.YtgjfidjhbkaobaaGreat
open Go.RowKit Go.Maps
theorem and15 (t : Int) : bits .and .i64 t 15 = t % 16 := i64_low t 4 (by omega)
section
variable {w0 w w' : World} {dd gq mp q hp hb t wb : Nat} {d : Gd} {l : List Th}
set_option maxRecDepth 100000 in
set_option maxHeartbeats 16000000 in
theorem SepC.wDo (H : SepC w0 w (gdT dd gq mp q hp hb t 40 4 8 8 gl16 (d) :: blkT wb 46 (wdC hp gq q t dd) :: l)) (o : Gst) (hw : o.Wf) : Calls Tryz.prog 8 #[.pointer (some ⟨wb, 0, none⟩), .agg o.cs] w fun e w' => e = .returned (.tuple #[.int .i64 (doV d o), .bool (doB d o)]) ∧ SepC w0 w' (gdT dd gq mp q hp hb t 40 4 8 8 gl16 (doG d o) :: blkT wb 46 (wdC hp gq q t dd) :: l) := by
 obtain ⟨hw1, hw2, hw3, hw4⟩ := hw
 obtain ⟨wh, ⟨kg, kl, kr⟩, p, i, to_, ⟨rw_, ru, rx⟩, v⟩ := o
 unfold Gst.cs doG doV doB
 simp only at *
 by_cases c_ : wh = 0
 ·subst c_
  have H1 := (((H.alloc #[.int .i64 0, .int .i64 kg, .int .i64 kl, .int .i64 kr, .int .i64 p, .int .i64 i, .int .i64 to_, .bool rw_, .bool ru, .bool rx, .int .u64 v] 38).pick 1 rfl).pick 2 rfl).pick 1 rfl
  have hC := fun {z : World} {l' : List Th} (H' : SepC w0 z (gdT dd gq mp q hp hb t 40 4 8 8 gl16 (d) :: l')) => H'.kMake ⟨kg, kl, kr⟩
  simp only [Ky.cs] at hC
  simp
  go_enter Tryz.func8, Tryz.ntmps8
  go_upto_region 4 with fail
  generalize w.alloc (.cells #[.int .i64 0, .int .i64 kg, .int .i64 kl, .int .i64 kr, .int .i64 p, .int .i64 i, .int .i64 to_, .bool rw_, .bool ru, .bool rx, .int .u64 v] 38) = w1 at *
  generalize w.heap.size = ob at *
  clear H
  have HH := H1.new (Chg.refl [] w1).drew
  refine wp_region_noPanic ?_
  refine wp_region_held_drew (S := (fun w' => Blk w' wb 46 (wdC hp gq q t dd) ∧ Blk w' ob 38 #[.int .i64 0, .int .i64 kg, .int .i64 kl, .int .i64 kr, .int .i64 p, .int .i64 i, .int .i64 to_, .bool rw_, .bool ru, .bool rx, .int .u64 v])) (by kernel_rfl) ?_ (fun hHeld => ?_)
  ·exact ⟨(HH.pick 1 rfl).blk, (HH.pick 2 rfl).blk⟩
  (refine tk 0 14 ?_ ?_ ?_; rotate_left; · (intro w hSw; go_simp; (try with_reducible rfl)))
  (try simp only [Act.put, qI, qO, qU])
  (refine tk 1 15 ?_ ?_ ?_; rotate_left; · (intro w hSw; go_simp; (try with_reducible rfl)))
  (try simp only [Act.put, qI, qO, qU])
  (refine tk 2 16 ?_ ?_ ?_; rotate_left; · (intro w hSw; go_simp; (try with_reducible rfl)))
  (try simp only [Act.put, qI, qO, qU])
  (refine tk 3 17 ?_ ?_ ?_; rotate_left; · (intro w hSw; (try dsimp only at hSw); have bw_ := hSw.1; unfold wdC at bw_; have w_ := bw_.cell 4; simp only [qA, qZ, qS] at w_; go_simp; (try with_reducible rfl)))
  (try simp only [Act.put, qI, qO, qU])
  (refine tk 4 18 ?_ ?_ ?_; rotate_left; · (intro w hSw; go_simp; (try with_reducible rfl)))
  (try simp only [Act.put, qI, qO, qU])
  (refine tk 5 19 ?_ ?_ ?_; rotate_left; · (intro w hSw; (try dsimp only at hSw); have bo_ := hSw.2; have o1_ := bo_.cell 1; have o2_ := bo_.cell 2; have o3_ := bo_.cell 3; simp only [qA, qZ, qS] at o1_ o2_ o3_; go_simp; (try with_reducible rfl)))
  (try simp only [Act.put, qI, qO, qU])
  refine rdy 6 fun K hK => ?_
  go_simp
  (go_at_call 27; refine (hC HH).mono ?_; rintro e u1 ⟨rfl, H2⟩)
  refine hK.out _ _ (by (try dsimp only); exact ⟨(H2.pick 1 rfl).blk, (H2.pick 2 rfl).blk⟩) (fun hHeld => ?_)
  clear hK K
  (try simp only [Act.put, qI, qO, qU])
  (refine tk 7 13 ?_ ?_ ?_; rotate_left; · (intro w hSw; go_simp; (try with_reducible rfl)))
  (try simp only [Act.put, qI, qO, qU])
  (refine tk 8 21 ?_ ?_ ?_; rotate_left; · (intro w hSw; go_simp; (try with_reducible rfl)))
  (try simp only [Act.put, qI, qO, qU])
  (refine tk 9 22 ?_ ?_ ?_; rotate_left; · (intro w hSw; go_simp; (try with_reducible rfl)))
  (try simp only [Act.put, qI, qO, qU])
  (refine tk 10 6 ?_ ?_ ?_; rotate_left; · (intro w hSw; go_simp; (try with_reducible rfl)))
  (try simp only [Act.put, qI, qO, qU])
  (refine tk 11 7 ?_ ?_ ?_; rotate_left; · (intro w hSw; go_simp; (try with_reducible rfl)))
  (try simp only [Act.put, qI, qO, qU])
  refine wpAnyH_done (by kernel_rfl) ?_ _
  refine NoPanic.normal ?_
  clear hC
  go_wp2_with fail
  go_ret2
  exact ⟨rfl, (((H2.pick 2 rfl).tail))⟩
 have n0 := c_
 have b0 : (wh == 0) = false := by simpa using c_
 clear c_
 by_cases c_ : wh = 1
 ·subst c_
  have H1 := (((H.alloc #[.int .i64 1, .int .i64 kg, .int .i64 kl, .int .i64 kr, .int .i64 p, .int .i64 i, .int .i64 to_, .bool rw_, .bool ru, .bool rx, .int .u64 v] 38).pick 1 rfl).pick 2 rfl).pick 1 rfl
  have hC := fun {z : World} {l' : List Th} (H' : SepC w0 z (gdT dd gq mp q hp hb t 40 4 8 8 gl16 (d) :: l')) => H'.kMake ⟨kg, kl, kr⟩
  simp only [Ky.cs] at hC
  simp
  go_enter Tryz.func8, Tryz.ntmps8
  go_upto_region 4 with fail
  generalize w.alloc (.cells #[.int .i64 1, .int .i64 kg, .int .i64 kl, .int .i64 kr, .int .i64 p, .int .i64 i, .int .i64 to_, .bool rw_, .bool ru, .bool rx, .int .u64 v] 38) = w1 at *
  generalize w.heap.size = ob at *
  clear H
  have HH := H1.new (Chg.refl [] w1).drew
  refine wp_region_noPanic ?_
  refine wp_region_held_drew (S := (fun w' => Blk w' wb 46 (wdC hp gq q t dd) ∧ Blk w' ob 38 #[.int .i64 1, .int .i64 kg, .int .i64 kl, .int .i64 kr, .int .i64 p, .int .i64 i, .int .i64 to_, .bool rw_, .bool ru, .bool rx, .int .u64 v])) (by kernel_rfl) ?_ (fun hHeld => ?_)
  ·exact ⟨(HH.pick 1 rfl).blk, (HH.pick 2 rfl).blk⟩
  (refine tk 0 14 ?_ ?_ ?_; rotate_left; · (intro w hSw; go_simp; (try with_reducible rfl)))
  (try simp only [Act.put, qI, qO, qU])
  (refine tk 1 15 ?_ ?_ ?_; rotate_left; · (intro w hSw; go_simp; (try with_reducible rfl)))
  (try simp only [Act.put, qI, qO, qU])
  (refine tk 2 16 ?_ ?_ ?_; rotate_left; · (intro w hSw; go_simp; (try with_reducible rfl)))
  (try simp only [Act.put, qI, qO, qU])
  (refine tk 3 17 ?_ ?_ ?_; rotate_left; · (intro w hSw; (try dsimp only at hSw); have bw_ := hSw.1; unfold wdC at bw_; have w_ := bw_.cell 4; simp only [qA, qZ, qS] at w_; go_simp; (try with_reducible rfl)))
  (try simp only [Act.put, qI, qO, qU])
  (refine tk 4 18 ?_ ?_ ?_; rotate_left; · (intro w hSw; go_simp; (try with_reducible rfl)))
  (try simp only [Act.put, qI, qO, qU])
  (refine tk 5 19 ?_ ?_ ?_; rotate_left; · (intro w hSw; (try dsimp only at hSw); have bo_ := hSw.2; have o1_ := bo_.cell 1; have o2_ := bo_.cell 2; have o3_ := bo_.cell 3; simp only [qA, qZ, qS] at o1_ o2_ o3_; go_simp; (try with_reducible rfl)))
  (try simp only [Act.put, qI, qO, qU])
  refine rdy 6 fun K hK => ?_
  go_simp
  (go_at_call 27; refine (hC HH).mono ?_; rintro e u1 ⟨rfl, H2⟩)
  refine hK.out _ _ (by (try dsimp only); exact ⟨(H2.pick 1 rfl).blk, (H2.pick 2 rfl).blk⟩) (fun hHeld => ?_)
  clear hK K
  (try simp only [Act.put, qI, qO, qU])
  (refine tk 7 13 ?_ ?_ ?_; rotate_left; · (intro w hSw; go_simp; (try with_reducible rfl)))
  (try simp only [Act.put, qI, qO, qU])
  (refine tk 8 21 ?_ ?_ ?_; rotate_left; · (intro w hSw; go_simp; (try with_reducible rfl)))
  (try simp only [Act.put, qI, qO, qU])
  (refine tk 9 22 ?_ ?_ ?_; rotate_left; · (intro w hSw; go_simp; (try with_reducible rfl)))
  (try simp only [Act.put, qI, qO, qU])
  (refine tk 10 6 ?_ ?_ ?_; rotate_left; · (intro w hSw; go_simp; (try with_reducible rfl)))
  (try simp only [Act.put, qI, qO, qU])
  (refine tk 11 7 ?_ ?_ ?_; rotate_left; · (intro w hSw; go_simp; (try with_reducible rfl)))
  (try simp only [Act.put, qI, qO, qU])
  refine wpAnyH_done (by kernel_rfl) ?_ _
  refine NoPanic.normal ?_
  clear hC
  go_wp2_with fail
  go_ret2
  exact ⟨rfl, (((H2.pick 2 rfl).tail))⟩
 have n1 := c_
 have b1 : (wh == 1) = false := by simpa using c_
 clear c_
 by_cases c_ : wh = 2
 ·subst c_
  have H1 := (((H.alloc #[.int .i64 2, .int .i64 kg, .int .i64 kl, .int .i64 kr, .int .i64 p, .int .i64 i, .int .i64 to_, .bool rw_, .bool ru, .bool rx, .int .u64 v] 38).pick 1 rfl).pick 2 rfl).pick 1 rfl
  have hC := fun {z : World} {l' : List Th} (H' : SepC w0 z (gdT dd gq mp q hp hb t 40 4 8 8 gl16 (d) :: l')) => H'.kChild p i to_ ⟨rw_, ru, rx⟩ hw2 hw3
  simp only [Rg.cs] at hC
  simp
  go_enter Tryz.func8, Tryz.ntmps8
  go_upto_region 8 with fail
  generalize w.alloc (.cells #[.int .i64 2, .int .i64 kg, .int .i64 kl, .int .i64 kr, .int .i64 p, .int .i64 i, .int .i64 to_, .bool rw_, .bool ru, .bool rx, .int .u64 v] 38) = w1 at *
  generalize w.heap.size = ob at *
  clear H
  have HH := H1.new (Chg.refl [] w1).drew
  refine wp_region_noPanic ?_
  refine wp_region_held_drew (S := (fun w' => Blk w' wb 46 (wdC hp gq q t dd) ∧ Blk w' ob 38 #[.int .i64 2, .int .i64 kg, .int .i64 kl, .int .i64 kr, .int .i64 p, .int .i64 i, .int .i64 to_, .bool rw_, .bool ru, .bool rx, .int .u64 v])) (by kernel_rfl) ?_ (fun hHeld => ?_)
  ·exact ⟨(HH.pick 1 rfl).blk, (HH.pick 2 rfl).blk⟩
  (refine tk 0 28 ?_ ?_ ?_; rotate_left; · (intro w hSw; go_simp; (try with_reducible rfl)))
  (try simp only [Act.put, qI, qO, qU])
  (refine tk 1 29 ?_ ?_ ?_; rotate_left; · (intro w hSw; go_simp; (try with_reducible rfl)))
  (try simp only [Act.put, qI, qO, qU])
  (refine tk 2 30 ?_ ?_ ?_; rotate_left; · (intro w hSw; go_simp; (try with_reducible rfl)))
  (try simp only [Act.put, qI, qO, qU])
  (refine tk 3 31 ?_ ?_ ?_; rotate_left; · (intro w hSw; (try dsimp only at hSw); have bw_ := hSw.1; unfold wdC at bw_; have w_ := bw_.cell 2; simp only [qA, qZ, qS] at w_; go_simp; (try with_reducible rfl)))
  (try simp only [Act.put, qI, qO, qU])
  (refine tk 4 32 ?_ ?_ ?_; rotate_left; · (intro w hSw; go_simp; (try with_reducible rfl)))
  (try simp only [Act.put, qI, qO, qU])
  (refine tk 5 33 ?_ ?_ ?_; rotate_left; · (intro w hSw; (try dsimp only at hSw); have bo_ := hSw.2; have o4_ := bo_.cell 4; simp only [qA, qZ, qS] at o4_; go_simp; (try with_reducible rfl)))
  (try simp only [Act.put, qI, qO, qU])
  (refine tk 6 34 ?_ ?_ ?_; rotate_left; · (intro w hSw; go_simp; (try with_reducible rfl)))
  (try simp only [Act.put, qI, qO, qU])
  (refine tk 7 35 ?_ ?_ ?_; rotate_left; · (intro w hSw; (try dsimp only at hSw); have bo_ := hSw.2; have o5_ := bo_.cell 5; simp only [qA, qZ, qS] at o5_; go_simp; (try with_reducible rfl)))
  (try simp only [Act.put, qI, qO, qU])
  (refine tk 8 36 ?_ ?_ ?_; rotate_left; · (intro w hSw; go_simp; (try with_reducible rfl)))
  (try simp only [Act.put, qI, qO, qU])
  (refine tk 9 37 ?_ ?_ ?_; rotate_left; · (intro w hSw; (try dsimp only at hSw); have bo_ := hSw.2; have o6_ := bo_.cell 6; simp only [qA, qZ, qS] at o6_; go_simp; (try with_reducible rfl)))
  (try simp only [Act.put, qI, qO, qU])
  (refine tk 10 38 ?_ ?_ ?_; rotate_left; · (intro w hSw; go_simp; (try with_reducible rfl)))
  (try simp only [Act.put, qI, qO, qU])
  (refine tk 11 39 ?_ ?_ ?_; rotate_left; · (intro w hSw; (try dsimp only at hSw); have bo_ := hSw.2; have o7_ := bo_.cell 7; have o8_ := bo_.cell 8; have o9_ := bo_.cell 9; simp only [qA, qZ, qS] at o7_ o8_ o9_; go_simp; (try with_reducible rfl)))
  (try simp only [Act.put, qI, qO, qU])
  refine rdy 12 fun K hK => ?_
  go_simp
  (go_at_call 28; refine (hC HH).mono ?_; rintro e u1 ⟨rfl, H2⟩)
  refine hK.out _ _ (by (try dsimp only); exact ⟨(H2.pick 1 rfl).blk, (H2.pick 2 rfl).blk⟩) (fun hHeld => ?_)
  clear hK K
  (try simp only [Act.put, qI, qO, qU])
  (refine tk 13 4 ?_ ?_ ?_; rotate_left; · (intro w hSw; go_simp; (try with_reducible rfl)))
  (try simp only [Act.put, qI, qO, qU])
  (refine tk 14 5 ?_ ?_ ?_; rotate_left; · (intro w hSw; go_simp; (try with_reducible rfl)))
  (try simp only [Act.put, qI, qO, qU])
  refine wpAnyH_done (by kernel_rfl) ?_ _
  refine NoPanic.normal ?_
  clear hC
  go_wp2_with fail
  go_ret2
  exact ⟨rfl, (((H2.pick 2 rfl).tail))⟩
 have n2 := c_
 have b2 : (wh == 2) = false := by simpa using c_
 clear c_
 by_cases c_ : wh = 3
 ·subst c_
  have H1 := (((H.alloc #[.int .i64 3, .int .i64 kg, .int .i64 kl, .int .i64 kr, .int .i64 p, .int .i64 i, .int .i64 to_, .bool rw_, .bool ru, .bool rx, .int .u64 v] 38).pick 1 rfl).pick 2 rfl).pick 1 rfl
  have hC := fun {z : World} {l' : List Th} (H' : SepC w0 z (gdT dd gq mp q hp hb t 40 4 8 8 gl16 (d) :: l')) => H'.kChild p i to_ ⟨rw_, ru, rx⟩ hw2 hw3
  simp only [Rg.cs] at hC
  simp
  go_enter Tryz.func8, Tryz.ntmps8
  go_upto_region 8 with fail
  generalize w.alloc (.cells #[.int .i64 3, .int .i64 kg, .int .i64 kl, .int .i64 kr, .int .i64 p, .int .i64 i, .int .i64 to_, .bool rw_, .bool ru, .bool rx, .int .u64 v] 38) = w1 at *
  generalize w.heap.size = ob at *
  clear H
  have HH := H1.new (Chg.refl [] w1).drew
  refine wp_region_noPanic ?_
  refine wp_region_held_drew (S := (fun w' => Blk w' wb 46 (wdC hp gq q t dd) ∧ Blk w' ob 38 #[.int .i64 3, .int .i64 kg, .int .i64 kl, .int .i64 kr, .int .i64 p, .int .i64 i, .int .i64 to_, .bool rw_, .bool ru, .bool rx, .int .u64 v])) (by kernel_rfl) ?_ (fun hHeld => ?_)
  ·exact ⟨(HH.pick 1 rfl).blk, (HH.pick 2 rfl).blk⟩
  (refine tk 0 28 ?_ ?_ ?_; rotate_left; · (intro w hSw; go_simp; (try with_reducible rfl)))
  (try simp only [Act.put, qI, qO, qU])
  (refine tk 1 29 ?_ ?_ ?_; rotate_left; · (intro w hSw; go_simp; (try with_reducible rfl)))
  (try simp only [Act.put, qI, qO, qU])
  (refine tk 2 30 ?_ ?_ ?_; rotate_left; · (intro w hSw; go_simp; (try with_reducible rfl)))
  (try simp only [Act.put, qI, qO, qU])
  (refine tk 3 31 ?_ ?_ ?_; rotate_left; · (intro w hSw; (try dsimp only at hSw); have bw_ := hSw.1; unfold wdC at bw_; have w_ := bw_.cell 2; simp only [qA, qZ, qS] at w_; go_simp; (try with_reducible rfl)))
  (try simp only [Act.put, qI, qO, qU])
  (refine tk 4 32 ?_ ?_ ?_; rotate_left; · (intro w hSw; go_simp; (try with_reducible rfl)))
  (try simp only [Act.put, qI, qO, qU])
  (refine tk 5 33 ?_ ?_ ?_; rotate_left; · (intro w hSw; (try dsimp only at hSw); have bo_ := hSw.2; have o4_ := bo_.cell 4; simp only [qA, qZ, qS] at o4_; go_simp; (try with_reducible rfl)))
  (try simp only [Act.put, qI, qO, qU])
  (refine tk 6 34 ?_ ?_ ?_; rotate_left; · (intro w hSw; go_simp; (try with_reducible rfl)))
  (try simp only [Act.put, qI, qO, qU])
  (refine tk 7 35 ?_ ?_ ?_; rotate_left; · (intro w hSw; (try dsimp only at hSw); have bo_ := hSw.2; have o5_ := bo_.cell 5; simp only [qA, qZ, qS] at o5_; go_simp; (try with_reducible rfl)))
  (try simp only [Act.put, qI, qO, qU])
  (refine tk 8 36 ?_ ?_ ?_; rotate_left; · (intro w hSw; go_simp; (try with_reducible rfl)))
  (try simp only [Act.put, qI, qO, qU])
  (refine tk 9 37 ?_ ?_ ?_; rotate_left; · (intro w hSw; (try dsimp only at hSw); have bo_ := hSw.2; have o6_ := bo_.cell 6; simp only [qA, qZ, qS] at o6_; go_simp; (try with_reducible rfl)))
  (try simp only [Act.put, qI, qO, qU])
  (refine tk 10 38 ?_ ?_ ?_; rotate_left; · (intro w hSw; go_simp; (try with_reducible rfl)))
  (try simp only [Act.put, qI, qO, qU])
  (refine tk 11 39 ?_ ?_ ?_; rotate_left; · (intro w hSw; (try dsimp only at hSw); have bo_ := hSw.2; have o7_ := bo_.cell 7; have o8_ := bo_.cell 8; have o9_ := bo_.cell 9; simp only [qA, qZ, qS] at o7_ o8_ o9_; go_simp; (try with_reducible rfl)))
  (try simp only [Act.put, qI, qO, qU])
  refine rdy 12 fun K hK => ?_
  go_simp
  (go_at_call 28; refine (hC HH).mono ?_; rintro e u1 ⟨rfl, H2⟩)
  refine hK.out _ _ (by (try dsimp only); exact ⟨(H2.pick 1 rfl).blk, (H2.pick 2 rfl).blk⟩) (fun hHeld => ?_)
  clear hK K
  (try simp only [Act.put, qI, qO, qU])
  (refine tk 13 4 ?_ ?_ ?_; rotate_left; · (intro w hSw; go_simp; (try with_reducible rfl)))
  (try simp only [Act.put, qI, qO, qU])
  (refine tk 14 5 ?_ ?_ ?_; rotate_left; · (intro w hSw; go_simp; (try with_reducible rfl)))
  (try simp only [Act.put, qI, qO, qU])
  refine wpAnyH_done (by kernel_rfl) ?_ _
  refine NoPanic.normal ?_
  clear hC
  go_wp2_with fail
  go_ret2
  exact ⟨rfl, (((H2.pick 2 rfl).tail))⟩
 have n3 := c_
 have b3 : (wh == 3) = false := by simpa using c_
 clear c_
 by_cases c_ : wh = 4
 ·subst c_
  have H1 := (((H.alloc #[.int .i64 4, .int .i64 kg, .int .i64 kl, .int .i64 kr, .int .i64 p, .int .i64 i, .int .i64 to_, .bool rw_, .bool ru, .bool rx, .int .u64 v] 38).pick 1 rfl).pick 2 rfl).pick 1 rfl
  have hC := fun {z : World} {l' : List Th} (H' : SepC w0 z (gdT dd gq mp q hp hb t 40 4 8 8 gl16 (d) :: l')) => H'.kLeaf p i to_ (24 + to_ % 16) ⟨rw_, ru, rx⟩ hw2
  simp only [Rg.cs] at hC
  have hand := and15 to_
  have hwr : IntKind.i64.wrap (24 + to_ % 16) = 24 + to_ % 16 := IntWalk.i64_in _ (by omega)
  have hwr2 : wrap64 (24 + to_ % 16) = 24 + to_ % 16 := by unfold wrap64; omega
  simp
  go_enter Tryz.func8, Tryz.ntmps8
  go_upto_region 11 with fail
  generalize w.alloc (.cells #[.int .i64 4, .int .i64 kg, .int .i64 kl, .int .i64 kr, .int .i64 p, .int .i64 i, .int .i64 to_, .bool rw_, .bool ru, .bool rx, .int .u64 v] 38) = w1 at *
  generalize w.heap.size = ob at *
  clear H
  have HH := H1.new (Chg.refl [] w1).drew
  refine wp_region_noPanic ?_
  refine wp_region_held_drew (S := (fun w' => Blk w' wb 46 (wdC hp gq q t dd) ∧ Blk w' ob 38 #[.int .i64 4, .int .i64 kg, .int .i64 kl, .int .i64 kr, .int .i64 p, .int .i64 i, .int .i64 to_, .bool rw_, .bool ru, .bool rx, .int .u64 v])) (by kernel_rfl) ?_ (fun hHeld => ?_)
  ·exact ⟨(HH.pick 1 rfl).blk, (HH.pick 2 rfl).blk⟩
  (refine tk 0 44 ?_ ?_ ?_; rotate_left; · (intro w hSw; go_simp; (try with_reducible rfl)))
  (try simp only [Act.put, qI, qO, qU])
  (refine tk 1 45 ?_ ?_ ?_; rotate_left; · (intro w hSw; go_simp; (try with_reducible rfl)))
  (try simp only [Act.put, qI, qO, qU])
  (refine tk 2 46 ?_ ?_ ?_; rotate_left; · (intro w hSw; go_simp; (try with_reducible rfl)))
  (try simp only [Act.put, qI, qO, qU])
  (refine tk 3 47 ?_ ?_ ?_; rotate_left; · (intro w hSw; (try dsimp only at hSw); have bw_ := hSw.1; unfold wdC at bw_; have w_ := bw_.cell 2; simp only [qA, qZ, qS] at w_; go_simp; (try with_reducible rfl)))
  (try simp only [Act.put, qI, qO, qU])
  (refine tk 4 48 ?_ ?_ ?_; rotate_left; · (intro w hSw; go_simp; (try with_reducible rfl)))
  (try simp only [Act.put, qI, qO, qU])
  (refine tk 5 49 ?_ ?_ ?_; rotate_left; · (intro w hSw; (try dsimp only at hSw); have bo_ := hSw.2; have o4_ := bo_.cell 4; simp only [qA, qZ, qS] at o4_; go_simp; (try with_reducible rfl)))
  (try simp only [Act.put, qI, qO, qU])
  (refine tk 6 50 ?_ ?_ ?_; rotate_left; · (intro w hSw; go_simp; (try with_reducible rfl)))
  (try simp only [Act.put, qI, qO, qU])
  (refine tk 7 51 ?_ ?_ ?_; rotate_left; · (intro w hSw; (try dsimp only at hSw); have bo_ := hSw.2; have o5_ := bo_.cell 5; simp only [qA, qZ, qS] at o5_; go_simp; (try with_reducible rfl)))
  (try simp only [Act.put, qI, qO, qU])
  (refine tk 8 52 ?_ ?_ ?_; rotate_left; · (intro w hSw; go_simp; (try with_reducible rfl)))
  (try simp only [Act.put, qI, qO, qU])
  (refine tk 9 53 ?_ ?_ ?_; rotate_left; · (intro w hSw; (try dsimp only at hSw); have bo_ := hSw.2; have o6_ := bo_.cell 6; simp only [qA, qZ, qS] at o6_; go_simp; (try with_reducible rfl)))
  (try simp only [Act.put, qI, qO, qU])
  (refine tk 10 54 ?_ ?_ ?_; rotate_left; · (intro w hSw; go_simp; (try with_reducible rfl)))
  (try simp only [Act.put, qI, qO, qU])
  (refine tk 11 55 ?_ ?_ ?_; rotate_left; · (intro w hSw; (try dsimp only at hSw); have bo_ := hSw.2; have o6_ := bo_.cell 6; simp only [qA, qZ, qS] at o6_; go_simp; (try with_reducible rfl)))
  (try simp only [Act.put, qI, qO, qU])
  (refine tk 12 56 ?_ ?_ ?_; rotate_left; · (intro w hSw; go_simp; (try with_reducible rfl)))
  (try simp only [Act.put, qI, qO, qU])
  (refine tk 13 57 ?_ ?_ ?_; rotate_left; · (intro w hSw; go_simp; (try with_reducible rfl)))
  (try simp only [Act.put, qI, qO, qU])
  (refine tk 14 58 ?_ ?_ ?_; rotate_left; · (intro w hSw; go_simp; (try with_reducible rfl)))
  (try simp only [Act.put, qI, qO, qU])
  (refine tk 15 59 ?_ ?_ ?_; rotate_left; · (intro w hSw; (try dsimp only at hSw); have bo_ := hSw.2; have o7_ := bo_.cell 7; have o8_ := bo_.cell 8; have o9_ := bo_.cell 9; simp only [qA, qZ, qS] at o7_ o8_ o9_; go_simp; (try with_reducible rfl)))
  (try simp only [Act.put, qI, qO, qU])
  refine rdy 16 fun K hK => ?_
  go_simp
  (go_at_call 29; refine (hC HH).mono ?_; rintro e u1 ⟨rfl, H2⟩)
  refine hK.out _ _ (by (try dsimp only); exact ⟨(H2.pick 1 rfl).blk, (H2.pick 2 rfl).blk⟩) (fun hHeld => ?_)
  clear hK K
  (try simp only [Act.put, qI, qO, qU])
  (refine tk 17 4 ?_ ?_ ?_; rotate_left; · (intro w hSw; go_simp; (try with_reducible rfl)))
  (try simp only [Act.put, qI, qO, qU])
  (refine tk 18 5 ?_ ?_ ?_; rotate_left; · (intro w hSw; go_simp; (try with_reducible rfl)))
  (try simp only [Act.put, qI, qO, qU])
  refine wpAnyH_done (by kernel_rfl) ?_ _
  refine NoPanic.normal ?_
  clear hC
  go_wp2_with fail
  go_ret2
  exact ⟨rfl, (((H2.pick 2 rfl).tail))⟩
 have n4 := c_
 have b4 : (wh == 4) = false := by simpa using c_
 clear c_
 by_cases c_ : wh = 5
 ·subst c_
  have H1 := (((H.alloc #[.int .i64 5, .int .i64 kg, .int .i64 kl, .int .i64 kr, .int .i64 p, .int .i64 i, .int .i64 to_, .bool rw_, .bool ru, .bool rx, .int .u64 v] 38).pick 1 rfl).pick 2 rfl).pick 1 rfl
  have hC := fun {z : World} {l' : List Th} (H' : SepC w0 z (gdT dd gq mp q hp hb t 40 4 8 8 gl16 (d) :: l')) => H'.kLeaf p i to_ (24 + to_ % 16) ⟨rw_, ru, rx⟩ hw2
  simp only [Rg.cs] at hC
  have hand := and15 to_
  have hwr : IntKind.i64.wrap (24 + to_ % 16) = 24 + to_ % 16 := IntWalk.i64_in _ (by omega)
  have hwr2 : wrap64 (24 + to_ % 16) = 24 + to_ % 16 := by unfold wrap64; omega
  simp
  go_enter Tryz.func8, Tryz.ntmps8
  go_upto_region 11 with fail
  generalize w.alloc (.cells #[.int .i64 5, .int .i64 kg, .int .i64 kl, .int .i64 kr, .int .i64 p, .int .i64 i, .int .i64 to_, .bool rw_, .bool ru, .bool rx, .int .u64 v] 38) = w1 at *
  generalize w.heap.size = ob at *
  clear H
  have HH := H1.new (Chg.refl [] w1).drew
  refine wp_region_noPanic ?_
  refine wp_region_held_drew (S := (fun w' => Blk w' wb 46 (wdC hp gq q t dd) ∧ Blk w' ob 38 #[.int .i64 5, .int .i64 kg, .int .i64 kl, .int .i64 kr, .int .i64 p, .int .i64 i, .int .i64 to_, .bool rw_, .bool ru, .bool rx, .int .u64 v])) (by kernel_rfl) ?_ (fun hHeld => ?_)
  ·exact ⟨(HH.pick 1 rfl).blk, (HH.pick 2 rfl).blk⟩
  (refine tk 0 44 ?_ ?_ ?_; rotate_left; · (intro w hSw; go_simp; (try with_reducible rfl)))
  (try simp only [Act.put, qI, qO, qU])
  (refine tk 1 45 ?_ ?_ ?_; rotate_left; · (intro w hSw; go_simp; (try with_reducible rfl)))
  (try simp only [Act.put, qI, qO, qU])
  (refine tk 2 46 ?_ ?_ ?_; rotate_left; · (intro w hSw; go_simp; (try with_reducible rfl)))
  (try simp only [Act.put, qI, qO, qU])
  (refine tk 3 47 ?_ ?_ ?_; rotate_left; · (intro w hSw; (try dsimp only at hSw); have bw_ := hSw.1; unfold wdC at bw_; have w_ := bw_.cell 2; simp only [qA, qZ, qS] at w_; go_simp; (try with_reducible rfl)))
  (try simp only [Act.put, qI, qO, qU])
  (refine tk 4 48 ?_ ?_ ?_; rotate_left; · (intro w hSw; go_simp; (try with_reducible rfl)))
  (try simp only [Act.put, qI, qO, qU])
  (refine tk 5 49 ?_ ?_ ?_; rotate_left; · (intro w hSw; (try dsimp only at hSw); have bo_ := hSw.2; have o4_ := bo_.cell 4; simp only [qA, qZ, qS] at o4_; go_simp; (try with_reducible rfl)))
  (try simp only [Act.put, qI, qO, qU])
  (refine tk 6 50 ?_ ?_ ?_; rotate_left; · (intro w hSw; go_simp; (try with_reducible rfl)))
  (try simp only [Act.put, qI, qO, qU])
  (refine tk 7 51 ?_ ?_ ?_; rotate_left; · (intro w hSw; (try dsimp only at hSw); have bo_ := hSw.2; have o5_ := bo_.cell 5; simp only [qA, qZ, qS] at o5_; go_simp; (try with_reducible rfl)))
  (try simp only [Act.put, qI, qO, qU])
  (refine tk 8 52 ?_ ?_ ?_; rotate_left; · (intro w hSw; go_simp; (try with_reducible rfl)))
  (try simp only [Act.put, qI, qO, qU])
  (refine tk 9 53 ?_ ?_ ?_; rotate_left; · (intro w hSw; (try dsimp only at hSw); have bo_ := hSw.2; have o6_ := bo_.cell 6; simp only [qA, qZ, qS] at o6_; go_simp; (try with_reducible rfl)))
  (try simp only [Act.put, qI, qO, qU])
  (refine tk 10 54 ?_ ?_ ?_; rotate_left; · (intro w hSw; go_simp; (try with_reducible rfl)))
  (try simp only [Act.put, qI, qO, qU])
  (refine tk 11 55 ?_ ?_ ?_; rotate_left; · (intro w hSw; (try dsimp only at hSw); have bo_ := hSw.2; have o6_ := bo_.cell 6; simp only [qA, qZ, qS] at o6_; go_simp; (try with_reducible rfl)))
  (try simp only [Act.put, qI, qO, qU])
  (refine tk 12 56 ?_ ?_ ?_; rotate_left; · (intro w hSw; go_simp; (try with_reducible rfl)))
  (try simp only [Act.put, qI, qO, qU])
  (refine tk 13 57 ?_ ?_ ?_; rotate_left; · (intro w hSw; go_simp; (try with_reducible rfl)))
  (try simp only [Act.put, qI, qO, qU])
  (refine tk 14 58 ?_ ?_ ?_; rotate_left; · (intro w hSw; go_simp; (try with_reducible rfl)))
  (try simp only [Act.put, qI, qO, qU])
  (refine tk 15 59 ?_ ?_ ?_; rotate_left; · (intro w hSw; (try dsimp only at hSw); have bo_ := hSw.2; have o7_ := bo_.cell 7; have o8_ := bo_.cell 8; have o9_ := bo_.cell 9; simp only [qA, qZ, qS] at o7_ o8_ o9_; go_simp; (try with_reducible rfl)))
  (try simp only [Act.put, qI, qO, qU])
  refine rdy 16 fun K hK => ?_
  go_simp
  (go_at_call 29; refine (hC HH).mono ?_; rintro e u1 ⟨rfl, H2⟩)
  refine hK.out _ _ (by (try dsimp only); exact ⟨(H2.pick 1 rfl).blk, (H2.pick 2 rfl).blk⟩) (fun hHeld => ?_)
  clear hK K
  (try simp only [Act.put, qI, qO, qU])
  (refine tk 17 4 ?_ ?_ ?_; rotate_left; · (intro w hSw; go_simp; (try with_reducible rfl)))
  (try simp only [Act.put, qI, qO, qU])
  (refine tk 18 5 ?_ ?_ ?_; rotate_left; · (intro w hSw; go_simp; (try with_reducible rfl)))
  (try simp only [Act.put, qI, qO, qU])
  refine wpAnyH_done (by kernel_rfl) ?_ _
  refine NoPanic.normal ?_
  clear hC
  go_wp2_with fail
  go_ret2
  exact ⟨rfl, (((H2.pick 2 rfl).tail))⟩
 have n5 := c_
 have b5 : (wh == 5) = false := by simpa using c_
 clear c_
 by_cases c_ : wh = 6
 ·subst c_
  have H1 := (((H.alloc #[.int .i64 6, .int .i64 kg, .int .i64 kl, .int .i64 kr, .int .i64 p, .int .i64 i, .int .i64 to_, .bool rw_, .bool ru, .bool rx, .int .u64 v] 38).pick 1 rfl).pick 2 rfl).pick 1 rfl
  have hC := fun {z : World} {l' : List Th} (H' : SepC w0 z (gdT dd gq mp q hp hb t 40 4 8 8 gl16 (d) :: l')) => H'.kZap p i hw2
  simp
  go_enter Tryz.func8, Tryz.ntmps8
  go_upto_region 13 with fail
  generalize w.alloc (.cells #[.int .i64 6, .int .i64 kg, .int .i64 kl, .int .i64 kr, .int .i64 p, .int .i64 i, .int .i64 to_, .bool rw_, .bool ru, .bool rx, .int .u64 v] 38) = w1 at *
  generalize w.heap.size = ob at *
  clear H
  have HH := H1.new (Chg.refl [] w1).drew
  refine wp_region_noPanic ?_
  refine wp_region_held_drew (S := (fun w' => Blk w' wb 46 (wdC hp gq q t dd) ∧ Blk w' ob 38 #[.int .i64 6, .int .i64 kg, .int .i64 kl, .int .i64 kr, .int .i64 p, .int .i64 i, .int .i64 to_, .bool rw_, .bool ru, .bool rx, .int .u64 v])) (by kernel_rfl) ?_ (fun hHeld => ?_)
  ·exact ⟨(HH.pick 1 rfl).blk, (HH.pick 2 rfl).blk⟩
  (refine tk 0 63 ?_ ?_ ?_; rotate_left; · (intro w hSw; go_simp; (try with_reducible rfl)))
  (try simp only [Act.put, qI, qO, qU])
  (refine tk 1 64 ?_ ?_ ?_; rotate_left; · (intro w hSw; go_simp; (try with_reducible rfl)))
  (try simp only [Act.put, qI, qO, qU])
  (refine tk 2 65 ?_ ?_ ?_; rotate_left; · (intro w hSw; go_simp; (try with_reducible rfl)))
  (try simp only [Act.put, qI, qO, qU])
  (refine tk 3 66 ?_ ?_ ?_; rotate_left; · (intro w hSw; (try dsimp only at hSw); have bw_ := hSw.1; unfold wdC at bw_; have w_ := bw_.cell 4; simp only [qA, qZ, qS] at w_; go_simp; (try with_reducible rfl)))
  (try simp only [Act.put, qI, qO, qU])
  (refine tk 4 67 ?_ ?_ ?_; rotate_left; · (intro w hSw; go_simp; (try with_reducible rfl)))
  (try simp only [Act.put, qI, qO, qU])
  (refine tk 5 68 ?_ ?_ ?_; rotate_left; · (intro w hSw; (try dsimp only at hSw); have bo_ := hSw.2; have o4_ := bo_.cell 4; simp only [qA, qZ, qS] at o4_; go_simp; (try with_reducible rfl)))
  (try simp only [Act.put, qI, qO, qU])
  (refine tk 6 69 ?_ ?_ ?_; rotate_left; · (intro w hSw; go_simp; (try with_reducible rfl)))
  (try simp only [Act.put, qI, qO, qU])
  (refine tk 7 70 ?_ ?_ ?_; rotate_left; · (intro w hSw; (try dsimp only at hSw); have bo_ := hSw.2; have o5_ := bo_.cell 5; simp only [qA, qZ, qS] at o5_; go_simp; (try with_reducible rfl)))
  (try simp only [Act.put, qI, qO, qU])
  refine rdy 8 fun K hK => ?_
  go_simp
  (go_at_call 49; refine (hC HH).mono ?_; rintro e u1 ⟨rfl, H2⟩)
  refine hK.out _ _ (by (try dsimp only); exact ⟨(H2.pick 1 rfl).blk, (H2.pick 2 rfl).blk⟩) (fun hHeld => ?_)
  clear hK K
  (try simp only [Act.put, qI, qO, qU])
  (refine tk 9 4 ?_ ?_ ?_; rotate_left; · (intro w hSw; go_simp; (try with_reducible rfl)))
  (try simp only [Act.put, qI, qO, qU])
  (refine tk 10 5 ?_ ?_ ?_; rotate_left; · (intro w hSw; go_simp; (try with_reducible rfl)))
  (try simp only [Act.put, qI, qO, qU])
  refine wpAnyH_done (by kernel_rfl) ?_ _
  refine NoPanic.normal ?_
  clear hC
  go_wp2_with fail
  go_ret2
  exact ⟨rfl, (((H2.pick 2 rfl).tail))⟩
 have n6 := c_
 have b6 : (wh == 6) = false := by simpa using c_
 clear c_
 by_cases c_ : wh = 7
 ·subst c_
  have H1 := (((H.alloc #[.int .i64 7, .int .i64 kg, .int .i64 kl, .int .i64 kr, .int .i64 p, .int .i64 i, .int .i64 to_, .bool rw_, .bool ru, .bool rx, .int .u64 v] 38).pick 1 rfl).pick 2 rfl).pick 1 rfl
  have hC := fun {z : World} {l' : List Th} (H' : SepC w0 z (gdT dd gq mp q hp hb t 40 4 8 8 gl16 (d) :: l')) => H'.kWord to_ i
  simp
  go_enter Tryz.func8, Tryz.ntmps8
  go_upto_region 15 with fail
  generalize w.alloc (.cells #[.int .i64 7, .int .i64 kg, .int .i64 kl, .int .i64 kr, .int .i64 p, .int .i64 i, .int .i64 to_, .bool rw_, .bool ru, .bool rx, .int .u64 v] 38) = w1 at *
  generalize w.heap.size = ob at *
  clear H
  have HH := H1.new (Chg.refl [] w1).drew
  refine wp_region_noPanic ?_
  refine wp_region_held_drew (S := (fun w' => Blk w' wb 46 (wdC hp gq q t dd) ∧ Blk w' ob 38 #[.int .i64 7, .int .i64 kg, .int .i64 kl, .int .i64 kr, .int .i64 p, .int .i64 i, .int .i64 to_, .bool rw_, .bool ru, .bool rx, .int .u64 v])) (by kernel_rfl) ?_ (fun hHeld => ?_)
  ·exact ⟨(HH.pick 1 rfl).blk, (HH.pick 2 rfl).blk⟩
  (refine tk 0 74 ?_ ?_ ?_; rotate_left; · (intro w hSw; go_simp; (try with_reducible rfl)))
  (try simp only [Act.put, qI, qO, qU])
  (refine tk 1 75 ?_ ?_ ?_; rotate_left; · (intro w hSw; go_simp; (try with_reducible rfl)))
  (try simp only [Act.put, qI, qO, qU])
  (refine tk 2 76 ?_ ?_ ?_; rotate_left; · (intro w hSw; go_simp; (try with_reducible rfl)))
  (try simp only [Act.put, qI, qO, qU])
  (refine tk 3 77 ?_ ?_ ?_; rotate_left; · (intro w hSw; (try dsimp only at hSw); have bw_ := hSw.1; unfold wdC at bw_; have w_ := bw_.cell 4; simp only [qA, qZ, qS] at w_; go_simp; (try with_reducible rfl)))
  (try simp only [Act.put, qI, qO, qU])
  (refine tk 4 78 ?_ ?_ ?_; rotate_left; · (intro w hSw; go_simp; (try with_reducible rfl)))
  (try simp only [Act.put, qI, qO, qU])
  (refine tk 5 79 ?_ ?_ ?_; rotate_left; · (intro w hSw; (try dsimp only at hSw); have bo_ := hSw.2; have o6_ := bo_.cell 6; simp only [qA, qZ, qS] at o6_; go_simp; (try with_reducible rfl)))
  (try simp only [Act.put, qI, qO, qU])
  (refine tk 6 80 ?_ ?_ ?_; rotate_left; · (intro w hSw; go_simp; (try with_reducible rfl)))
  (try simp only [Act.put, qI, qO, qU])
  (refine tk 7 81 ?_ ?_ ?_; rotate_left; · (intro w hSw; (try dsimp only at hSw); have bo_ := hSw.2; have o5_ := bo_.cell 5; simp only [qA, qZ, qS] at o5_; go_simp; (try with_reducible rfl)))
  (try simp only [Act.put, qI, qO, qU])
  refine rdy 8 fun K hK => ?_
  go_simp
  (go_at_call 50; refine (hC HH).mono ?_; rintro e u1 ⟨rfl, H2⟩)
  refine hK.out _ _ (by (try dsimp only); exact ⟨(H2.pick 1 rfl).blk, (H2.pick 2 rfl).blk⟩) (fun hHeld => ?_)
  clear hK K
  (try simp only [Act.put, qI, qO, qU])
  refine wpAnyH_done (by kernel_rfl) ?_ _
  refine NoPanic.normal ?_
  clear hC
  go_wp2_with fail
  go_ret2
  exact ⟨rfl, (((H2.pick 2 rfl).tail))⟩
 have n7 := c_
 have b7 : (wh == 7) = false := by simpa using c_
 clear c_
 by_cases c_ : wh = 8
 ·subst c_
  have H1 := (((H.alloc #[.int .i64 8, .int .i64 kg, .int .i64 kl, .int .i64 kr, .int .i64 p, .int .i64 i, .int .i64 to_, .bool rw_, .bool ru, .bool rx, .int .u64 v] 38).pick 1 rfl).pick 2 rfl).pick 1 rfl
  have hC := fun {z : World} {l' : List Th} (H' : SepC w0 z (gdT dd gq mp q hp hb t 40 4 8 8 gl16 (d) :: l')) => H'.kLoosen to_ hw3
  simp
  go_enter Tryz.func8, Tryz.ntmps8
  go_upto_region 17 with fail
  generalize w.alloc (.cells #[.int .i64 8, .int .i64 kg, .int .i64 kl, .int .i64 kr, .int .i64 p, .int .i64 i, .int .i64 to_, .bool rw_, .bool ru, .bool rx, .int .u64 v] 38) = w1 at *
  generalize w.heap.size = ob at *
  clear H
  have HH := H1.new (Chg.refl [] w1).drew
  refine wp_region_noPanic ?_
  refine wp_region_held_drew (S := (fun w' => Blk w' wb 46 (wdC hp gq q t dd) ∧ Blk w' ob 38 #[.int .i64 8, .int .i64 kg, .int .i64 kl, .int .i64 kr, .int .i64 p, .int .i64 i, .int .i64 to_, .bool rw_, .bool ru, .bool rx, .int .u64 v])) (by kernel_rfl) ?_ (fun hHeld => ?_)
  ·exact ⟨(HH.pick 1 rfl).blk, (HH.pick 2 rfl).blk⟩
  (refine tk 0 85 ?_ ?_ ?_; rotate_left; · (intro w hSw; go_simp; (try with_reducible rfl)))
  (try simp only [Act.put, qI, qO, qU])
  (refine tk 1 86 ?_ ?_ ?_; rotate_left; · (intro w hSw; go_simp; (try with_reducible rfl)))
  (try simp only [Act.put, qI, qO, qU])
  (refine tk 2 87 ?_ ?_ ?_; rotate_left; · (intro w hSw; go_simp; (try with_reducible rfl)))
  (try simp only [Act.put, qI, qO, qU])
  (refine tk 3 88 ?_ ?_ ?_; rotate_left; · (intro w hSw; (try dsimp only at hSw); have bw_ := hSw.1; unfold wdC at bw_; have w_ := bw_.cell 4; simp only [qA, qZ, qS] at w_; go_simp; (try with_reducible rfl)))
  (try simp only [Act.put, qI, qO, qU])
  (refine tk 4 89 ?_ ?_ ?_; rotate_left; · (intro w hSw; go_simp; (try with_reducible rfl)))
  (try simp only [Act.put, qI, qO, qU])
  (refine tk 5 90 ?_ ?_ ?_; rotate_left; · (intro w hSw; (try dsimp only at hSw); have bo_ := hSw.2; have o6_ := bo_.cell 6; simp only [qA, qZ, qS] at o6_; go_simp; (try with_reducible rfl)))
  (try simp only [Act.put, qI, qO, qU])
  refine rdy 6 fun K hK => ?_
  go_simp
  (go_at_call 30; refine (hC HH).mono ?_; rintro e u1 ⟨rfl, H2⟩)
  refine hK.out _ _ (by (try dsimp only); exact ⟨(H2.pick 1 rfl).blk, (H2.pick 2 rfl).blk⟩) (fun hHeld => ?_)
  clear hK K
  (try simp only [Act.put, qI, qO, qU])
  (refine tk 7 4 ?_ ?_ ?_; rotate_left; · (intro w hSw; go_simp; (try with_reducible rfl)))
  (try simp only [Act.put, qI, qO, qU])
  (refine tk 8 5 ?_ ?_ ?_; rotate_left; · (intro w hSw; go_simp; (try with_reducible rfl)))
  (try simp only [Act.put, qI, qO, qU])
  refine wpAnyH_done (by kernel_rfl) ?_ _
  refine NoPanic.normal ?_
  clear hC
  go_wp2_with fail
  go_ret2
  exact ⟨rfl, (((H2.pick 2 rfl).tail))⟩
 have n8 := c_
 have b8 : (wh == 8) = false := by simpa using c_
 clear c_
 by_cases c_ : wh = 9
 ·subst c_
  have H1 := (((H.alloc #[.int .i64 9, .int .i64 kg, .int .i64 kl, .int .i64 kr, .int .i64 p, .int .i64 i, .int .i64 to_, .bool rw_, .bool ru, .bool rx, .int .u64 v] 38).pick 1 rfl).pick 2 rfl).pick 1 rfl
  have hC := fun {z : World} {l' : List Th} (H' : SepC w0 z (gdT dd gq mp q hp hb t 40 4 8 8 gl16 (d) :: l')) => H'.kLook to_
  simp
  go_enter Tryz.func8, Tryz.ntmps8
  go_upto_region 19 with fail
  generalize w.alloc (.cells #[.int .i64 9, .int .i64 kg, .int .i64 kl, .int .i64 kr, .int .i64 p, .int .i64 i, .int .i64 to_, .bool rw_, .bool ru, .bool rx, .int .u64 v] 38) = w1 at *
  generalize w.heap.size = ob at *
  clear H
  have HH := H1.new (Chg.refl [] w1).drew
  refine wp_region_noPanic ?_
  refine wp_region_held_drew (S := (fun w' => Blk w' wb 46 (wdC hp gq q t dd) ∧ Blk w' ob 38 #[.int .i64 9, .int .i64 kg, .int .i64 kl, .int .i64 kr, .int .i64 p, .int .i64 i, .int .i64 to_, .bool rw_, .bool ru, .bool rx, .int .u64 v])) (by kernel_rfl) ?_ (fun hHeld => ?_)
  ·exact ⟨(HH.pick 1 rfl).blk, (HH.pick 2 rfl).blk⟩
  (refine tk 0 94 ?_ ?_ ?_; rotate_left; · (intro w hSw; go_simp; (try with_reducible rfl)))
  (try simp only [Act.put, qI, qO, qU])
  (refine tk 1 95 ?_ ?_ ?_; rotate_left; · (intro w hSw; go_simp; (try with_reducible rfl)))
  (try simp only [Act.put, qI, qO, qU])
  (refine tk 2 96 ?_ ?_ ?_; rotate_left; · (intro w hSw; go_simp; (try with_reducible rfl)))
  (try simp only [Act.put, qI, qO, qU])
  (refine tk 3 97 ?_ ?_ ?_; rotate_left; · (intro w hSw; (try dsimp only at hSw); have bw_ := hSw.1; unfold wdC at bw_; have w_ := bw_.cell 4; simp only [qA, qZ, qS] at w_; go_simp; (try with_reducible rfl)))
  (try simp only [Act.put, qI, qO, qU])
  (refine tk 4 98 ?_ ?_ ?_; rotate_left; · (intro w hSw; go_simp; (try with_reducible rfl)))
  (try simp only [Act.put, qI, qO, qU])
  (refine tk 5 99 ?_ ?_ ?_; rotate_left; · (intro w hSw; (try dsimp only at hSw); have bo_ := hSw.2; have o6_ := bo_.cell 6; simp only [qA, qZ, qS] at o6_; go_simp; (try with_reducible rfl)))
  (try simp only [Act.put, qI, qO, qU])
  refine rdy 6 fun K hK => ?_
  go_simp
  (go_at_call 31; refine (hC HH).mono ?_; rintro e u1 ⟨rfl, H2⟩)
  refine hK.out _ _ (by (try dsimp only); exact ⟨(H2.pick 1 rfl).blk, (H2.pick 2 rfl).blk⟩) (fun hHeld => ?_)
  clear hK K
  (try simp only [Act.put, qI, qO, qU])
  (refine tk 7 4 ?_ ?_ ?_; rotate_left; · (intro w hSw; go_simp; (try with_reducible rfl)))
  (try simp only [Act.put, qI, qO, qU])
  (refine tk 8 5 ?_ ?_ ?_; rotate_left; · (intro w hSw; go_simp; (try with_reducible rfl)))
  (try simp only [Act.put, qI, qO, qU])
  refine wpAnyH_done (by kernel_rfl) ?_ _
  refine NoPanic.normal ?_
  clear hC
  go_wp2_with fail
  go_ret2
  exact ⟨rfl, (((H2.pick 2 rfl).tail))⟩
 have n9 := c_
 have b9 : (wh == 9) = false := by simpa using c_
 clear c_
 by_cases c_ : wh = 10
 ·subst c_
  have H1 := (((H.alloc #[.int .i64 10, .int .i64 kg, .int .i64 kl, .int .i64 kr, .int .i64 p, .int .i64 i, .int .i64 to_, .bool rw_, .bool ru, .bool rx, .int .u64 v] 38).pick 1 rfl).pick 2 rfl).pick 1 rfl
  have hC := fun {z : World} {l' : List Th} (H' : SepC w0 z (gdT dd gq mp q hp hb t 40 4 8 8 gl16 (d) :: l')) => H'.kAll
  simp
  go_enter Tryz.func8, Tryz.ntmps8
  go_upto_region 21 with fail
  generalize w.alloc (.cells #[.int .i64 10, .int .i64 kg, .int .i64 kl, .int .i64 kr, .int .i64 p, .int .i64 i, .int .i64 to_, .bool rw_, .bool ru, .bool rx, .int .u64 v] 38) = w1 at *
  generalize w.heap.size = ob at *
  clear H
  have w_ := (H1.pick 1 rfl).blk.cell 4
  unfold wdC at w_
  simp only [qA, qZ, qS] at w_
  go_wp2_with fail
  refine (hC H1).mono ?_; rintro e u1 ⟨rfl, H2⟩
  clear hC
  go_wp2_with fail
  go_ret2
  exact ⟨rfl, (((H2.pick 2 rfl).tail))⟩
 have n10 := c_
 have b10 : (wh == 10) = false := by simpa using c_
 clear c_
 by_cases c_ : wh = 11
 ·subst c_
  have H1 := (((H.alloc #[.int .i64 11, .int .i64 kg, .int .i64 kl, .int .i64 kr, .int .i64 p, .int .i64 i, .int .i64 to_, .bool rw_, .bool ru, .bool rx, .int .u64 v] 38).pick 1 rfl).pick 2 rfl).pick 1 rfl
  have hC := fun {z : World} {l' : List Th} (H' : SepC w0 z (gdT dd gq mp q hp hb t 40 4 8 8 gl16 (d) :: l')) => H'.kDrop p hw2
  simp
  go_enter Tryz.func8, Tryz.ntmps8
  go_upto_region 23 with fail
  generalize w.alloc (.cells #[.int .i64 11, .int .i64 kg, .int .i64 kl, .int .i64 kr, .int .i64 p, .int .i64 i, .int .i64 to_, .bool rw_, .bool ru, .bool rx, .int .u64 v] 38) = w1 at *
  generalize w.heap.size = ob at *
  clear H
  have HH := H1.new (Chg.refl [] w1).drew
  refine wp_region_noPanic ?_
  refine wp_region_held_drew (S := (fun w' => Blk w' wb 46 (wdC hp gq q t dd) ∧ Blk w' ob 38 #[.int .i64 11, .int .i64 kg, .int .i64 kl, .int .i64 kr, .int .i64 p, .int .i64 i, .int .i64 to_, .bool rw_, .bool ru, .bool rx, .int .u64 v])) (by kernel_rfl) ?_ (fun hHeld => ?_)
  ·exact ⟨(HH.pick 1 rfl).blk, (HH.pick 2 rfl).blk⟩
  (refine tk 0 110 ?_ ?_ ?_; rotate_left; · (intro w hSw; go_simp; (try with_reducible rfl)))
  (try simp only [Act.put, qI, qO, qU])
  (refine tk 1 111 ?_ ?_ ?_; rotate_left; · (intro w hSw; go_simp; (try with_reducible rfl)))
  (try simp only [Act.put, qI, qO, qU])
  (refine tk 2 112 ?_ ?_ ?_; rotate_left; · (intro w hSw; go_simp; (try with_reducible rfl)))
  (try simp only [Act.put, qI, qO, qU])
  (refine tk 3 113 ?_ ?_ ?_; rotate_left; · (intro w hSw; (try dsimp only at hSw); have bw_ := hSw.1; unfold wdC at bw_; have w_ := bw_.cell 4; simp only [qA, qZ, qS] at w_; go_simp; (try with_reducible rfl)))
  (try simp only [Act.put, qI, qO, qU])
  (refine tk 4 114 ?_ ?_ ?_; rotate_left; · (intro w hSw; go_simp; (try with_reducible rfl)))
  (try simp only [Act.put, qI, qO, qU])
  (refine tk 5 115 ?_ ?_ ?_; rotate_left; · (intro w hSw; (try dsimp only at hSw); have bo_ := hSw.2; have o4_ := bo_.cell 4; simp only [qA, qZ, qS] at o4_; go_simp; (try with_reducible rfl)))
  (try simp only [Act.put, qI, qO, qU])
  refine rdy 6 fun K hK => ?_
  go_simp
  (go_at_call 33; refine (hC HH).mono ?_; rintro e u1 ⟨rfl, H2⟩)
  refine hK.out _ _ (by (try dsimp only); exact ⟨(H2.pick 1 rfl).blk, (H2.pick 2 rfl).blk⟩) (fun hHeld => ?_)
  clear hK K
  (try simp only [Act.put, qI, qO, qU])
  (refine tk 7 4 ?_ ?_ ?_; rotate_left; · (intro w hSw; go_simp; (try with_reducible rfl)))
  (try simp only [Act.put, qI, qO, qU])
  (refine tk 8 5 ?_ ?_ ?_; rotate_left; · (intro w hSw; go_simp; (try with_reducible rfl)))
  (try simp only [Act.put, qI, qO, qU])
  refine wpAnyH_done (by kernel_rfl) ?_ _
  refine NoPanic.normal ?_
  clear hC
  go_wp2_with fail
  go_ret2
  exact ⟨rfl, (((H2.pick 2 rfl).tail))⟩
 have n11 := c_
 have b11 : (wh == 11) = false := by simpa using c_
 clear c_
 by_cases c_ : wh = 12
 ·subst c_
  have H1 := (((H.alloc #[.int .i64 12, .int .i64 kg, .int .i64 kl, .int .i64 kr, .int .i64 p, .int .i64 i, .int .i64 to_, .bool rw_, .bool ru, .bool rx, .int .u64 v] 38).pick 1 rfl).pick 2 rfl).pick 1 rfl
  have hC := fun {z : World} {l' : List Th} (H' : SepC w0 z (gdT dd gq mp q hp hb t 40 4 8 8 gl16 (d) :: l')) => H'.kSet to_ i v hw4
  simp
  go_enter Tryz.func8, Tryz.ntmps8
  go_upto_region 25 with fail
  generalize w.alloc (.cells #[.int .i64 12, .int .i64 kg, .int .i64 kl, .int .i64 kr, .int .i64 p, .int .i64 i, .int .i64 to_, .bool rw_, .bool ru, .bool rx, .int .u64 v] 38) = w1 at *
  generalize w.heap.size = ob at *
  clear H
  have HH := H1.new (Chg.refl [] w1).drew
  refine wp_region_noPanic ?_
  refine wp_region_held_drew (S := (fun w' => Blk w' wb 46 (wdC hp gq q t dd) ∧ Blk w' ob 38 #[.int .i64 12, .int .i64 kg, .int .i64 kl, .int .i64 kr, .int .i64 p, .int .i64 i, .int .i64 to_, .bool rw_, .bool ru, .bool rx, .int .u64 v])) (by kernel_rfl) ?_ (fun hHeld => ?_)
  ·exact ⟨(HH.pick 1 rfl).blk, (HH.pick 2 rfl).blk⟩
  (refine tk 0 119 ?_ ?_ ?_; rotate_left; · (intro w hSw; go_simp; (try with_reducible rfl)))
  (try simp only [Act.put, qI, qO, qU])
  (refine tk 1 120 ?_ ?_ ?_; rotate_left; · (intro w hSw; go_simp; (try with_reducible rfl)))
  (try simp only [Act.put, qI, qO, qU])
  (refine tk 2 121 ?_ ?_ ?_; rotate_left; · (intro w hSw; go_simp; (try with_reducible rfl)))
  (try simp only [Act.put, qI, qO, qU])
  (refine tk 3 122 ?_ ?_ ?_; rotate_left; · (intro w hSw; (try dsimp only at hSw); have bw_ := hSw.1; unfold wdC at bw_; have w_ := bw_.cell 1; simp only [qA, qZ, qS] at w_; go_simp; (try with_reducible rfl)))
  (try simp only [Act.put, qI, qO, qU])
  (refine tk 4 123 ?_ ?_ ?_; rotate_left; · (intro w hSw; go_simp; (try with_reducible rfl)))
  (try simp only [Act.put, qI, qO, qU])
  (refine tk 5 124 ?_ ?_ ?_; rotate_left; · (intro w hSw; (try dsimp only at hSw); have bo_ := hSw.2; have o6_ := bo_.cell 6; simp only [qA, qZ, qS] at o6_; go_simp; (try with_reducible rfl)))
  (try simp only [Act.put, qI, qO, qU])
  (refine tk 6 125 ?_ ?_ ?_; rotate_left; · (intro w hSw; go_simp; (try with_reducible rfl)))
  (try simp only [Act.put, qI, qO, qU])
  (refine tk 7 126 ?_ ?_ ?_; rotate_left; · (intro w hSw; (try dsimp only at hSw); have bo_ := hSw.2; have o5_ := bo_.cell 5; simp only [qA, qZ, qS] at o5_; go_simp; (try with_reducible rfl)))
  (try simp only [Act.put, qI, qO, qU])
  (refine tk 8 127 ?_ ?_ ?_; rotate_left; · (intro w hSw; go_simp; (try with_reducible rfl)))
  (try simp only [Act.put, qI, qO, qU])
  (refine tk 9 128 ?_ ?_ ?_; rotate_left; · (intro w hSw; (try dsimp only at hSw); have bo_ := hSw.2; have o10_ := bo_.cell 10; simp only [qA, qZ, qS] at o10_; go_simp; (try with_reducible rfl)))
  (try simp only [Act.put, qI, qO, qU])
  refine rdy 10 fun K hK => ?_
  go_simp
  (go_at_call 41; refine (hC HH).mono ?_; rintro e u1 ⟨rfl, H2⟩)
  refine hK.out _ _ (by (try dsimp only); exact ⟨(H2.pick 1 rfl).blk, (H2.pick 2 rfl).blk⟩) (fun hHeld => ?_)
  clear hK K
  (try simp only [Act.put, qI, qO, qU])
  (refine tk 11 4 ?_ ?_ ?_; rotate_left; · (intro w hSw; go_simp; (try with_reducible rfl)))
  (try simp only [Act.put, qI, qO, qU])
  (refine tk 12 5 ?_ ?_ ?_; rotate_left; · (intro w hSw; go_simp; (try with_reducible rfl)))
  (try simp only [Act.put, qI, qO, qU])
  refine wpAnyH_done (by kernel_rfl) ?_ _
  refine NoPanic.normal ?_
  clear hC
  go_wp2_with fail
  go_ret2
  exact ⟨rfl, (((H2.pick 2 rfl).tail))⟩
 have n12 := c_
 have b12 : (wh == 12) = false := by simpa using c_
 clear c_
 by_cases c_ : wh = 13
 ·subst c_
  have H1 := (((H.alloc #[.int .i64 13, .int .i64 kg, .int .i64 kl, .int .i64 kr, .int .i64 p, .int .i64 i, .int .i64 to_, .bool rw_, .bool ru, .bool rx, .int .u64 v] 38).pick 1 rfl).pick 2 rfl).pick 1 rfl
  have hC := fun {z : World} {l' : List Th} (H' : SepC w0 z (gdT dd gq mp q hp hb t 40 4 8 8 gl16 (d) :: l')) => H'.kPut ⟨0, i, p, false, false, false, false⟩
  simp only [Ht.v] at hC
  simp
  go_enter Tryz.func8, Tryz.ntmps8
  go_upto_region 27 with fail
  generalize w.alloc (.cells #[.int .i64 13, .int .i64 kg, .int .i64 kl, .int .i64 kr, .int .i64 p, .int .i64 i, .int .i64 to_, .bool rw_, .bool ru, .bool rx, .int .u64 v] 38) = w1 at *
  generalize w.heap.size = ob at *
  clear H
  have HH := H1.new (Chg.refl [] w1).drew
  refine wp_region_noPanic ?_
  refine wp_region_held_drew (S := (fun w' => Blk w' wb 46 (wdC hp gq q t dd) ∧ Blk w' ob 38 #[.int .i64 13, .int .i64 kg, .int .i64 kl, .int .i64 kr, .int .i64 p, .int .i64 i, .int .i64 to_, .bool rw_, .bool ru, .bool rx, .int .u64 v])) (by kernel_rfl) ?_ (fun hHeld => ?_)
  ·exact ⟨(HH.pick 1 rfl).blk, (HH.pick 2 rfl).blk⟩
  (refine tk 0 132 ?_ ?_ ?_; rotate_left; · (intro w hSw; go_simp; (try with_reducible rfl)))
  (try simp only [Act.put, qI, qO, qU])
  (refine tk 1 133 ?_ ?_ ?_; rotate_left; · (intro w hSw; go_simp; (try with_reducible rfl)))
  (try simp only [Act.put, qI, qO, qU])
  (refine tk 2 134 ?_ ?_ ?_; rotate_left; · (intro w hSw; go_simp; (try with_reducible rfl)))
  (try simp only [Act.put, qI, qO, qU])
  (refine tk 3 135 ?_ ?_ ?_; rotate_left; · (intro w hSw; (try dsimp only at hSw); have bw_ := hSw.1; unfold wdC at bw_; have w_ := bw_.cell 3; simp only [qA, qZ, qS] at w_; go_simp; (try with_reducible rfl)))
  (try simp only [Act.put, qI, qO, qU])
  (refine tk 4 136 ?_ ?_ ?_; rotate_left; · (intro w hSw; go_simp; (try with_reducible rfl)))
  (try simp only [Act.put, qI, qO, qU])
  (refine tk 5 137 ?_ ?_ ?_; rotate_left; · (intro w hSw; (try dsimp only at hSw); have bo_ := hSw.2; have o5_ := bo_.cell 5; simp only [qA, qZ, qS] at o5_; go_simp; (try with_reducible rfl)))
  (try simp only [Act.put, qI, qO, qU])
  (refine tk 6 138 ?_ ?_ ?_; rotate_left; · (intro w hSw; go_simp; (try with_reducible rfl)))
  (try simp only [Act.put, qI, qO, qU])
  (refine tk 7 139 ?_ ?_ ?_; rotate_left; · (intro w hSw; (try dsimp only at hSw); have bo_ := hSw.2; have o4_ := bo_.cell 4; simp only [qA, qZ, qS] at o4_; go_simp; (try with_reducible rfl)))
  (try simp only [Act.put, qI, qO, qU])
  (refine tk 8 140 ?_ ?_ ?_; rotate_left; · (intro w hSw; go_simp; (try with_reducible rfl)))
  (try simp only [Act.put, qI, qO, qU])
  refine rdy 9 fun K hK => ?_
  go_simp
  (go_at_call 52; refine (hC HH).mono ?_; rintro e u1 ⟨rfl, H2⟩)
  refine hK.out _ _ (by (try dsimp only); exact ⟨(H2.pick 1 rfl).blk, (H2.pick 2 rfl).blk⟩) (fun hHeld => ?_)
  clear hK K
  (try simp only [Act.put, qI, qO, qU])
  refine wpAnyH_done (by kernel_rfl) ?_ _
  refine NoPanic.normal ?_
  clear hC
  go_wp2_with fail
  go_ret2
  exact ⟨rfl, (((H2.pick 2 rfl).tail))⟩
 have n13 := c_
 have b13 : (wh == 13) = false := by simpa using c_
 clear c_
 simp [n0, n1, n2, n3, n4, n5, n6, n7, n8, n9, n10, n11, n12, n13]
 have H1 := (((H.alloc #[.int .i64 wh, .int .i64 kg, .int .i64 kl, .int .i64 kr, .int .i64 p, .int .i64 i, .int .i64 to_, .bool rw_, .bool ru, .bool rx, .int .u64 v] 38).pick 1 rfl).pick 2 rfl).pick 1 rfl
 clear n0 n1 n2 n3 n4 n5 n6 n7 n8 n9 n10 n11 n12 n13
 go_enter Tryz.func8, Tryz.ntmps8
 go_wp2_with fail
 go_ret2
 exact ⟨rfl, (((H1.pick 2 rfl).tail))⟩
end
end Go.Proofs.YtgjfidjhbkaobaaGreat
