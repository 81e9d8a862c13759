/-
  One call of the laws of guard.
-/
import Derived.Test.YtgjfidjhbkaobaaGuardA
namespace Go.Proofs.Ytgjfidjhbkaobaa
open Go.RowKit Go.Maps

theorem and15 (t : Int) : bits .and .i64 t 15 = t % 16 := i64_low t 4 (by omega)
section
variable {w0 w w' : World} {dd gq mp q hp hb t wb : Nat} {d : Gd} {l : List Th}
set_option maxRecDepth 100000 in
set_option maxHeartbeats 16000000 in
theorem SepC.wDo (H : SepC w0 w (gdT dd gq mp q hp hb t 40 4 8 8 gl16 (d) :: blkT wb 43 (wdC hp gq q t dd) :: l)) (o : Gst) (hw : o.Wf) : Calls Try.prog 13 #[.pointer (some ⟨wb, 0, none⟩), .agg o.cs] w fun e w' => e = .returned (.tuple #[.int .i64 (doV d o), .bool (doB d o)]) ∧ SepC w0 w' (gdT dd gq mp q hp hb t 40 4 8 8 gl16 (doG d o) :: blkT wb 43 (wdC hp gq q t dd) :: l) := by
  obtain ⟨hw1, hw2, hw3, hw4⟩ := hw
  obtain ⟨wh, ⟨kg, kl, kr⟩, p, i, to_, ⟨rw_, ru, rx⟩, v⟩ := o
  unfold Gst.cs doG doV doB
  simp only at *
  by_cases c_ : wh = 0
  · subst c_
    have H1 := (((H.alloc #[.int .i64 0, .int .i64 kg, .int .i64 kl, .int .i64 kr, .int .i64 p, .int .i64 i, .int .i64 to_, .bool rw_, .bool ru, .bool rx, .int .u64 v] 36).pick 1 rfl).pick 2 rfl).pick 1 rfl
    have hC := fun {z : World} {l' : List Th} (H' : SepC w0 z (gdT dd gq mp q hp hb t 40 4 8 8 gl16 (d) :: l')) => H'.kMake ⟨kg, kl, kr⟩
    simp only [Ky.cs] at hC
    simp
    go_enter Try.func13, Try.ntmps13
    go_upto_region 4 with fail
    generalize w.alloc (.cells #[.int .i64 0, .int .i64 kg, .int .i64 kl, .int .i64 kr, .int .i64 p, .int .i64 i, .int .i64 to_, .bool rw_, .bool ru, .bool rx, .int .u64 v] 36) = w1 at *
    generalize w.heap.size = ob at *
    clear H
    have HH := H1.new (Chg.refl [] w1).drew
    refine wp_region_noPanic ?_
    refine wp_region_held_drew (S := (fun w' => Blk w' wb 43 (wdC hp gq q t dd) ∧ Blk w' ob 36 #[.int .i64 0, .int .i64 kg, .int .i64 kl, .int .i64 kr, .int .i64 p, .int .i64 i, .int .i64 to_, .bool rw_, .bool ru, .bool rx, .int .u64 v])) (by kernel_rfl) ?_ (fun hHeld => ?_)
    · exact ⟨(HH.pick 1 rfl).blk, (HH.pick 2 rfl).blk⟩
    (refine take_on 0 (some 14) (v := ?_) rfl rfl (by kernel_rfl) (by kernel_rfl) (by kernel_rfl) (fun _ _ _ h => h) (by rfl) (by assumption) ?_ ?_; rotate_left; · (intro w hSw; go_simp; (try with_reducible rfl)))
    (try simp only [Act.put, List.setIfInBounds_toArray, List.set_cons_zero, List.set_cons_succ])
    (refine take_on 1 (some 15) (v := ?_) rfl rfl (by kernel_rfl) (by kernel_rfl) (by kernel_rfl) (fun _ _ _ h => h) (by rfl) (by assumption) ?_ ?_; rotate_left; · (intro w hSw; go_simp; (try with_reducible rfl)))
    (try simp only [Act.put, List.setIfInBounds_toArray, List.set_cons_zero, List.set_cons_succ])
    (refine take_on 2 (some 16) (v := ?_) rfl rfl (by kernel_rfl) (by kernel_rfl) (by kernel_rfl) (fun _ _ _ h => h) (by rfl) (by assumption) ?_ ?_; rotate_left; · (intro w hSw; go_simp; (try with_reducible rfl)))
    (try simp only [Act.put, List.setIfInBounds_toArray, List.set_cons_zero, List.set_cons_succ])
    (refine take_on 3 (some 17) (v := ?_) rfl rfl (by kernel_rfl) (by kernel_rfl) (by kernel_rfl) (fun _ _ _ h => h) (by rfl) (by assumption) ?_ ?_; rotate_left; · (intro w hSw; (try dsimp only at hSw); have bw_ := hSw.1; unfold wdC at bw_; have w_ := bw_.cell 4; simp only [List.getElem?_toArray, List.getElem?_cons_zero, List.getElem?_cons_succ] at w_; go_simp; (try with_reducible rfl)))
    (try simp only [Act.put, List.setIfInBounds_toArray, List.set_cons_zero, List.set_cons_succ])
    (refine take_on 4 (some 18) (v := ?_) rfl rfl (by kernel_rfl) (by kernel_rfl) (by kernel_rfl) (fun _ _ _ h => h) (by rfl) (by assumption) ?_ ?_; rotate_left; · (intro w hSw; go_simp; (try with_reducible rfl)))
    (try simp only [Act.put, List.setIfInBounds_toArray, List.set_cons_zero, List.set_cons_succ])
    (refine take_on 5 (some 19) (v := ?_) rfl rfl (by kernel_rfl) (by kernel_rfl) (by kernel_rfl) (fun _ _ _ h => h) (by rfl) (by assumption) ?_ ?_; rotate_left; · (intro w hSw; (try dsimp only at hSw); have bo_ := hSw.2; have o1_ := bo_.cell 1; have o2_ := bo_.cell 2; have o3_ := bo_.cell 3; simp only [List.getElem?_toArray, List.getElem?_cons_zero, List.getElem?_cons_succ] at o1_ o2_ o3_; go_simp; (try with_reducible rfl)))
    (try simp only [Act.put, List.setIfInBounds_toArray, List.set_cons_zero, List.set_cons_succ])
    refine wpAnyH_ready (rs := [6]) (by kernel_rfl) (by simp) ?_; refine AllReadyH.cons (o := _) rfl (fun K hK => ?_) AllReadyH.nil
    go_simp
    (go_at_call 18; refine (hC HH).mono ?_; rintro e u1 ⟨rfl, H2⟩)
    refine hK.out _ _ (by (try dsimp only); exact ⟨(H2.pick 1 rfl).blk, (H2.pick 2 rfl).blk⟩) (fun hHeld => ?_)
    clear hK K
    (try simp only [Act.put, List.setIfInBounds_toArray, List.set_cons_zero, List.set_cons_succ])
    (refine take_on 7 (some 13) (v := ?_) rfl rfl (by kernel_rfl) (by kernel_rfl) (by kernel_rfl) (fun _ _ _ h => h) (by rfl) (by assumption) ?_ ?_; rotate_left; · (intro w hSw; go_simp; (try with_reducible rfl)))
    (try simp only [Act.put, List.setIfInBounds_toArray, List.set_cons_zero, List.set_cons_succ])
    (refine take_on 8 (some 21) (v := ?_) rfl rfl (by kernel_rfl) (by kernel_rfl) (by kernel_rfl) (fun _ _ _ h => h) (by rfl) (by assumption) ?_ ?_; rotate_left; · (intro w hSw; go_simp; (try with_reducible rfl)))
    (try simp only [Act.put, List.setIfInBounds_toArray, List.set_cons_zero, List.set_cons_succ])
    (refine take_on 9 (some 22) (v := ?_) rfl rfl (by kernel_rfl) (by kernel_rfl) (by kernel_rfl) (fun _ _ _ h => h) (by rfl) (by assumption) ?_ ?_; rotate_left; · (intro w hSw; go_simp; (try with_reducible rfl)))
    (try simp only [Act.put, List.setIfInBounds_toArray, List.set_cons_zero, List.set_cons_succ])
    (refine take_on 10 (some 6) (v := ?_) rfl rfl (by kernel_rfl) (by kernel_rfl) (by kernel_rfl) (fun _ _ _ h => h) (by rfl) (by assumption) ?_ ?_; rotate_left; · (intro w hSw; go_simp; (try with_reducible rfl)))
    (try simp only [Act.put, List.setIfInBounds_toArray, List.set_cons_zero, List.set_cons_succ])
    (refine take_on 11 (some 7) (v := ?_) rfl rfl (by kernel_rfl) (by kernel_rfl) (by kernel_rfl) (fun _ _ _ h => h) (by rfl) (by assumption) ?_ ?_; rotate_left; · (intro w hSw; go_simp; (try with_reducible rfl)))
    (try simp only [Act.put, List.setIfInBounds_toArray, List.set_cons_zero, List.set_cons_succ])
    refine wpAnyH_done (by kernel_rfl) ?_ _
    refine NoPanic.normal ?_
    clear hC
    go_wp2_with fail
    go_ret2
    exact ⟨rfl, (((H2.pick 2 rfl).tail))⟩
  have n0 := c_
  have b0 : (wh == 0) = false := by simpa using c_
  clear c_
  by_cases c_ : wh = 1
  · subst c_
    have H1 := (((H.alloc #[.int .i64 1, .int .i64 kg, .int .i64 kl, .int .i64 kr, .int .i64 p, .int .i64 i, .int .i64 to_, .bool rw_, .bool ru, .bool rx, .int .u64 v] 36).pick 1 rfl).pick 2 rfl).pick 1 rfl
    have hC := fun {z : World} {l' : List Th} (H' : SepC w0 z (gdT dd gq mp q hp hb t 40 4 8 8 gl16 (d) :: l')) => H'.kMake ⟨kg, kl, kr⟩
    simp only [Ky.cs] at hC
    simp
    go_enter Try.func13, Try.ntmps13
    go_upto_region 4 with fail
    generalize w.alloc (.cells #[.int .i64 1, .int .i64 kg, .int .i64 kl, .int .i64 kr, .int .i64 p, .int .i64 i, .int .i64 to_, .bool rw_, .bool ru, .bool rx, .int .u64 v] 36) = w1 at *
    generalize w.heap.size = ob at *
    clear H
    have HH := H1.new (Chg.refl [] w1).drew
    refine wp_region_noPanic ?_
    refine wp_region_held_drew (S := (fun w' => Blk w' wb 43 (wdC hp gq q t dd) ∧ Blk w' ob 36 #[.int .i64 1, .int .i64 kg, .int .i64 kl, .int .i64 kr, .int .i64 p, .int .i64 i, .int .i64 to_, .bool rw_, .bool ru, .bool rx, .int .u64 v])) (by kernel_rfl) ?_ (fun hHeld => ?_)
    · exact ⟨(HH.pick 1 rfl).blk, (HH.pick 2 rfl).blk⟩
    (refine take_on 0 (some 14) (v := ?_) rfl rfl (by kernel_rfl) (by kernel_rfl) (by kernel_rfl) (fun _ _ _ h => h) (by rfl) (by assumption) ?_ ?_; rotate_left; · (intro w hSw; go_simp; (try with_reducible rfl)))
    (try simp only [Act.put, List.setIfInBounds_toArray, List.set_cons_zero, List.set_cons_succ])
    (refine take_on 1 (some 15) (v := ?_) rfl rfl (by kernel_rfl) (by kernel_rfl) (by kernel_rfl) (fun _ _ _ h => h) (by rfl) (by assumption) ?_ ?_; rotate_left; · (intro w hSw; go_simp; (try with_reducible rfl)))
    (try simp only [Act.put, List.setIfInBounds_toArray, List.set_cons_zero, List.set_cons_succ])
    (refine take_on 2 (some 16) (v := ?_) rfl rfl (by kernel_rfl) (by kernel_rfl) (by kernel_rfl) (fun _ _ _ h => h) (by rfl) (by assumption) ?_ ?_; rotate_left; · (intro w hSw; go_simp; (try with_reducible rfl)))
    (try simp only [Act.put, List.setIfInBounds_toArray, List.set_cons_zero, List.set_cons_succ])
    (refine take_on 3 (some 17) (v := ?_) rfl rfl (by kernel_rfl) (by kernel_rfl) (by kernel_rfl) (fun _ _ _ h => h) (by rfl) (by assumption) ?_ ?_; rotate_left; · (intro w hSw; (try dsimp only at hSw); have bw_ := hSw.1; unfold wdC at bw_; have w_ := bw_.cell 4; simp only [List.getElem?_toArray, List.getElem?_cons_zero, List.getElem?_cons_succ] at w_; go_simp; (try with_reducible rfl)))
    (try simp only [Act.put, List.setIfInBounds_toArray, List.set_cons_zero, List.set_cons_succ])
    (refine take_on 4 (some 18) (v := ?_) rfl rfl (by kernel_rfl) (by kernel_rfl) (by kernel_rfl) (fun _ _ _ h => h) (by rfl) (by assumption) ?_ ?_; rotate_left; · (intro w hSw; go_simp; (try with_reducible rfl)))
    (try simp only [Act.put, List.setIfInBounds_toArray, List.set_cons_zero, List.set_cons_succ])
    (refine take_on 5 (some 19) (v := ?_) rfl rfl (by kernel_rfl) (by kernel_rfl) (by kernel_rfl) (fun _ _ _ h => h) (by rfl) (by assumption) ?_ ?_; rotate_left; · (intro w hSw; (try dsimp only at hSw); have bo_ := hSw.2; have o1_ := bo_.cell 1; have o2_ := bo_.cell 2; have o3_ := bo_.cell 3; simp only [List.getElem?_toArray, List.getElem?_cons_zero, List.getElem?_cons_succ] at o1_ o2_ o3_; go_simp; (try with_reducible rfl)))
    (try simp only [Act.put, List.setIfInBounds_toArray, List.set_cons_zero, List.set_cons_succ])
    refine wpAnyH_ready (rs := [6]) (by kernel_rfl) (by simp) ?_; refine AllReadyH.cons (o := _) rfl (fun K hK => ?_) AllReadyH.nil
    go_simp
    (go_at_call 18; refine (hC HH).mono ?_; rintro e u1 ⟨rfl, H2⟩)
    refine hK.out _ _ (by (try dsimp only); exact ⟨(H2.pick 1 rfl).blk, (H2.pick 2 rfl).blk⟩) (fun hHeld => ?_)
    clear hK K
    (try simp only [Act.put, List.setIfInBounds_toArray, List.set_cons_zero, List.set_cons_succ])
    (refine take_on 7 (some 13) (v := ?_) rfl rfl (by kernel_rfl) (by kernel_rfl) (by kernel_rfl) (fun _ _ _ h => h) (by rfl) (by assumption) ?_ ?_; rotate_left; · (intro w hSw; go_simp; (try with_reducible rfl)))
    (try simp only [Act.put, List.setIfInBounds_toArray, List.set_cons_zero, List.set_cons_succ])
    (refine take_on 8 (some 21) (v := ?_) rfl rfl (by kernel_rfl) (by kernel_rfl) (by kernel_rfl) (fun _ _ _ h => h) (by rfl) (by assumption) ?_ ?_; rotate_left; · (intro w hSw; go_simp; (try with_reducible rfl)))
    (try simp only [Act.put, List.setIfInBounds_toArray, List.set_cons_zero, List.set_cons_succ])
    (refine take_on 9 (some 22) (v := ?_) rfl rfl (by kernel_rfl) (by kernel_rfl) (by kernel_rfl) (fun _ _ _ h => h) (by rfl) (by assumption) ?_ ?_; rotate_left; · (intro w hSw; go_simp; (try with_reducible rfl)))
    (try simp only [Act.put, List.setIfInBounds_toArray, List.set_cons_zero, List.set_cons_succ])
    (refine take_on 10 (some 6) (v := ?_) rfl rfl (by kernel_rfl) (by kernel_rfl) (by kernel_rfl) (fun _ _ _ h => h) (by rfl) (by assumption) ?_ ?_; rotate_left; · (intro w hSw; go_simp; (try with_reducible rfl)))
    (try simp only [Act.put, List.setIfInBounds_toArray, List.set_cons_zero, List.set_cons_succ])
    (refine take_on 11 (some 7) (v := ?_) rfl rfl (by kernel_rfl) (by kernel_rfl) (by kernel_rfl) (fun _ _ _ h => h) (by rfl) (by assumption) ?_ ?_; rotate_left; · (intro w hSw; go_simp; (try with_reducible rfl)))
    (try simp only [Act.put, List.setIfInBounds_toArray, List.set_cons_zero, List.set_cons_succ])
    refine wpAnyH_done (by kernel_rfl) ?_ _
    refine NoPanic.normal ?_
    clear hC
    go_wp2_with fail
    go_ret2
    exact ⟨rfl, (((H2.pick 2 rfl).tail))⟩
  have n1 := c_
  have b1 : (wh == 1) = false := by simpa using c_
  clear c_
  by_cases c_ : wh = 2
  · subst c_
    have H1 := (((H.alloc #[.int .i64 2, .int .i64 kg, .int .i64 kl, .int .i64 kr, .int .i64 p, .int .i64 i, .int .i64 to_, .bool rw_, .bool ru, .bool rx, .int .u64 v] 36).pick 1 rfl).pick 2 rfl).pick 1 rfl
    have hC := fun {z : World} {l' : List Th} (H' : SepC w0 z (gdT dd gq mp q hp hb t 40 4 8 8 gl16 (d) :: l')) => H'.kChild p i to_ ⟨rw_, ru, rx⟩ hw2 hw3
    simp only [Rg.cs] at hC
    simp
    go_enter Try.func13, Try.ntmps13
    go_upto_region 8 with fail
    generalize w.alloc (.cells #[.int .i64 2, .int .i64 kg, .int .i64 kl, .int .i64 kr, .int .i64 p, .int .i64 i, .int .i64 to_, .bool rw_, .bool ru, .bool rx, .int .u64 v] 36) = w1 at *
    generalize w.heap.size = ob at *
    clear H
    have HH := H1.new (Chg.refl [] w1).drew
    refine wp_region_noPanic ?_
    refine wp_region_held_drew (S := (fun w' => Blk w' wb 43 (wdC hp gq q t dd) ∧ Blk w' ob 36 #[.int .i64 2, .int .i64 kg, .int .i64 kl, .int .i64 kr, .int .i64 p, .int .i64 i, .int .i64 to_, .bool rw_, .bool ru, .bool rx, .int .u64 v])) (by kernel_rfl) ?_ (fun hHeld => ?_)
    · exact ⟨(HH.pick 1 rfl).blk, (HH.pick 2 rfl).blk⟩
    (refine take_on 0 (some 28) (v := ?_) rfl rfl (by kernel_rfl) (by kernel_rfl) (by kernel_rfl) (fun _ _ _ h => h) (by rfl) (by assumption) ?_ ?_; rotate_left; · (intro w hSw; go_simp; (try with_reducible rfl)))
    (try simp only [Act.put, List.setIfInBounds_toArray, List.set_cons_zero, List.set_cons_succ])
    (refine take_on 1 (some 29) (v := ?_) rfl rfl (by kernel_rfl) (by kernel_rfl) (by kernel_rfl) (fun _ _ _ h => h) (by rfl) (by assumption) ?_ ?_; rotate_left; · (intro w hSw; go_simp; (try with_reducible rfl)))
    (try simp only [Act.put, List.setIfInBounds_toArray, List.set_cons_zero, List.set_cons_succ])
    (refine take_on 2 (some 30) (v := ?_) rfl rfl (by kernel_rfl) (by kernel_rfl) (by kernel_rfl) (fun _ _ _ h => h) (by rfl) (by assumption) ?_ ?_; rotate_left; · (intro w hSw; go_simp; (try with_reducible rfl)))
    (try simp only [Act.put, List.setIfInBounds_toArray, List.set_cons_zero, List.set_cons_succ])
    (refine take_on 3 (some 31) (v := ?_) rfl rfl (by kernel_rfl) (by kernel_rfl) (by kernel_rfl) (fun _ _ _ h => h) (by rfl) (by assumption) ?_ ?_; rotate_left; · (intro w hSw; (try dsimp only at hSw); have bw_ := hSw.1; unfold wdC at bw_; have w_ := bw_.cell 2; simp only [List.getElem?_toArray, List.getElem?_cons_zero, List.getElem?_cons_succ] at w_; go_simp; (try with_reducible rfl)))
    (try simp only [Act.put, List.setIfInBounds_toArray, List.set_cons_zero, List.set_cons_succ])
    (refine take_on 4 (some 32) (v := ?_) rfl rfl (by kernel_rfl) (by kernel_rfl) (by kernel_rfl) (fun _ _ _ h => h) (by rfl) (by assumption) ?_ ?_; rotate_left; · (intro w hSw; go_simp; (try with_reducible rfl)))
    (try simp only [Act.put, List.setIfInBounds_toArray, List.set_cons_zero, List.set_cons_succ])
    (refine take_on 5 (some 33) (v := ?_) rfl rfl (by kernel_rfl) (by kernel_rfl) (by kernel_rfl) (fun _ _ _ h => h) (by rfl) (by assumption) ?_ ?_; rotate_left; · (intro w hSw; (try dsimp only at hSw); have bo_ := hSw.2; have o4_ := bo_.cell 4; simp only [List.getElem?_toArray, List.getElem?_cons_zero, List.getElem?_cons_succ] at o4_; go_simp; (try with_reducible rfl)))
    (try simp only [Act.put, List.setIfInBounds_toArray, List.set_cons_zero, List.set_cons_succ])
    (refine take_on 6 (some 34) (v := ?_) rfl rfl (by kernel_rfl) (by kernel_rfl) (by kernel_rfl) (fun _ _ _ h => h) (by rfl) (by assumption) ?_ ?_; rotate_left; · (intro w hSw; go_simp; (try with_reducible rfl)))
    (try simp only [Act.put, List.setIfInBounds_toArray, List.set_cons_zero, List.set_cons_succ])
    (refine take_on 7 (some 35) (v := ?_) rfl rfl (by kernel_rfl) (by kernel_rfl) (by kernel_rfl) (fun _ _ _ h => h) (by rfl) (by assumption) ?_ ?_; rotate_left; · (intro w hSw; (try dsimp only at hSw); have bo_ := hSw.2; have o5_ := bo_.cell 5; simp only [List.getElem?_toArray, List.getElem?_cons_zero, List.getElem?_cons_succ] at o5_; go_simp; (try with_reducible rfl)))
    (try simp only [Act.put, List.setIfInBounds_toArray, List.set_cons_zero, List.set_cons_succ])
    (refine take_on 8 (some 36) (v := ?_) rfl rfl (by kernel_rfl) (by kernel_rfl) (by kernel_rfl) (fun _ _ _ h => h) (by rfl) (by assumption) ?_ ?_; rotate_left; · (intro w hSw; go_simp; (try with_reducible rfl)))
    (try simp only [Act.put, List.setIfInBounds_toArray, List.set_cons_zero, List.set_cons_succ])
    (refine take_on 9 (some 37) (v := ?_) rfl rfl (by kernel_rfl) (by kernel_rfl) (by kernel_rfl) (fun _ _ _ h => h) (by rfl) (by assumption) ?_ ?_; rotate_left; · (intro w hSw; (try dsimp only at hSw); have bo_ := hSw.2; have o6_ := bo_.cell 6; simp only [List.getElem?_toArray, List.getElem?_cons_zero, List.getElem?_cons_succ] at o6_; go_simp; (try with_reducible rfl)))
    (try simp only [Act.put, List.setIfInBounds_toArray, List.set_cons_zero, List.set_cons_succ])
    (refine take_on 10 (some 38) (v := ?_) rfl rfl (by kernel_rfl) (by kernel_rfl) (by kernel_rfl) (fun _ _ _ h => h) (by rfl) (by assumption) ?_ ?_; rotate_left; · (intro w hSw; go_simp; (try with_reducible rfl)))
    (try simp only [Act.put, List.setIfInBounds_toArray, List.set_cons_zero, List.set_cons_succ])
    (refine take_on 11 (some 39) (v := ?_) rfl rfl (by kernel_rfl) (by kernel_rfl) (by kernel_rfl) (fun _ _ _ h => h) (by rfl) (by assumption) ?_ ?_; rotate_left; · (intro w hSw; (try dsimp only at hSw); have bo_ := hSw.2; have o7_ := bo_.cell 7; have o8_ := bo_.cell 8; have o9_ := bo_.cell 9; simp only [List.getElem?_toArray, List.getElem?_cons_zero, List.getElem?_cons_succ] at o7_ o8_ o9_; go_simp; (try with_reducible rfl)))
    (try simp only [Act.put, List.setIfInBounds_toArray, List.set_cons_zero, List.set_cons_succ])
    refine wpAnyH_ready (rs := [12]) (by kernel_rfl) (by simp) ?_; refine AllReadyH.cons (o := _) rfl (fun K hK => ?_) AllReadyH.nil
    go_simp
    (go_at_call 37; refine (hC HH).mono ?_; rintro e u1 ⟨rfl, H2⟩)
    refine hK.out _ _ (by (try dsimp only); exact ⟨(H2.pick 1 rfl).blk, (H2.pick 2 rfl).blk⟩) (fun hHeld => ?_)
    clear hK K
    (try simp only [Act.put, List.setIfInBounds_toArray, List.set_cons_zero, List.set_cons_succ])
    (refine take_on 13 (some 4) (v := ?_) rfl rfl (by kernel_rfl) (by kernel_rfl) (by kernel_rfl) (fun _ _ _ h => h) (by rfl) (by assumption) ?_ ?_; rotate_left; · (intro w hSw; go_simp; (try with_reducible rfl)))
    (try simp only [Act.put, List.setIfInBounds_toArray, List.set_cons_zero, List.set_cons_succ])
    (refine take_on 14 (some 5) (v := ?_) rfl rfl (by kernel_rfl) (by kernel_rfl) (by kernel_rfl) (fun _ _ _ h => h) (by rfl) (by assumption) ?_ ?_; rotate_left; · (intro w hSw; go_simp; (try with_reducible rfl)))
    (try simp only [Act.put, List.setIfInBounds_toArray, List.set_cons_zero, List.set_cons_succ])
    refine wpAnyH_done (by kernel_rfl) ?_ _
    refine NoPanic.normal ?_
    clear hC
    go_wp2_with fail
    go_ret2
    exact ⟨rfl, (((H2.pick 2 rfl).tail))⟩
  have n2 := c_
  have b2 : (wh == 2) = false := by simpa using c_
  clear c_
  by_cases c_ : wh = 3
  · subst c_
    have H1 := (((H.alloc #[.int .i64 3, .int .i64 kg, .int .i64 kl, .int .i64 kr, .int .i64 p, .int .i64 i, .int .i64 to_, .bool rw_, .bool ru, .bool rx, .int .u64 v] 36).pick 1 rfl).pick 2 rfl).pick 1 rfl
    have hC := fun {z : World} {l' : List Th} (H' : SepC w0 z (gdT dd gq mp q hp hb t 40 4 8 8 gl16 (d) :: l')) => H'.kChild p i to_ ⟨rw_, ru, rx⟩ hw2 hw3
    simp only [Rg.cs] at hC
    simp
    go_enter Try.func13, Try.ntmps13
    go_upto_region 8 with fail
    generalize w.alloc (.cells #[.int .i64 3, .int .i64 kg, .int .i64 kl, .int .i64 kr, .int .i64 p, .int .i64 i, .int .i64 to_, .bool rw_, .bool ru, .bool rx, .int .u64 v] 36) = w1 at *
    generalize w.heap.size = ob at *
    clear H
    have HH := H1.new (Chg.refl [] w1).drew
    refine wp_region_noPanic ?_
    refine wp_region_held_drew (S := (fun w' => Blk w' wb 43 (wdC hp gq q t dd) ∧ Blk w' ob 36 #[.int .i64 3, .int .i64 kg, .int .i64 kl, .int .i64 kr, .int .i64 p, .int .i64 i, .int .i64 to_, .bool rw_, .bool ru, .bool rx, .int .u64 v])) (by kernel_rfl) ?_ (fun hHeld => ?_)
    · exact ⟨(HH.pick 1 rfl).blk, (HH.pick 2 rfl).blk⟩
    (refine take_on 0 (some 28) (v := ?_) rfl rfl (by kernel_rfl) (by kernel_rfl) (by kernel_rfl) (fun _ _ _ h => h) (by rfl) (by assumption) ?_ ?_; rotate_left; · (intro w hSw; go_simp; (try with_reducible rfl)))
    (try simp only [Act.put, List.setIfInBounds_toArray, List.set_cons_zero, List.set_cons_succ])
    (refine take_on 1 (some 29) (v := ?_) rfl rfl (by kernel_rfl) (by kernel_rfl) (by kernel_rfl) (fun _ _ _ h => h) (by rfl) (by assumption) ?_ ?_; rotate_left; · (intro w hSw; go_simp; (try with_reducible rfl)))
    (try simp only [Act.put, List.setIfInBounds_toArray, List.set_cons_zero, List.set_cons_succ])
    (refine take_on 2 (some 30) (v := ?_) rfl rfl (by kernel_rfl) (by kernel_rfl) (by kernel_rfl) (fun _ _ _ h => h) (by rfl) (by assumption) ?_ ?_; rotate_left; · (intro w hSw; go_simp; (try with_reducible rfl)))
    (try simp only [Act.put, List.setIfInBounds_toArray, List.set_cons_zero, List.set_cons_succ])
    (refine take_on 3 (some 31) (v := ?_) rfl rfl (by kernel_rfl) (by kernel_rfl) (by kernel_rfl) (fun _ _ _ h => h) (by rfl) (by assumption) ?_ ?_; rotate_left; · (intro w hSw; (try dsimp only at hSw); have bw_ := hSw.1; unfold wdC at bw_; have w_ := bw_.cell 2; simp only [List.getElem?_toArray, List.getElem?_cons_zero, List.getElem?_cons_succ] at w_; go_simp; (try with_reducible rfl)))
    (try simp only [Act.put, List.setIfInBounds_toArray, List.set_cons_zero, List.set_cons_succ])
    (refine take_on 4 (some 32) (v := ?_) rfl rfl (by kernel_rfl) (by kernel_rfl) (by kernel_rfl) (fun _ _ _ h => h) (by rfl) (by assumption) ?_ ?_; rotate_left; · (intro w hSw; go_simp; (try with_reducible rfl)))
    (try simp only [Act.put, List.setIfInBounds_toArray, List.set_cons_zero, List.set_cons_succ])
    (refine take_on 5 (some 33) (v := ?_) rfl rfl (by kernel_rfl) (by kernel_rfl) (by kernel_rfl) (fun _ _ _ h => h) (by rfl) (by assumption) ?_ ?_; rotate_left; · (intro w hSw; (try dsimp only at hSw); have bo_ := hSw.2; have o4_ := bo_.cell 4; simp only [List.getElem?_toArray, List.getElem?_cons_zero, List.getElem?_cons_succ] at o4_; go_simp; (try with_reducible rfl)))
    (try simp only [Act.put, List.setIfInBounds_toArray, List.set_cons_zero, List.set_cons_succ])
    (refine take_on 6 (some 34) (v := ?_) rfl rfl (by kernel_rfl) (by kernel_rfl) (by kernel_rfl) (fun _ _ _ h => h) (by rfl) (by assumption) ?_ ?_; rotate_left; · (intro w hSw; go_simp; (try with_reducible rfl)))
    (try simp only [Act.put, List.setIfInBounds_toArray, List.set_cons_zero, List.set_cons_succ])
    (refine take_on 7 (some 35) (v := ?_) rfl rfl (by kernel_rfl) (by kernel_rfl) (by kernel_rfl) (fun _ _ _ h => h) (by rfl) (by assumption) ?_ ?_; rotate_left; · (intro w hSw; (try dsimp only at hSw); have bo_ := hSw.2; have o5_ := bo_.cell 5; simp only [List.getElem?_toArray, List.getElem?_cons_zero, List.getElem?_cons_succ] at o5_; go_simp; (try with_reducible rfl)))
    (try simp only [Act.put, List.setIfInBounds_toArray, List.set_cons_zero, List.set_cons_succ])
    (refine take_on 8 (some 36) (v := ?_) rfl rfl (by kernel_rfl) (by kernel_rfl) (by kernel_rfl) (fun _ _ _ h => h) (by rfl) (by assumption) ?_ ?_; rotate_left; · (intro w hSw; go_simp; (try with_reducible rfl)))
    (try simp only [Act.put, List.setIfInBounds_toArray, List.set_cons_zero, List.set_cons_succ])
    (refine take_on 9 (some 37) (v := ?_) rfl rfl (by kernel_rfl) (by kernel_rfl) (by kernel_rfl) (fun _ _ _ h => h) (by rfl) (by assumption) ?_ ?_; rotate_left; · (intro w hSw; (try dsimp only at hSw); have bo_ := hSw.2; have o6_ := bo_.cell 6; simp only [List.getElem?_toArray, List.getElem?_cons_zero, List.getElem?_cons_succ] at o6_; go_simp; (try with_reducible rfl)))
    (try simp only [Act.put, List.setIfInBounds_toArray, List.set_cons_zero, List.set_cons_succ])
    (refine take_on 10 (some 38) (v := ?_) rfl rfl (by kernel_rfl) (by kernel_rfl) (by kernel_rfl) (fun _ _ _ h => h) (by rfl) (by assumption) ?_ ?_; rotate_left; · (intro w hSw; go_simp; (try with_reducible rfl)))
    (try simp only [Act.put, List.setIfInBounds_toArray, List.set_cons_zero, List.set_cons_succ])
    (refine take_on 11 (some 39) (v := ?_) rfl rfl (by kernel_rfl) (by kernel_rfl) (by kernel_rfl) (fun _ _ _ h => h) (by rfl) (by assumption) ?_ ?_; rotate_left; · (intro w hSw; (try dsimp only at hSw); have bo_ := hSw.2; have o7_ := bo_.cell 7; have o8_ := bo_.cell 8; have o9_ := bo_.cell 9; simp only [List.getElem?_toArray, List.getElem?_cons_zero, List.getElem?_cons_succ] at o7_ o8_ o9_; go_simp; (try with_reducible rfl)))
    (try simp only [Act.put, List.setIfInBounds_toArray, List.set_cons_zero, List.set_cons_succ])
    refine wpAnyH_ready (rs := [12]) (by kernel_rfl) (by simp) ?_; refine AllReadyH.cons (o := _) rfl (fun K hK => ?_) AllReadyH.nil
    go_simp
    (go_at_call 37; refine (hC HH).mono ?_; rintro e u1 ⟨rfl, H2⟩)
    refine hK.out _ _ (by (try dsimp only); exact ⟨(H2.pick 1 rfl).blk, (H2.pick 2 rfl).blk⟩) (fun hHeld => ?_)
    clear hK K
    (try simp only [Act.put, List.setIfInBounds_toArray, List.set_cons_zero, List.set_cons_succ])
    (refine take_on 13 (some 4) (v := ?_) rfl rfl (by kernel_rfl) (by kernel_rfl) (by kernel_rfl) (fun _ _ _ h => h) (by rfl) (by assumption) ?_ ?_; rotate_left; · (intro w hSw; go_simp; (try with_reducible rfl)))
    (try simp only [Act.put, List.setIfInBounds_toArray, List.set_cons_zero, List.set_cons_succ])
    (refine take_on 14 (some 5) (v := ?_) rfl rfl (by kernel_rfl) (by kernel_rfl) (by kernel_rfl) (fun _ _ _ h => h) (by rfl) (by assumption) ?_ ?_; rotate_left; · (intro w hSw; go_simp; (try with_reducible rfl)))
    (try simp only [Act.put, List.setIfInBounds_toArray, List.set_cons_zero, List.set_cons_succ])
    refine wpAnyH_done (by kernel_rfl) ?_ _
    refine NoPanic.normal ?_
    clear hC
    go_wp2_with fail
    go_ret2
    exact ⟨rfl, (((H2.pick 2 rfl).tail))⟩
  have n3 := c_
  have b3 : (wh == 3) = false := by simpa using c_
  clear c_
  by_cases c_ : wh = 4
  · subst c_
    have H1 := (((H.alloc #[.int .i64 4, .int .i64 kg, .int .i64 kl, .int .i64 kr, .int .i64 p, .int .i64 i, .int .i64 to_, .bool rw_, .bool ru, .bool rx, .int .u64 v] 36).pick 1 rfl).pick 2 rfl).pick 1 rfl
    have hC := fun {z : World} {l' : List Th} (H' : SepC w0 z (gdT dd gq mp q hp hb t 40 4 8 8 gl16 (d) :: l')) => H'.kLeaf p i to_ (24 + to_ % 16) ⟨rw_, ru, rx⟩ hw2
    simp only [Rg.cs] at hC
    have hand := and15 to_
    have hwr : IntKind.i64.wrap (24 + to_ % 16) = 24 + to_ % 16 := IntWalk.i64_in _ (by omega)
    have hwr2 : wrap64 (24 + to_ % 16) = 24 + to_ % 16 := by unfold wrap64; omega
    simp
    go_enter Try.func13, Try.ntmps13
    go_upto_region 11 with fail
    generalize w.alloc (.cells #[.int .i64 4, .int .i64 kg, .int .i64 kl, .int .i64 kr, .int .i64 p, .int .i64 i, .int .i64 to_, .bool rw_, .bool ru, .bool rx, .int .u64 v] 36) = w1 at *
    generalize w.heap.size = ob at *
    clear H
    have HH := H1.new (Chg.refl [] w1).drew
    refine wp_region_noPanic ?_
    refine wp_region_held_drew (S := (fun w' => Blk w' wb 43 (wdC hp gq q t dd) ∧ Blk w' ob 36 #[.int .i64 4, .int .i64 kg, .int .i64 kl, .int .i64 kr, .int .i64 p, .int .i64 i, .int .i64 to_, .bool rw_, .bool ru, .bool rx, .int .u64 v])) (by kernel_rfl) ?_ (fun hHeld => ?_)
    · exact ⟨(HH.pick 1 rfl).blk, (HH.pick 2 rfl).blk⟩
    (refine take_on 0 (some 44) (v := ?_) rfl rfl (by kernel_rfl) (by kernel_rfl) (by kernel_rfl) (fun _ _ _ h => h) (by rfl) (by assumption) ?_ ?_; rotate_left; · (intro w hSw; go_simp; (try with_reducible rfl)))
    (try simp only [Act.put, List.setIfInBounds_toArray, List.set_cons_zero, List.set_cons_succ])
    (refine take_on 1 (some 45) (v := ?_) rfl rfl (by kernel_rfl) (by kernel_rfl) (by kernel_rfl) (fun _ _ _ h => h) (by rfl) (by assumption) ?_ ?_; rotate_left; · (intro w hSw; go_simp; (try with_reducible rfl)))
    (try simp only [Act.put, List.setIfInBounds_toArray, List.set_cons_zero, List.set_cons_succ])
    (refine take_on 2 (some 46) (v := ?_) rfl rfl (by kernel_rfl) (by kernel_rfl) (by kernel_rfl) (fun _ _ _ h => h) (by rfl) (by assumption) ?_ ?_; rotate_left; · (intro w hSw; go_simp; (try with_reducible rfl)))
    (try simp only [Act.put, List.setIfInBounds_toArray, List.set_cons_zero, List.set_cons_succ])
    (refine take_on 3 (some 47) (v := ?_) rfl rfl (by kernel_rfl) (by kernel_rfl) (by kernel_rfl) (fun _ _ _ h => h) (by rfl) (by assumption) ?_ ?_; rotate_left; · (intro w hSw; (try dsimp only at hSw); have bw_ := hSw.1; unfold wdC at bw_; have w_ := bw_.cell 2; simp only [List.getElem?_toArray, List.getElem?_cons_zero, List.getElem?_cons_succ] at w_; go_simp; (try with_reducible rfl)))
    (try simp only [Act.put, List.setIfInBounds_toArray, List.set_cons_zero, List.set_cons_succ])
    (refine take_on 4 (some 48) (v := ?_) rfl rfl (by kernel_rfl) (by kernel_rfl) (by kernel_rfl) (fun _ _ _ h => h) (by rfl) (by assumption) ?_ ?_; rotate_left; · (intro w hSw; go_simp; (try with_reducible rfl)))
    (try simp only [Act.put, List.setIfInBounds_toArray, List.set_cons_zero, List.set_cons_succ])
    (refine take_on 5 (some 49) (v := ?_) rfl rfl (by kernel_rfl) (by kernel_rfl) (by kernel_rfl) (fun _ _ _ h => h) (by rfl) (by assumption) ?_ ?_; rotate_left; · (intro w hSw; (try dsimp only at hSw); have bo_ := hSw.2; have o4_ := bo_.cell 4; simp only [List.getElem?_toArray, List.getElem?_cons_zero, List.getElem?_cons_succ] at o4_; go_simp; (try with_reducible rfl)))
    (try simp only [Act.put, List.setIfInBounds_toArray, List.set_cons_zero, List.set_cons_succ])
    (refine take_on 6 (some 50) (v := ?_) rfl rfl (by kernel_rfl) (by kernel_rfl) (by kernel_rfl) (fun _ _ _ h => h) (by rfl) (by assumption) ?_ ?_; rotate_left; · (intro w hSw; go_simp; (try with_reducible rfl)))
    (try simp only [Act.put, List.setIfInBounds_toArray, List.set_cons_zero, List.set_cons_succ])
    (refine take_on 7 (some 51) (v := ?_) rfl rfl (by kernel_rfl) (by kernel_rfl) (by kernel_rfl) (fun _ _ _ h => h) (by rfl) (by assumption) ?_ ?_; rotate_left; · (intro w hSw; (try dsimp only at hSw); have bo_ := hSw.2; have o5_ := bo_.cell 5; simp only [List.getElem?_toArray, List.getElem?_cons_zero, List.getElem?_cons_succ] at o5_; go_simp; (try with_reducible rfl)))
    (try simp only [Act.put, List.setIfInBounds_toArray, List.set_cons_zero, List.set_cons_succ])
    (refine take_on 8 (some 52) (v := ?_) rfl rfl (by kernel_rfl) (by kernel_rfl) (by kernel_rfl) (fun _ _ _ h => h) (by rfl) (by assumption) ?_ ?_; rotate_left; · (intro w hSw; go_simp; (try with_reducible rfl)))
    (try simp only [Act.put, List.setIfInBounds_toArray, List.set_cons_zero, List.set_cons_succ])
    (refine take_on 9 (some 53) (v := ?_) rfl rfl (by kernel_rfl) (by kernel_rfl) (by kernel_rfl) (fun _ _ _ h => h) (by rfl) (by assumption) ?_ ?_; rotate_left; · (intro w hSw; (try dsimp only at hSw); have bo_ := hSw.2; have o6_ := bo_.cell 6; simp only [List.getElem?_toArray, List.getElem?_cons_zero, List.getElem?_cons_succ] at o6_; go_simp; (try with_reducible rfl)))
    (try simp only [Act.put, List.setIfInBounds_toArray, List.set_cons_zero, List.set_cons_succ])
    (refine take_on 10 (some 54) (v := ?_) rfl rfl (by kernel_rfl) (by kernel_rfl) (by kernel_rfl) (fun _ _ _ h => h) (by rfl) (by assumption) ?_ ?_; rotate_left; · (intro w hSw; go_simp; (try with_reducible rfl)))
    (try simp only [Act.put, List.setIfInBounds_toArray, List.set_cons_zero, List.set_cons_succ])
    (refine take_on 11 (some 55) (v := ?_) rfl rfl (by kernel_rfl) (by kernel_rfl) (by kernel_rfl) (fun _ _ _ h => h) (by rfl) (by assumption) ?_ ?_; rotate_left; · (intro w hSw; (try dsimp only at hSw); have bo_ := hSw.2; have o6_ := bo_.cell 6; simp only [List.getElem?_toArray, List.getElem?_cons_zero, List.getElem?_cons_succ] at o6_; go_simp; (try with_reducible rfl)))
    (try simp only [Act.put, List.setIfInBounds_toArray, List.set_cons_zero, List.set_cons_succ])
    (refine take_on 12 (some 56) (v := ?_) rfl rfl (by kernel_rfl) (by kernel_rfl) (by kernel_rfl) (fun _ _ _ h => h) (by rfl) (by assumption) ?_ ?_; rotate_left; · (intro w hSw; go_simp; (try with_reducible rfl)))
    (try simp only [Act.put, List.setIfInBounds_toArray, List.set_cons_zero, List.set_cons_succ])
    (refine take_on 13 (some 57) (v := ?_) rfl rfl (by kernel_rfl) (by kernel_rfl) (by kernel_rfl) (fun _ _ _ h => h) (by rfl) (by assumption) ?_ ?_; rotate_left; · (intro w hSw; go_simp; (try with_reducible rfl)))
    (try simp only [Act.put, List.setIfInBounds_toArray, List.set_cons_zero, List.set_cons_succ])
    (refine take_on 14 (some 58) (v := ?_) rfl rfl (by kernel_rfl) (by kernel_rfl) (by kernel_rfl) (fun _ _ _ h => h) (by rfl) (by assumption) ?_ ?_; rotate_left; · (intro w hSw; go_simp; (try with_reducible rfl)))
    (try simp only [Act.put, List.setIfInBounds_toArray, List.set_cons_zero, List.set_cons_succ])
    (refine take_on 15 (some 59) (v := ?_) rfl rfl (by kernel_rfl) (by kernel_rfl) (by kernel_rfl) (fun _ _ _ h => h) (by rfl) (by assumption) ?_ ?_; rotate_left; · (intro w hSw; (try dsimp only at hSw); have bo_ := hSw.2; have o7_ := bo_.cell 7; have o8_ := bo_.cell 8; have o9_ := bo_.cell 9; simp only [List.getElem?_toArray, List.getElem?_cons_zero, List.getElem?_cons_succ] at o7_ o8_ o9_; go_simp; (try with_reducible rfl)))
    (try simp only [Act.put, List.setIfInBounds_toArray, List.set_cons_zero, List.set_cons_succ])
    refine wpAnyH_ready (rs := [16]) (by kernel_rfl) (by simp) ?_; refine AllReadyH.cons (o := _) rfl (fun K hK => ?_) AllReadyH.nil
    go_simp
    (go_at_call 38; refine (hC HH).mono ?_; rintro e u1 ⟨rfl, H2⟩)
    refine hK.out _ _ (by (try dsimp only); exact ⟨(H2.pick 1 rfl).blk, (H2.pick 2 rfl).blk⟩) (fun hHeld => ?_)
    clear hK K
    (try simp only [Act.put, List.setIfInBounds_toArray, List.set_cons_zero, List.set_cons_succ])
    (refine take_on 17 (some 4) (v := ?_) rfl rfl (by kernel_rfl) (by kernel_rfl) (by kernel_rfl) (fun _ _ _ h => h) (by rfl) (by assumption) ?_ ?_; rotate_left; · (intro w hSw; go_simp; (try with_reducible rfl)))
    (try simp only [Act.put, List.setIfInBounds_toArray, List.set_cons_zero, List.set_cons_succ])
    (refine take_on 18 (some 5) (v := ?_) rfl rfl (by kernel_rfl) (by kernel_rfl) (by kernel_rfl) (fun _ _ _ h => h) (by rfl) (by assumption) ?_ ?_; rotate_left; · (intro w hSw; go_simp; (try with_reducible rfl)))
    (try simp only [Act.put, List.setIfInBounds_toArray, List.set_cons_zero, List.set_cons_succ])
    refine wpAnyH_done (by kernel_rfl) ?_ _
    refine NoPanic.normal ?_
    clear hC
    go_wp2_with fail
    go_ret2
    exact ⟨rfl, (((H2.pick 2 rfl).tail))⟩
  have n4 := c_
  have b4 : (wh == 4) = false := by simpa using c_
  clear c_
  by_cases c_ : wh = 5
  · subst c_
    have H1 := (((H.alloc #[.int .i64 5, .int .i64 kg, .int .i64 kl, .int .i64 kr, .int .i64 p, .int .i64 i, .int .i64 to_, .bool rw_, .bool ru, .bool rx, .int .u64 v] 36).pick 1 rfl).pick 2 rfl).pick 1 rfl
    have hC := fun {z : World} {l' : List Th} (H' : SepC w0 z (gdT dd gq mp q hp hb t 40 4 8 8 gl16 (d) :: l')) => H'.kLeaf p i to_ (24 + to_ % 16) ⟨rw_, ru, rx⟩ hw2
    simp only [Rg.cs] at hC
    have hand := and15 to_
    have hwr : IntKind.i64.wrap (24 + to_ % 16) = 24 + to_ % 16 := IntWalk.i64_in _ (by omega)
    have hwr2 : wrap64 (24 + to_ % 16) = 24 + to_ % 16 := by unfold wrap64; omega
    simp
    go_enter Try.func13, Try.ntmps13
    go_upto_region 11 with fail
    generalize w.alloc (.cells #[.int .i64 5, .int .i64 kg, .int .i64 kl, .int .i64 kr, .int .i64 p, .int .i64 i, .int .i64 to_, .bool rw_, .bool ru, .bool rx, .int .u64 v] 36) = w1 at *
    generalize w.heap.size = ob at *
    clear H
    have HH := H1.new (Chg.refl [] w1).drew
    refine wp_region_noPanic ?_
    refine wp_region_held_drew (S := (fun w' => Blk w' wb 43 (wdC hp gq q t dd) ∧ Blk w' ob 36 #[.int .i64 5, .int .i64 kg, .int .i64 kl, .int .i64 kr, .int .i64 p, .int .i64 i, .int .i64 to_, .bool rw_, .bool ru, .bool rx, .int .u64 v])) (by kernel_rfl) ?_ (fun hHeld => ?_)
    · exact ⟨(HH.pick 1 rfl).blk, (HH.pick 2 rfl).blk⟩
    (refine take_on 0 (some 44) (v := ?_) rfl rfl (by kernel_rfl) (by kernel_rfl) (by kernel_rfl) (fun _ _ _ h => h) (by rfl) (by assumption) ?_ ?_; rotate_left; · (intro w hSw; go_simp; (try with_reducible rfl)))
    (try simp only [Act.put, List.setIfInBounds_toArray, List.set_cons_zero, List.set_cons_succ])
    (refine take_on 1 (some 45) (v := ?_) rfl rfl (by kernel_rfl) (by kernel_rfl) (by kernel_rfl) (fun _ _ _ h => h) (by rfl) (by assumption) ?_ ?_; rotate_left; · (intro w hSw; go_simp; (try with_reducible rfl)))
    (try simp only [Act.put, List.setIfInBounds_toArray, List.set_cons_zero, List.set_cons_succ])
    (refine take_on 2 (some 46) (v := ?_) rfl rfl (by kernel_rfl) (by kernel_rfl) (by kernel_rfl) (fun _ _ _ h => h) (by rfl) (by assumption) ?_ ?_; rotate_left; · (intro w hSw; go_simp; (try with_reducible rfl)))
    (try simp only [Act.put, List.setIfInBounds_toArray, List.set_cons_zero, List.set_cons_succ])
    (refine take_on 3 (some 47) (v := ?_) rfl rfl (by kernel_rfl) (by kernel_rfl) (by kernel_rfl) (fun _ _ _ h => h) (by rfl) (by assumption) ?_ ?_; rotate_left; · (intro w hSw; (try dsimp only at hSw); have bw_ := hSw.1; unfold wdC at bw_; have w_ := bw_.cell 2; simp only [List.getElem?_toArray, List.getElem?_cons_zero, List.getElem?_cons_succ] at w_; go_simp; (try with_reducible rfl)))
    (try simp only [Act.put, List.setIfInBounds_toArray, List.set_cons_zero, List.set_cons_succ])
    (refine take_on 4 (some 48) (v := ?_) rfl rfl (by kernel_rfl) (by kernel_rfl) (by kernel_rfl) (fun _ _ _ h => h) (by rfl) (by assumption) ?_ ?_; rotate_left; · (intro w hSw; go_simp; (try with_reducible rfl)))
    (try simp only [Act.put, List.setIfInBounds_toArray, List.set_cons_zero, List.set_cons_succ])
    (refine take_on 5 (some 49) (v := ?_) rfl rfl (by kernel_rfl) (by kernel_rfl) (by kernel_rfl) (fun _ _ _ h => h) (by rfl) (by assumption) ?_ ?_; rotate_left; · (intro w hSw; (try dsimp only at hSw); have bo_ := hSw.2; have o4_ := bo_.cell 4; simp only [List.getElem?_toArray, List.getElem?_cons_zero, List.getElem?_cons_succ] at o4_; go_simp; (try with_reducible rfl)))
    (try simp only [Act.put, List.setIfInBounds_toArray, List.set_cons_zero, List.set_cons_succ])
    (refine take_on 6 (some 50) (v := ?_) rfl rfl (by kernel_rfl) (by kernel_rfl) (by kernel_rfl) (fun _ _ _ h => h) (by rfl) (by assumption) ?_ ?_; rotate_left; · (intro w hSw; go_simp; (try with_reducible rfl)))
    (try simp only [Act.put, List.setIfInBounds_toArray, List.set_cons_zero, List.set_cons_succ])
    (refine take_on 7 (some 51) (v := ?_) rfl rfl (by kernel_rfl) (by kernel_rfl) (by kernel_rfl) (fun _ _ _ h => h) (by rfl) (by assumption) ?_ ?_; rotate_left; · (intro w hSw; (try dsimp only at hSw); have bo_ := hSw.2; have o5_ := bo_.cell 5; simp only [List.getElem?_toArray, List.getElem?_cons_zero, List.getElem?_cons_succ] at o5_; go_simp; (try with_reducible rfl)))
    (try simp only [Act.put, List.setIfInBounds_toArray, List.set_cons_zero, List.set_cons_succ])
    (refine take_on 8 (some 52) (v := ?_) rfl rfl (by kernel_rfl) (by kernel_rfl) (by kernel_rfl) (fun _ _ _ h => h) (by rfl) (by assumption) ?_ ?_; rotate_left; · (intro w hSw; go_simp; (try with_reducible rfl)))
    (try simp only [Act.put, List.setIfInBounds_toArray, List.set_cons_zero, List.set_cons_succ])
    (refine take_on 9 (some 53) (v := ?_) rfl rfl (by kernel_rfl) (by kernel_rfl) (by kernel_rfl) (fun _ _ _ h => h) (by rfl) (by assumption) ?_ ?_; rotate_left; · (intro w hSw; (try dsimp only at hSw); have bo_ := hSw.2; have o6_ := bo_.cell 6; simp only [List.getElem?_toArray, List.getElem?_cons_zero, List.getElem?_cons_succ] at o6_; go_simp; (try with_reducible rfl)))
    (try simp only [Act.put, List.setIfInBounds_toArray, List.set_cons_zero, List.set_cons_succ])
    (refine take_on 10 (some 54) (v := ?_) rfl rfl (by kernel_rfl) (by kernel_rfl) (by kernel_rfl) (fun _ _ _ h => h) (by rfl) (by assumption) ?_ ?_; rotate_left; · (intro w hSw; go_simp; (try with_reducible rfl)))
    (try simp only [Act.put, List.setIfInBounds_toArray, List.set_cons_zero, List.set_cons_succ])
    (refine take_on 11 (some 55) (v := ?_) rfl rfl (by kernel_rfl) (by kernel_rfl) (by kernel_rfl) (fun _ _ _ h => h) (by rfl) (by assumption) ?_ ?_; rotate_left; · (intro w hSw; (try dsimp only at hSw); have bo_ := hSw.2; have o6_ := bo_.cell 6; simp only [List.getElem?_toArray, List.getElem?_cons_zero, List.getElem?_cons_succ] at o6_; go_simp; (try with_reducible rfl)))
    (try simp only [Act.put, List.setIfInBounds_toArray, List.set_cons_zero, List.set_cons_succ])
    (refine take_on 12 (some 56) (v := ?_) rfl rfl (by kernel_rfl) (by kernel_rfl) (by kernel_rfl) (fun _ _ _ h => h) (by rfl) (by assumption) ?_ ?_; rotate_left; · (intro w hSw; go_simp; (try with_reducible rfl)))
    (try simp only [Act.put, List.setIfInBounds_toArray, List.set_cons_zero, List.set_cons_succ])
    (refine take_on 13 (some 57) (v := ?_) rfl rfl (by kernel_rfl) (by kernel_rfl) (by kernel_rfl) (fun _ _ _ h => h) (by rfl) (by assumption) ?_ ?_; rotate_left; · (intro w hSw; go_simp; (try with_reducible rfl)))
    (try simp only [Act.put, List.setIfInBounds_toArray, List.set_cons_zero, List.set_cons_succ])
    (refine take_on 14 (some 58) (v := ?_) rfl rfl (by kernel_rfl) (by kernel_rfl) (by kernel_rfl) (fun _ _ _ h => h) (by rfl) (by assumption) ?_ ?_; rotate_left; · (intro w hSw; go_simp; (try with_reducible rfl)))
    (try simp only [Act.put, List.setIfInBounds_toArray, List.set_cons_zero, List.set_cons_succ])
    (refine take_on 15 (some 59) (v := ?_) rfl rfl (by kernel_rfl) (by kernel_rfl) (by kernel_rfl) (fun _ _ _ h => h) (by rfl) (by assumption) ?_ ?_; rotate_left; · (intro w hSw; (try dsimp only at hSw); have bo_ := hSw.2; have o7_ := bo_.cell 7; have o8_ := bo_.cell 8; have o9_ := bo_.cell 9; simp only [List.getElem?_toArray, List.getElem?_cons_zero, List.getElem?_cons_succ] at o7_ o8_ o9_; go_simp; (try with_reducible rfl)))
    (try simp only [Act.put, List.setIfInBounds_toArray, List.set_cons_zero, List.set_cons_succ])
    refine wpAnyH_ready (rs := [16]) (by kernel_rfl) (by simp) ?_; refine AllReadyH.cons (o := _) rfl (fun K hK => ?_) AllReadyH.nil
    go_simp
    (go_at_call 38; refine (hC HH).mono ?_; rintro e u1 ⟨rfl, H2⟩)
    refine hK.out _ _ (by (try dsimp only); exact ⟨(H2.pick 1 rfl).blk, (H2.pick 2 rfl).blk⟩) (fun hHeld => ?_)
    clear hK K
    (try simp only [Act.put, List.setIfInBounds_toArray, List.set_cons_zero, List.set_cons_succ])
    (refine take_on 17 (some 4) (v := ?_) rfl rfl (by kernel_rfl) (by kernel_rfl) (by kernel_rfl) (fun _ _ _ h => h) (by rfl) (by assumption) ?_ ?_; rotate_left; · (intro w hSw; go_simp; (try with_reducible rfl)))
    (try simp only [Act.put, List.setIfInBounds_toArray, List.set_cons_zero, List.set_cons_succ])
    (refine take_on 18 (some 5) (v := ?_) rfl rfl (by kernel_rfl) (by kernel_rfl) (by kernel_rfl) (fun _ _ _ h => h) (by rfl) (by assumption) ?_ ?_; rotate_left; · (intro w hSw; go_simp; (try with_reducible rfl)))
    (try simp only [Act.put, List.setIfInBounds_toArray, List.set_cons_zero, List.set_cons_succ])
    refine wpAnyH_done (by kernel_rfl) ?_ _
    refine NoPanic.normal ?_
    clear hC
    go_wp2_with fail
    go_ret2
    exact ⟨rfl, (((H2.pick 2 rfl).tail))⟩
  have n5 := c_
  have b5 : (wh == 5) = false := by simpa using c_
  clear c_
  by_cases c_ : wh = 6
  · subst c_
    have H1 := (((H.alloc #[.int .i64 6, .int .i64 kg, .int .i64 kl, .int .i64 kr, .int .i64 p, .int .i64 i, .int .i64 to_, .bool rw_, .bool ru, .bool rx, .int .u64 v] 36).pick 1 rfl).pick 2 rfl).pick 1 rfl
    have hC := fun {z : World} {l' : List Th} (H' : SepC w0 z (gdT dd gq mp q hp hb t 40 4 8 8 gl16 (d) :: l')) => H'.kZap p i hw2
    simp
    go_enter Try.func13, Try.ntmps13
    go_upto_region 13 with fail
    generalize w.alloc (.cells #[.int .i64 6, .int .i64 kg, .int .i64 kl, .int .i64 kr, .int .i64 p, .int .i64 i, .int .i64 to_, .bool rw_, .bool ru, .bool rx, .int .u64 v] 36) = w1 at *
    generalize w.heap.size = ob at *
    clear H
    have HH := H1.new (Chg.refl [] w1).drew
    refine wp_region_noPanic ?_
    refine wp_region_held_drew (S := (fun w' => Blk w' wb 43 (wdC hp gq q t dd) ∧ Blk w' ob 36 #[.int .i64 6, .int .i64 kg, .int .i64 kl, .int .i64 kr, .int .i64 p, .int .i64 i, .int .i64 to_, .bool rw_, .bool ru, .bool rx, .int .u64 v])) (by kernel_rfl) ?_ (fun hHeld => ?_)
    · exact ⟨(HH.pick 1 rfl).blk, (HH.pick 2 rfl).blk⟩
    (refine take_on 0 (some 63) (v := ?_) rfl rfl (by kernel_rfl) (by kernel_rfl) (by kernel_rfl) (fun _ _ _ h => h) (by rfl) (by assumption) ?_ ?_; rotate_left; · (intro w hSw; go_simp; (try with_reducible rfl)))
    (try simp only [Act.put, List.setIfInBounds_toArray, List.set_cons_zero, List.set_cons_succ])
    (refine take_on 1 (some 64) (v := ?_) rfl rfl (by kernel_rfl) (by kernel_rfl) (by kernel_rfl) (fun _ _ _ h => h) (by rfl) (by assumption) ?_ ?_; rotate_left; · (intro w hSw; go_simp; (try with_reducible rfl)))
    (try simp only [Act.put, List.setIfInBounds_toArray, List.set_cons_zero, List.set_cons_succ])
    (refine take_on 2 (some 65) (v := ?_) rfl rfl (by kernel_rfl) (by kernel_rfl) (by kernel_rfl) (fun _ _ _ h => h) (by rfl) (by assumption) ?_ ?_; rotate_left; · (intro w hSw; go_simp; (try with_reducible rfl)))
    (try simp only [Act.put, List.setIfInBounds_toArray, List.set_cons_zero, List.set_cons_succ])
    (refine take_on 3 (some 66) (v := ?_) rfl rfl (by kernel_rfl) (by kernel_rfl) (by kernel_rfl) (fun _ _ _ h => h) (by rfl) (by assumption) ?_ ?_; rotate_left; · (intro w hSw; (try dsimp only at hSw); have bw_ := hSw.1; unfold wdC at bw_; have w_ := bw_.cell 4; simp only [List.getElem?_toArray, List.getElem?_cons_zero, List.getElem?_cons_succ] at w_; go_simp; (try with_reducible rfl)))
    (try simp only [Act.put, List.setIfInBounds_toArray, List.set_cons_zero, List.set_cons_succ])
    (refine take_on 4 (some 67) (v := ?_) rfl rfl (by kernel_rfl) (by kernel_rfl) (by kernel_rfl) (fun _ _ _ h => h) (by rfl) (by assumption) ?_ ?_; rotate_left; · (intro w hSw; go_simp; (try with_reducible rfl)))
    (try simp only [Act.put, List.setIfInBounds_toArray, List.set_cons_zero, List.set_cons_succ])
    (refine take_on 5 (some 68) (v := ?_) rfl rfl (by kernel_rfl) (by kernel_rfl) (by kernel_rfl) (fun _ _ _ h => h) (by rfl) (by assumption) ?_ ?_; rotate_left; · (intro w hSw; (try dsimp only at hSw); have bo_ := hSw.2; have o4_ := bo_.cell 4; simp only [List.getElem?_toArray, List.getElem?_cons_zero, List.getElem?_cons_succ] at o4_; go_simp; (try with_reducible rfl)))
    (try simp only [Act.put, List.setIfInBounds_toArray, List.set_cons_zero, List.set_cons_succ])
    (refine take_on 6 (some 69) (v := ?_) rfl rfl (by kernel_rfl) (by kernel_rfl) (by kernel_rfl) (fun _ _ _ h => h) (by rfl) (by assumption) ?_ ?_; rotate_left; · (intro w hSw; go_simp; (try with_reducible rfl)))
    (try simp only [Act.put, List.setIfInBounds_toArray, List.set_cons_zero, List.set_cons_succ])
    (refine take_on 7 (some 70) (v := ?_) rfl rfl (by kernel_rfl) (by kernel_rfl) (by kernel_rfl) (fun _ _ _ h => h) (by rfl) (by assumption) ?_ ?_; rotate_left; · (intro w hSw; (try dsimp only at hSw); have bo_ := hSw.2; have o5_ := bo_.cell 5; simp only [List.getElem?_toArray, List.getElem?_cons_zero, List.getElem?_cons_succ] at o5_; go_simp; (try with_reducible rfl)))
    (try simp only [Act.put, List.setIfInBounds_toArray, List.set_cons_zero, List.set_cons_succ])
    refine wpAnyH_ready (rs := [8]) (by kernel_rfl) (by simp) ?_; refine AllReadyH.cons (o := _) rfl (fun K hK => ?_) AllReadyH.nil
    go_simp
    (go_at_call 48; refine (hC HH).mono ?_; rintro e u1 ⟨rfl, H2⟩)
    refine hK.out _ _ (by (try dsimp only); exact ⟨(H2.pick 1 rfl).blk, (H2.pick 2 rfl).blk⟩) (fun hHeld => ?_)
    clear hK K
    (try simp only [Act.put, List.setIfInBounds_toArray, List.set_cons_zero, List.set_cons_succ])
    (refine take_on 9 (some 4) (v := ?_) rfl rfl (by kernel_rfl) (by kernel_rfl) (by kernel_rfl) (fun _ _ _ h => h) (by rfl) (by assumption) ?_ ?_; rotate_left; · (intro w hSw; go_simp; (try with_reducible rfl)))
    (try simp only [Act.put, List.setIfInBounds_toArray, List.set_cons_zero, List.set_cons_succ])
    (refine take_on 10 (some 5) (v := ?_) rfl rfl (by kernel_rfl) (by kernel_rfl) (by kernel_rfl) (fun _ _ _ h => h) (by rfl) (by assumption) ?_ ?_; rotate_left; · (intro w hSw; go_simp; (try with_reducible rfl)))
    (try simp only [Act.put, List.setIfInBounds_toArray, List.set_cons_zero, List.set_cons_succ])
    refine wpAnyH_done (by kernel_rfl) ?_ _
    refine NoPanic.normal ?_
    clear hC
    go_wp2_with fail
    go_ret2
    exact ⟨rfl, (((H2.pick 2 rfl).tail))⟩
  have n6 := c_
  have b6 : (wh == 6) = false := by simpa using c_
  clear c_
  by_cases c_ : wh = 7
  · subst c_
    have H1 := (((H.alloc #[.int .i64 7, .int .i64 kg, .int .i64 kl, .int .i64 kr, .int .i64 p, .int .i64 i, .int .i64 to_, .bool rw_, .bool ru, .bool rx, .int .u64 v] 36).pick 1 rfl).pick 2 rfl).pick 1 rfl
    have hC := fun {z : World} {l' : List Th} (H' : SepC w0 z (gdT dd gq mp q hp hb t 40 4 8 8 gl16 (d) :: l')) => H'.kWord to_ i
    simp
    go_enter Try.func13, Try.ntmps13
    go_upto_region 15 with fail
    generalize w.alloc (.cells #[.int .i64 7, .int .i64 kg, .int .i64 kl, .int .i64 kr, .int .i64 p, .int .i64 i, .int .i64 to_, .bool rw_, .bool ru, .bool rx, .int .u64 v] 36) = w1 at *
    generalize w.heap.size = ob at *
    clear H
    have HH := H1.new (Chg.refl [] w1).drew
    refine wp_region_noPanic ?_
    refine wp_region_held_drew (S := (fun w' => Blk w' wb 43 (wdC hp gq q t dd) ∧ Blk w' ob 36 #[.int .i64 7, .int .i64 kg, .int .i64 kl, .int .i64 kr, .int .i64 p, .int .i64 i, .int .i64 to_, .bool rw_, .bool ru, .bool rx, .int .u64 v])) (by kernel_rfl) ?_ (fun hHeld => ?_)
    · exact ⟨(HH.pick 1 rfl).blk, (HH.pick 2 rfl).blk⟩
    (refine take_on 0 (some 74) (v := ?_) rfl rfl (by kernel_rfl) (by kernel_rfl) (by kernel_rfl) (fun _ _ _ h => h) (by rfl) (by assumption) ?_ ?_; rotate_left; · (intro w hSw; go_simp; (try with_reducible rfl)))
    (try simp only [Act.put, List.setIfInBounds_toArray, List.set_cons_zero, List.set_cons_succ])
    (refine take_on 1 (some 75) (v := ?_) rfl rfl (by kernel_rfl) (by kernel_rfl) (by kernel_rfl) (fun _ _ _ h => h) (by rfl) (by assumption) ?_ ?_; rotate_left; · (intro w hSw; go_simp; (try with_reducible rfl)))
    (try simp only [Act.put, List.setIfInBounds_toArray, List.set_cons_zero, List.set_cons_succ])
    (refine take_on 2 (some 76) (v := ?_) rfl rfl (by kernel_rfl) (by kernel_rfl) (by kernel_rfl) (fun _ _ _ h => h) (by rfl) (by assumption) ?_ ?_; rotate_left; · (intro w hSw; go_simp; (try with_reducible rfl)))
    (try simp only [Act.put, List.setIfInBounds_toArray, List.set_cons_zero, List.set_cons_succ])
    (refine take_on 3 (some 77) (v := ?_) rfl rfl (by kernel_rfl) (by kernel_rfl) (by kernel_rfl) (fun _ _ _ h => h) (by rfl) (by assumption) ?_ ?_; rotate_left; · (intro w hSw; (try dsimp only at hSw); have bw_ := hSw.1; unfold wdC at bw_; have w_ := bw_.cell 4; simp only [List.getElem?_toArray, List.getElem?_cons_zero, List.getElem?_cons_succ] at w_; go_simp; (try with_reducible rfl)))
    (try simp only [Act.put, List.setIfInBounds_toArray, List.set_cons_zero, List.set_cons_succ])
    (refine take_on 4 (some 78) (v := ?_) rfl rfl (by kernel_rfl) (by kernel_rfl) (by kernel_rfl) (fun _ _ _ h => h) (by rfl) (by assumption) ?_ ?_; rotate_left; · (intro w hSw; go_simp; (try with_reducible rfl)))
    (try simp only [Act.put, List.setIfInBounds_toArray, List.set_cons_zero, List.set_cons_succ])
    (refine take_on 5 (some 79) (v := ?_) rfl rfl (by kernel_rfl) (by kernel_rfl) (by kernel_rfl) (fun _ _ _ h => h) (by rfl) (by assumption) ?_ ?_; rotate_left; · (intro w hSw; (try dsimp only at hSw); have bo_ := hSw.2; have o6_ := bo_.cell 6; simp only [List.getElem?_toArray, List.getElem?_cons_zero, List.getElem?_cons_succ] at o6_; go_simp; (try with_reducible rfl)))
    (try simp only [Act.put, List.setIfInBounds_toArray, List.set_cons_zero, List.set_cons_succ])
    (refine take_on 6 (some 80) (v := ?_) rfl rfl (by kernel_rfl) (by kernel_rfl) (by kernel_rfl) (fun _ _ _ h => h) (by rfl) (by assumption) ?_ ?_; rotate_left; · (intro w hSw; go_simp; (try with_reducible rfl)))
    (try simp only [Act.put, List.setIfInBounds_toArray, List.set_cons_zero, List.set_cons_succ])
    (refine take_on 7 (some 81) (v := ?_) rfl rfl (by kernel_rfl) (by kernel_rfl) (by kernel_rfl) (fun _ _ _ h => h) (by rfl) (by assumption) ?_ ?_; rotate_left; · (intro w hSw; (try dsimp only at hSw); have bo_ := hSw.2; have o5_ := bo_.cell 5; simp only [List.getElem?_toArray, List.getElem?_cons_zero, List.getElem?_cons_succ] at o5_; go_simp; (try with_reducible rfl)))
    (try simp only [Act.put, List.setIfInBounds_toArray, List.set_cons_zero, List.set_cons_succ])
    refine wpAnyH_ready (rs := [8]) (by kernel_rfl) (by simp) ?_; refine AllReadyH.cons (o := _) rfl (fun K hK => ?_) AllReadyH.nil
    go_simp
    (go_at_call 35; refine (hC HH).mono ?_; rintro e u1 ⟨rfl, H2⟩)
    refine hK.out _ _ (by (try dsimp only); exact ⟨(H2.pick 1 rfl).blk, (H2.pick 2 rfl).blk⟩) (fun hHeld => ?_)
    clear hK K
    (try simp only [Act.put, List.setIfInBounds_toArray, List.set_cons_zero, List.set_cons_succ])
    refine wpAnyH_done (by kernel_rfl) ?_ _
    refine NoPanic.normal ?_
    clear hC
    go_wp2_with fail
    go_ret2
    exact ⟨rfl, (((H2.pick 2 rfl).tail))⟩
  have n7 := c_
  have b7 : (wh == 7) = false := by simpa using c_
  clear c_
  by_cases c_ : wh = 8
  · subst c_
    have H1 := (((H.alloc #[.int .i64 8, .int .i64 kg, .int .i64 kl, .int .i64 kr, .int .i64 p, .int .i64 i, .int .i64 to_, .bool rw_, .bool ru, .bool rx, .int .u64 v] 36).pick 1 rfl).pick 2 rfl).pick 1 rfl
    have hC := fun {z : World} {l' : List Th} (H' : SepC w0 z (gdT dd gq mp q hp hb t 40 4 8 8 gl16 (d) :: l')) => H'.kLoosen to_ hw3
    simp
    go_enter Try.func13, Try.ntmps13
    go_upto_region 17 with fail
    generalize w.alloc (.cells #[.int .i64 8, .int .i64 kg, .int .i64 kl, .int .i64 kr, .int .i64 p, .int .i64 i, .int .i64 to_, .bool rw_, .bool ru, .bool rx, .int .u64 v] 36) = w1 at *
    generalize w.heap.size = ob at *
    clear H
    have HH := H1.new (Chg.refl [] w1).drew
    refine wp_region_noPanic ?_
    refine wp_region_held_drew (S := (fun w' => Blk w' wb 43 (wdC hp gq q t dd) ∧ Blk w' ob 36 #[.int .i64 8, .int .i64 kg, .int .i64 kl, .int .i64 kr, .int .i64 p, .int .i64 i, .int .i64 to_, .bool rw_, .bool ru, .bool rx, .int .u64 v])) (by kernel_rfl) ?_ (fun hHeld => ?_)
    · exact ⟨(HH.pick 1 rfl).blk, (HH.pick 2 rfl).blk⟩
    (refine take_on 0 (some 85) (v := ?_) rfl rfl (by kernel_rfl) (by kernel_rfl) (by kernel_rfl) (fun _ _ _ h => h) (by rfl) (by assumption) ?_ ?_; rotate_left; · (intro w hSw; go_simp; (try with_reducible rfl)))
    (try simp only [Act.put, List.setIfInBounds_toArray, List.set_cons_zero, List.set_cons_succ])
    (refine take_on 1 (some 86) (v := ?_) rfl rfl (by kernel_rfl) (by kernel_rfl) (by kernel_rfl) (fun _ _ _ h => h) (by rfl) (by assumption) ?_ ?_; rotate_left; · (intro w hSw; go_simp; (try with_reducible rfl)))
    (try simp only [Act.put, List.setIfInBounds_toArray, List.set_cons_zero, List.set_cons_succ])
    (refine take_on 2 (some 87) (v := ?_) rfl rfl (by kernel_rfl) (by kernel_rfl) (by kernel_rfl) (fun _ _ _ h => h) (by rfl) (by assumption) ?_ ?_; rotate_left; · (intro w hSw; go_simp; (try with_reducible rfl)))
    (try simp only [Act.put, List.setIfInBounds_toArray, List.set_cons_zero, List.set_cons_succ])
    (refine take_on 3 (some 88) (v := ?_) rfl rfl (by kernel_rfl) (by kernel_rfl) (by kernel_rfl) (fun _ _ _ h => h) (by rfl) (by assumption) ?_ ?_; rotate_left; · (intro w hSw; (try dsimp only at hSw); have bw_ := hSw.1; unfold wdC at bw_; have w_ := bw_.cell 4; simp only [List.getElem?_toArray, List.getElem?_cons_zero, List.getElem?_cons_succ] at w_; go_simp; (try with_reducible rfl)))
    (try simp only [Act.put, List.setIfInBounds_toArray, List.set_cons_zero, List.set_cons_succ])
    (refine take_on 4 (some 89) (v := ?_) rfl rfl (by kernel_rfl) (by kernel_rfl) (by kernel_rfl) (fun _ _ _ h => h) (by rfl) (by assumption) ?_ ?_; rotate_left; · (intro w hSw; go_simp; (try with_reducible rfl)))
    (try simp only [Act.put, List.setIfInBounds_toArray, List.set_cons_zero, List.set_cons_succ])
    (refine take_on 5 (some 90) (v := ?_) rfl rfl (by kernel_rfl) (by kernel_rfl) (by kernel_rfl) (fun _ _ _ h => h) (by rfl) (by assumption) ?_ ?_; rotate_left; · (intro w hSw; (try dsimp only at hSw); have bo_ := hSw.2; have o6_ := bo_.cell 6; simp only [List.getElem?_toArray, List.getElem?_cons_zero, List.getElem?_cons_succ] at o6_; go_simp; (try with_reducible rfl)))
    (try simp only [Act.put, List.setIfInBounds_toArray, List.set_cons_zero, List.set_cons_succ])
    refine wpAnyH_ready (rs := [6]) (by kernel_rfl) (by simp) ?_; refine AllReadyH.cons (o := _) rfl (fun K hK => ?_) AllReadyH.nil
    go_simp
    (go_at_call 39; refine (hC HH).mono ?_; rintro e u1 ⟨rfl, H2⟩)
    refine hK.out _ _ (by (try dsimp only); exact ⟨(H2.pick 1 rfl).blk, (H2.pick 2 rfl).blk⟩) (fun hHeld => ?_)
    clear hK K
    (try simp only [Act.put, List.setIfInBounds_toArray, List.set_cons_zero, List.set_cons_succ])
    (refine take_on 7 (some 4) (v := ?_) rfl rfl (by kernel_rfl) (by kernel_rfl) (by kernel_rfl) (fun _ _ _ h => h) (by rfl) (by assumption) ?_ ?_; rotate_left; · (intro w hSw; go_simp; (try with_reducible rfl)))
    (try simp only [Act.put, List.setIfInBounds_toArray, List.set_cons_zero, List.set_cons_succ])
    (refine take_on 8 (some 5) (v := ?_) rfl rfl (by kernel_rfl) (by kernel_rfl) (by kernel_rfl) (fun _ _ _ h => h) (by rfl) (by assumption) ?_ ?_; rotate_left; · (intro w hSw; go_simp; (try with_reducible rfl)))
    (try simp only [Act.put, List.setIfInBounds_toArray, List.set_cons_zero, List.set_cons_succ])
    refine wpAnyH_done (by kernel_rfl) ?_ _
    refine NoPanic.normal ?_
    clear hC
    go_wp2_with fail
    go_ret2
    exact ⟨rfl, (((H2.pick 2 rfl).tail))⟩
  have n8 := c_
  have b8 : (wh == 8) = false := by simpa using c_
  clear c_
  by_cases c_ : wh = 9
  · subst c_
    have H1 := (((H.alloc #[.int .i64 9, .int .i64 kg, .int .i64 kl, .int .i64 kr, .int .i64 p, .int .i64 i, .int .i64 to_, .bool rw_, .bool ru, .bool rx, .int .u64 v] 36).pick 1 rfl).pick 2 rfl).pick 1 rfl
    have hC := fun {z : World} {l' : List Th} (H' : SepC w0 z (gdT dd gq mp q hp hb t 40 4 8 8 gl16 (d) :: l')) => H'.kLook to_
    simp
    go_enter Try.func13, Try.ntmps13
    go_upto_region 19 with fail
    generalize w.alloc (.cells #[.int .i64 9, .int .i64 kg, .int .i64 kl, .int .i64 kr, .int .i64 p, .int .i64 i, .int .i64 to_, .bool rw_, .bool ru, .bool rx, .int .u64 v] 36) = w1 at *
    generalize w.heap.size = ob at *
    clear H
    have HH := H1.new (Chg.refl [] w1).drew
    refine wp_region_noPanic ?_
    refine wp_region_held_drew (S := (fun w' => Blk w' wb 43 (wdC hp gq q t dd) ∧ Blk w' ob 36 #[.int .i64 9, .int .i64 kg, .int .i64 kl, .int .i64 kr, .int .i64 p, .int .i64 i, .int .i64 to_, .bool rw_, .bool ru, .bool rx, .int .u64 v])) (by kernel_rfl) ?_ (fun hHeld => ?_)
    · exact ⟨(HH.pick 1 rfl).blk, (HH.pick 2 rfl).blk⟩
    (refine take_on 0 (some 94) (v := ?_) rfl rfl (by kernel_rfl) (by kernel_rfl) (by kernel_rfl) (fun _ _ _ h => h) (by rfl) (by assumption) ?_ ?_; rotate_left; · (intro w hSw; go_simp; (try with_reducible rfl)))
    (try simp only [Act.put, List.setIfInBounds_toArray, List.set_cons_zero, List.set_cons_succ])
    (refine take_on 1 (some 95) (v := ?_) rfl rfl (by kernel_rfl) (by kernel_rfl) (by kernel_rfl) (fun _ _ _ h => h) (by rfl) (by assumption) ?_ ?_; rotate_left; · (intro w hSw; go_simp; (try with_reducible rfl)))
    (try simp only [Act.put, List.setIfInBounds_toArray, List.set_cons_zero, List.set_cons_succ])
    (refine take_on 2 (some 96) (v := ?_) rfl rfl (by kernel_rfl) (by kernel_rfl) (by kernel_rfl) (fun _ _ _ h => h) (by rfl) (by assumption) ?_ ?_; rotate_left; · (intro w hSw; go_simp; (try with_reducible rfl)))
    (try simp only [Act.put, List.setIfInBounds_toArray, List.set_cons_zero, List.set_cons_succ])
    (refine take_on 3 (some 97) (v := ?_) rfl rfl (by kernel_rfl) (by kernel_rfl) (by kernel_rfl) (fun _ _ _ h => h) (by rfl) (by assumption) ?_ ?_; rotate_left; · (intro w hSw; (try dsimp only at hSw); have bw_ := hSw.1; unfold wdC at bw_; have w_ := bw_.cell 4; simp only [List.getElem?_toArray, List.getElem?_cons_zero, List.getElem?_cons_succ] at w_; go_simp; (try with_reducible rfl)))
    (try simp only [Act.put, List.setIfInBounds_toArray, List.set_cons_zero, List.set_cons_succ])
    (refine take_on 4 (some 98) (v := ?_) rfl rfl (by kernel_rfl) (by kernel_rfl) (by kernel_rfl) (fun _ _ _ h => h) (by rfl) (by assumption) ?_ ?_; rotate_left; · (intro w hSw; go_simp; (try with_reducible rfl)))
    (try simp only [Act.put, List.setIfInBounds_toArray, List.set_cons_zero, List.set_cons_succ])
    (refine take_on 5 (some 99) (v := ?_) rfl rfl (by kernel_rfl) (by kernel_rfl) (by kernel_rfl) (fun _ _ _ h => h) (by rfl) (by assumption) ?_ ?_; rotate_left; · (intro w hSw; (try dsimp only at hSw); have bo_ := hSw.2; have o6_ := bo_.cell 6; simp only [List.getElem?_toArray, List.getElem?_cons_zero, List.getElem?_cons_succ] at o6_; go_simp; (try with_reducible rfl)))
    (try simp only [Act.put, List.setIfInBounds_toArray, List.set_cons_zero, List.set_cons_succ])
    refine wpAnyH_ready (rs := [6]) (by kernel_rfl) (by simp) ?_; refine AllReadyH.cons (o := _) rfl (fun K hK => ?_) AllReadyH.nil
    go_simp
    (go_at_call 21; refine (hC HH).mono ?_; rintro e u1 ⟨rfl, H2⟩)
    refine hK.out _ _ (by (try dsimp only); exact ⟨(H2.pick 1 rfl).blk, (H2.pick 2 rfl).blk⟩) (fun hHeld => ?_)
    clear hK K
    (try simp only [Act.put, List.setIfInBounds_toArray, List.set_cons_zero, List.set_cons_succ])
    (refine take_on 7 (some 4) (v := ?_) rfl rfl (by kernel_rfl) (by kernel_rfl) (by kernel_rfl) (fun _ _ _ h => h) (by rfl) (by assumption) ?_ ?_; rotate_left; · (intro w hSw; go_simp; (try with_reducible rfl)))
    (try simp only [Act.put, List.setIfInBounds_toArray, List.set_cons_zero, List.set_cons_succ])
    (refine take_on 8 (some 5) (v := ?_) rfl rfl (by kernel_rfl) (by kernel_rfl) (by kernel_rfl) (fun _ _ _ h => h) (by rfl) (by assumption) ?_ ?_; rotate_left; · (intro w hSw; go_simp; (try with_reducible rfl)))
    (try simp only [Act.put, List.setIfInBounds_toArray, List.set_cons_zero, List.set_cons_succ])
    refine wpAnyH_done (by kernel_rfl) ?_ _
    refine NoPanic.normal ?_
    clear hC
    go_wp2_with fail
    go_ret2
    exact ⟨rfl, (((H2.pick 2 rfl).tail))⟩
  have n9 := c_
  have b9 : (wh == 9) = false := by simpa using c_
  clear c_
  by_cases c_ : wh = 10
  · subst c_
    have H1 := (((H.alloc #[.int .i64 10, .int .i64 kg, .int .i64 kl, .int .i64 kr, .int .i64 p, .int .i64 i, .int .i64 to_, .bool rw_, .bool ru, .bool rx, .int .u64 v] 36).pick 1 rfl).pick 2 rfl).pick 1 rfl
    have hC := fun {z : World} {l' : List Th} (H' : SepC w0 z (gdT dd gq mp q hp hb t 40 4 8 8 gl16 (d) :: l')) => H'.kAll
    simp
    go_enter Try.func13, Try.ntmps13
    go_upto_region 21 with fail
    generalize w.alloc (.cells #[.int .i64 10, .int .i64 kg, .int .i64 kl, .int .i64 kr, .int .i64 p, .int .i64 i, .int .i64 to_, .bool rw_, .bool ru, .bool rx, .int .u64 v] 36) = w1 at *
    generalize w.heap.size = ob at *
    clear H
    have w_ := (H1.pick 1 rfl).blk.cell 4
    unfold wdC at w_
    simp only [List.getElem?_toArray, List.getElem?_cons_zero, List.getElem?_cons_succ] at w_
    go_wp2_with fail
    refine (hC H1).mono ?_; rintro e u1 ⟨rfl, H2⟩
    clear hC
    go_wp2_with fail
    go_ret2
    exact ⟨rfl, (((H2.pick 2 rfl).tail))⟩
  have n10 := c_
  have b10 : (wh == 10) = false := by simpa using c_
  clear c_
  by_cases c_ : wh = 11
  · subst c_
    have H1 := (((H.alloc #[.int .i64 11, .int .i64 kg, .int .i64 kl, .int .i64 kr, .int .i64 p, .int .i64 i, .int .i64 to_, .bool rw_, .bool ru, .bool rx, .int .u64 v] 36).pick 1 rfl).pick 2 rfl).pick 1 rfl
    have hC := fun {z : World} {l' : List Th} (H' : SepC w0 z (gdT dd gq mp q hp hb t 40 4 8 8 gl16 (d) :: l')) => H'.kDrop p hw2
    simp
    go_enter Try.func13, Try.ntmps13
    go_upto_region 23 with fail
    generalize w.alloc (.cells #[.int .i64 11, .int .i64 kg, .int .i64 kl, .int .i64 kr, .int .i64 p, .int .i64 i, .int .i64 to_, .bool rw_, .bool ru, .bool rx, .int .u64 v] 36) = w1 at *
    generalize w.heap.size = ob at *
    clear H
    have HH := H1.new (Chg.refl [] w1).drew
    refine wp_region_noPanic ?_
    refine wp_region_held_drew (S := (fun w' => Blk w' wb 43 (wdC hp gq q t dd) ∧ Blk w' ob 36 #[.int .i64 11, .int .i64 kg, .int .i64 kl, .int .i64 kr, .int .i64 p, .int .i64 i, .int .i64 to_, .bool rw_, .bool ru, .bool rx, .int .u64 v])) (by kernel_rfl) ?_ (fun hHeld => ?_)
    · exact ⟨(HH.pick 1 rfl).blk, (HH.pick 2 rfl).blk⟩
    (refine take_on 0 (some 110) (v := ?_) rfl rfl (by kernel_rfl) (by kernel_rfl) (by kernel_rfl) (fun _ _ _ h => h) (by rfl) (by assumption) ?_ ?_; rotate_left; · (intro w hSw; go_simp; (try with_reducible rfl)))
    (try simp only [Act.put, List.setIfInBounds_toArray, List.set_cons_zero, List.set_cons_succ])
    (refine take_on 1 (some 111) (v := ?_) rfl rfl (by kernel_rfl) (by kernel_rfl) (by kernel_rfl) (fun _ _ _ h => h) (by rfl) (by assumption) ?_ ?_; rotate_left; · (intro w hSw; go_simp; (try with_reducible rfl)))
    (try simp only [Act.put, List.setIfInBounds_toArray, List.set_cons_zero, List.set_cons_succ])
    (refine take_on 2 (some 112) (v := ?_) rfl rfl (by kernel_rfl) (by kernel_rfl) (by kernel_rfl) (fun _ _ _ h => h) (by rfl) (by assumption) ?_ ?_; rotate_left; · (intro w hSw; go_simp; (try with_reducible rfl)))
    (try simp only [Act.put, List.setIfInBounds_toArray, List.set_cons_zero, List.set_cons_succ])
    (refine take_on 3 (some 113) (v := ?_) rfl rfl (by kernel_rfl) (by kernel_rfl) (by kernel_rfl) (fun _ _ _ h => h) (by rfl) (by assumption) ?_ ?_; rotate_left; · (intro w hSw; (try dsimp only at hSw); have bw_ := hSw.1; unfold wdC at bw_; have w_ := bw_.cell 4; simp only [List.getElem?_toArray, List.getElem?_cons_zero, List.getElem?_cons_succ] at w_; go_simp; (try with_reducible rfl)))
    (try simp only [Act.put, List.setIfInBounds_toArray, List.set_cons_zero, List.set_cons_succ])
    (refine take_on 4 (some 114) (v := ?_) rfl rfl (by kernel_rfl) (by kernel_rfl) (by kernel_rfl) (fun _ _ _ h => h) (by rfl) (by assumption) ?_ ?_; rotate_left; · (intro w hSw; go_simp; (try with_reducible rfl)))
    (try simp only [Act.put, List.setIfInBounds_toArray, List.set_cons_zero, List.set_cons_succ])
    (refine take_on 5 (some 115) (v := ?_) rfl rfl (by kernel_rfl) (by kernel_rfl) (by kernel_rfl) (fun _ _ _ h => h) (by rfl) (by assumption) ?_ ?_; rotate_left; · (intro w hSw; (try dsimp only at hSw); have bo_ := hSw.2; have o4_ := bo_.cell 4; simp only [List.getElem?_toArray, List.getElem?_cons_zero, List.getElem?_cons_succ] at o4_; go_simp; (try with_reducible rfl)))
    (try simp only [Act.put, List.setIfInBounds_toArray, List.set_cons_zero, List.set_cons_succ])
    refine wpAnyH_ready (rs := [6]) (by kernel_rfl) (by simp) ?_; refine AllReadyH.cons (o := _) rfl (fun K hK => ?_) AllReadyH.nil
    go_simp
    (go_at_call 36; refine (hC HH).mono ?_; rintro e u1 ⟨rfl, H2⟩)
    refine hK.out _ _ (by (try dsimp only); exact ⟨(H2.pick 1 rfl).blk, (H2.pick 2 rfl).blk⟩) (fun hHeld => ?_)
    clear hK K
    (try simp only [Act.put, List.setIfInBounds_toArray, List.set_cons_zero, List.set_cons_succ])
    (refine take_on 7 (some 4) (v := ?_) rfl rfl (by kernel_rfl) (by kernel_rfl) (by kernel_rfl) (fun _ _ _ h => h) (by rfl) (by assumption) ?_ ?_; rotate_left; · (intro w hSw; go_simp; (try with_reducible rfl)))
    (try simp only [Act.put, List.setIfInBounds_toArray, List.set_cons_zero, List.set_cons_succ])
    (refine take_on 8 (some 5) (v := ?_) rfl rfl (by kernel_rfl) (by kernel_rfl) (by kernel_rfl) (fun _ _ _ h => h) (by rfl) (by assumption) ?_ ?_; rotate_left; · (intro w hSw; go_simp; (try with_reducible rfl)))
    (try simp only [Act.put, List.setIfInBounds_toArray, List.set_cons_zero, List.set_cons_succ])
    refine wpAnyH_done (by kernel_rfl) ?_ _
    refine NoPanic.normal ?_
    clear hC
    go_wp2_with fail
    go_ret2
    exact ⟨rfl, (((H2.pick 2 rfl).tail))⟩
  have n11 := c_
  have b11 : (wh == 11) = false := by simpa using c_
  clear c_
  by_cases c_ : wh = 12
  · subst c_
    have H1 := (((H.alloc #[.int .i64 12, .int .i64 kg, .int .i64 kl, .int .i64 kr, .int .i64 p, .int .i64 i, .int .i64 to_, .bool rw_, .bool ru, .bool rx, .int .u64 v] 36).pick 1 rfl).pick 2 rfl).pick 1 rfl
    have hC := fun {z : World} {l' : List Th} (H' : SepC w0 z (gdT dd gq mp q hp hb t 40 4 8 8 gl16 (d) :: l')) => H'.kSet to_ i v hw4
    simp
    go_enter Try.func13, Try.ntmps13
    go_upto_region 25 with fail
    generalize w.alloc (.cells #[.int .i64 12, .int .i64 kg, .int .i64 kl, .int .i64 kr, .int .i64 p, .int .i64 i, .int .i64 to_, .bool rw_, .bool ru, .bool rx, .int .u64 v] 36) = w1 at *
    generalize w.heap.size = ob at *
    clear H
    have HH := H1.new (Chg.refl [] w1).drew
    refine wp_region_noPanic ?_
    refine wp_region_held_drew (S := (fun w' => Blk w' wb 43 (wdC hp gq q t dd) ∧ Blk w' ob 36 #[.int .i64 12, .int .i64 kg, .int .i64 kl, .int .i64 kr, .int .i64 p, .int .i64 i, .int .i64 to_, .bool rw_, .bool ru, .bool rx, .int .u64 v])) (by kernel_rfl) ?_ (fun hHeld => ?_)
    · exact ⟨(HH.pick 1 rfl).blk, (HH.pick 2 rfl).blk⟩
    (refine take_on 0 (some 119) (v := ?_) rfl rfl (by kernel_rfl) (by kernel_rfl) (by kernel_rfl) (fun _ _ _ h => h) (by rfl) (by assumption) ?_ ?_; rotate_left; · (intro w hSw; go_simp; (try with_reducible rfl)))
    (try simp only [Act.put, List.setIfInBounds_toArray, List.set_cons_zero, List.set_cons_succ])
    (refine take_on 1 (some 120) (v := ?_) rfl rfl (by kernel_rfl) (by kernel_rfl) (by kernel_rfl) (fun _ _ _ h => h) (by rfl) (by assumption) ?_ ?_; rotate_left; · (intro w hSw; go_simp; (try with_reducible rfl)))
    (try simp only [Act.put, List.setIfInBounds_toArray, List.set_cons_zero, List.set_cons_succ])
    (refine take_on 2 (some 121) (v := ?_) rfl rfl (by kernel_rfl) (by kernel_rfl) (by kernel_rfl) (fun _ _ _ h => h) (by rfl) (by assumption) ?_ ?_; rotate_left; · (intro w hSw; go_simp; (try with_reducible rfl)))
    (try simp only [Act.put, List.setIfInBounds_toArray, List.set_cons_zero, List.set_cons_succ])
    (refine take_on 3 (some 122) (v := ?_) rfl rfl (by kernel_rfl) (by kernel_rfl) (by kernel_rfl) (fun _ _ _ h => h) (by rfl) (by assumption) ?_ ?_; rotate_left; · (intro w hSw; (try dsimp only at hSw); have bw_ := hSw.1; unfold wdC at bw_; have w_ := bw_.cell 1; simp only [List.getElem?_toArray, List.getElem?_cons_zero, List.getElem?_cons_succ] at w_; go_simp; (try with_reducible rfl)))
    (try simp only [Act.put, List.setIfInBounds_toArray, List.set_cons_zero, List.set_cons_succ])
    (refine take_on 4 (some 123) (v := ?_) rfl rfl (by kernel_rfl) (by kernel_rfl) (by kernel_rfl) (fun _ _ _ h => h) (by rfl) (by assumption) ?_ ?_; rotate_left; · (intro w hSw; go_simp; (try with_reducible rfl)))
    (try simp only [Act.put, List.setIfInBounds_toArray, List.set_cons_zero, List.set_cons_succ])
    (refine take_on 5 (some 124) (v := ?_) rfl rfl (by kernel_rfl) (by kernel_rfl) (by kernel_rfl) (fun _ _ _ h => h) (by rfl) (by assumption) ?_ ?_; rotate_left; · (intro w hSw; (try dsimp only at hSw); have bo_ := hSw.2; have o6_ := bo_.cell 6; simp only [List.getElem?_toArray, List.getElem?_cons_zero, List.getElem?_cons_succ] at o6_; go_simp; (try with_reducible rfl)))
    (try simp only [Act.put, List.setIfInBounds_toArray, List.set_cons_zero, List.set_cons_succ])
    (refine take_on 6 (some 125) (v := ?_) rfl rfl (by kernel_rfl) (by kernel_rfl) (by kernel_rfl) (fun _ _ _ h => h) (by rfl) (by assumption) ?_ ?_; rotate_left; · (intro w hSw; go_simp; (try with_reducible rfl)))
    (try simp only [Act.put, List.setIfInBounds_toArray, List.set_cons_zero, List.set_cons_succ])
    (refine take_on 7 (some 126) (v := ?_) rfl rfl (by kernel_rfl) (by kernel_rfl) (by kernel_rfl) (fun _ _ _ h => h) (by rfl) (by assumption) ?_ ?_; rotate_left; · (intro w hSw; (try dsimp only at hSw); have bo_ := hSw.2; have o5_ := bo_.cell 5; simp only [List.getElem?_toArray, List.getElem?_cons_zero, List.getElem?_cons_succ] at o5_; go_simp; (try with_reducible rfl)))
    (try simp only [Act.put, List.setIfInBounds_toArray, List.set_cons_zero, List.set_cons_succ])
    (refine take_on 8 (some 127) (v := ?_) rfl rfl (by kernel_rfl) (by kernel_rfl) (by kernel_rfl) (fun _ _ _ h => h) (by rfl) (by assumption) ?_ ?_; rotate_left; · (intro w hSw; go_simp; (try with_reducible rfl)))
    (try simp only [Act.put, List.setIfInBounds_toArray, List.set_cons_zero, List.set_cons_succ])
    (refine take_on 9 (some 128) (v := ?_) rfl rfl (by kernel_rfl) (by kernel_rfl) (by kernel_rfl) (fun _ _ _ h => h) (by rfl) (by assumption) ?_ ?_; rotate_left; · (intro w hSw; (try dsimp only at hSw); have bo_ := hSw.2; have o10_ := bo_.cell 10; simp only [List.getElem?_toArray, List.getElem?_cons_zero, List.getElem?_cons_succ] at o10_; go_simp; (try with_reducible rfl)))
    (try simp only [Act.put, List.setIfInBounds_toArray, List.set_cons_zero, List.set_cons_succ])
    refine wpAnyH_ready (rs := [10]) (by kernel_rfl) (by simp) ?_; refine AllReadyH.cons (o := _) rfl (fun K hK => ?_) AllReadyH.nil
    go_simp
    (go_at_call 22; refine (hC HH).mono ?_; rintro e u1 ⟨rfl, H2⟩)
    refine hK.out _ _ (by (try dsimp only); exact ⟨(H2.pick 1 rfl).blk, (H2.pick 2 rfl).blk⟩) (fun hHeld => ?_)
    clear hK K
    (try simp only [Act.put, List.setIfInBounds_toArray, List.set_cons_zero, List.set_cons_succ])
    (refine take_on 11 (some 4) (v := ?_) rfl rfl (by kernel_rfl) (by kernel_rfl) (by kernel_rfl) (fun _ _ _ h => h) (by rfl) (by assumption) ?_ ?_; rotate_left; · (intro w hSw; go_simp; (try with_reducible rfl)))
    (try simp only [Act.put, List.setIfInBounds_toArray, List.set_cons_zero, List.set_cons_succ])
    (refine take_on 12 (some 5) (v := ?_) rfl rfl (by kernel_rfl) (by kernel_rfl) (by kernel_rfl) (fun _ _ _ h => h) (by rfl) (by assumption) ?_ ?_; rotate_left; · (intro w hSw; go_simp; (try with_reducible rfl)))
    (try simp only [Act.put, List.setIfInBounds_toArray, List.set_cons_zero, List.set_cons_succ])
    refine wpAnyH_done (by kernel_rfl) ?_ _
    refine NoPanic.normal ?_
    clear hC
    go_wp2_with fail
    go_ret2
    exact ⟨rfl, (((H2.pick 2 rfl).tail))⟩
  have n12 := c_
  have b12 : (wh == 12) = false := by simpa using c_
  clear c_
  by_cases c_ : wh = 13
  · subst c_
    have H1 := (((H.alloc #[.int .i64 13, .int .i64 kg, .int .i64 kl, .int .i64 kr, .int .i64 p, .int .i64 i, .int .i64 to_, .bool rw_, .bool ru, .bool rx, .int .u64 v] 36).pick 1 rfl).pick 2 rfl).pick 1 rfl
    have hC := fun {z : World} {l' : List Th} (H' : SepC w0 z (gdT dd gq mp q hp hb t 40 4 8 8 gl16 (d) :: l')) => H'.kPut ⟨0, i, p, false, false, false, false⟩
    simp only [Ht.v] at hC
    simp
    go_enter Try.func13, Try.ntmps13
    go_upto_region 27 with fail
    generalize w.alloc (.cells #[.int .i64 13, .int .i64 kg, .int .i64 kl, .int .i64 kr, .int .i64 p, .int .i64 i, .int .i64 to_, .bool rw_, .bool ru, .bool rx, .int .u64 v] 36) = w1 at *
    generalize w.heap.size = ob at *
    clear H
    have HH := H1.new (Chg.refl [] w1).drew
    refine wp_region_noPanic ?_
    refine wp_region_held_drew (S := (fun w' => Blk w' wb 43 (wdC hp gq q t dd) ∧ Blk w' ob 36 #[.int .i64 13, .int .i64 kg, .int .i64 kl, .int .i64 kr, .int .i64 p, .int .i64 i, .int .i64 to_, .bool rw_, .bool ru, .bool rx, .int .u64 v])) (by kernel_rfl) ?_ (fun hHeld => ?_)
    · exact ⟨(HH.pick 1 rfl).blk, (HH.pick 2 rfl).blk⟩
    (refine take_on 0 (some 132) (v := ?_) rfl rfl (by kernel_rfl) (by kernel_rfl) (by kernel_rfl) (fun _ _ _ h => h) (by rfl) (by assumption) ?_ ?_; rotate_left; · (intro w hSw; go_simp; (try with_reducible rfl)))
    (try simp only [Act.put, List.setIfInBounds_toArray, List.set_cons_zero, List.set_cons_succ])
    (refine take_on 1 (some 133) (v := ?_) rfl rfl (by kernel_rfl) (by kernel_rfl) (by kernel_rfl) (fun _ _ _ h => h) (by rfl) (by assumption) ?_ ?_; rotate_left; · (intro w hSw; go_simp; (try with_reducible rfl)))
    (try simp only [Act.put, List.setIfInBounds_toArray, List.set_cons_zero, List.set_cons_succ])
    (refine take_on 2 (some 134) (v := ?_) rfl rfl (by kernel_rfl) (by kernel_rfl) (by kernel_rfl) (fun _ _ _ h => h) (by rfl) (by assumption) ?_ ?_; rotate_left; · (intro w hSw; go_simp; (try with_reducible rfl)))
    (try simp only [Act.put, List.setIfInBounds_toArray, List.set_cons_zero, List.set_cons_succ])
    (refine take_on 3 (some 135) (v := ?_) rfl rfl (by kernel_rfl) (by kernel_rfl) (by kernel_rfl) (fun _ _ _ h => h) (by rfl) (by assumption) ?_ ?_; rotate_left; · (intro w hSw; (try dsimp only at hSw); have bw_ := hSw.1; unfold wdC at bw_; have w_ := bw_.cell 3; simp only [List.getElem?_toArray, List.getElem?_cons_zero, List.getElem?_cons_succ] at w_; go_simp; (try with_reducible rfl)))
    (try simp only [Act.put, List.setIfInBounds_toArray, List.set_cons_zero, List.set_cons_succ])
    (refine take_on 4 (some 136) (v := ?_) rfl rfl (by kernel_rfl) (by kernel_rfl) (by kernel_rfl) (fun _ _ _ h => h) (by rfl) (by assumption) ?_ ?_; rotate_left; · (intro w hSw; go_simp; (try with_reducible rfl)))
    (try simp only [Act.put, List.setIfInBounds_toArray, List.set_cons_zero, List.set_cons_succ])
    (refine take_on 5 (some 137) (v := ?_) rfl rfl (by kernel_rfl) (by kernel_rfl) (by kernel_rfl) (fun _ _ _ h => h) (by rfl) (by assumption) ?_ ?_; rotate_left; · (intro w hSw; (try dsimp only at hSw); have bo_ := hSw.2; have o5_ := bo_.cell 5; simp only [List.getElem?_toArray, List.getElem?_cons_zero, List.getElem?_cons_succ] at o5_; go_simp; (try with_reducible rfl)))
    (try simp only [Act.put, List.setIfInBounds_toArray, List.set_cons_zero, List.set_cons_succ])
    (refine take_on 6 (some 138) (v := ?_) rfl rfl (by kernel_rfl) (by kernel_rfl) (by kernel_rfl) (fun _ _ _ h => h) (by rfl) (by assumption) ?_ ?_; rotate_left; · (intro w hSw; go_simp; (try with_reducible rfl)))
    (try simp only [Act.put, List.setIfInBounds_toArray, List.set_cons_zero, List.set_cons_succ])
    (refine take_on 7 (some 139) (v := ?_) rfl rfl (by kernel_rfl) (by kernel_rfl) (by kernel_rfl) (fun _ _ _ h => h) (by rfl) (by assumption) ?_ ?_; rotate_left; · (intro w hSw; (try dsimp only at hSw); have bo_ := hSw.2; have o4_ := bo_.cell 4; simp only [List.getElem?_toArray, List.getElem?_cons_zero, List.getElem?_cons_succ] at o4_; go_simp; (try with_reducible rfl)))
    (try simp only [Act.put, List.setIfInBounds_toArray, List.set_cons_zero, List.set_cons_succ])
    (refine take_on 8 (some 140) (v := ?_) rfl rfl (by kernel_rfl) (by kernel_rfl) (by kernel_rfl) (fun _ _ _ h => h) (by rfl) (by assumption) ?_ ?_; rotate_left; · (intro w hSw; go_simp; (try with_reducible rfl)))
    (try simp only [Act.put, List.setIfInBounds_toArray, List.set_cons_zero, List.set_cons_succ])
    refine wpAnyH_ready (rs := [9]) (by kernel_rfl) (by simp) ?_; refine AllReadyH.cons (o := _) rfl (fun K hK => ?_) AllReadyH.nil
    go_simp
    (go_at_call 14; refine (hC HH).mono ?_; rintro e u1 ⟨rfl, H2⟩)
    refine hK.out _ _ (by (try dsimp only); exact ⟨(H2.pick 1 rfl).blk, (H2.pick 2 rfl).blk⟩) (fun hHeld => ?_)
    clear hK K
    (try simp only [Act.put, List.setIfInBounds_toArray, List.set_cons_zero, List.set_cons_succ])
    refine wpAnyH_done (by kernel_rfl) ?_ _
    refine NoPanic.normal ?_
    clear hC
    go_wp2_with fail
    go_ret2
    exact ⟨rfl, (((H2.pick 2 rfl).tail))⟩
  have n13 := c_
  have b13 : (wh == 13) = false := by simpa using c_
  clear c_
  simp [n0, n1, n2, n3, n4, n5, n6, n7, n8, n9, n10, n11, n12, n13]
  have H1 := (((H.alloc #[.int .i64 wh, .int .i64 kg, .int .i64 kl, .int .i64 kr, .int .i64 p, .int .i64 i, .int .i64 to_, .bool rw_, .bool ru, .bool rx, .int .u64 v] 36).pick 1 rfl).pick 2 rfl).pick 1 rfl
  clear n0 n1 n2 n3 n4 n5 n6 n7 n8 n9 n10 n11 n12 n13
  go_enter Try.func13, Try.ntmps13
  go_wp2_with fail
  go_ret2
  exact ⟨rfl, (((H1.pick 2 rfl).tail))⟩
end

end Go.Proofs.Ytgjfidjhbkaobaa
