/-
  The contracts of model's fresh and Find.
-/
import Derived.Test.YtedginkenmafmaaGreatDoorModelB
import Derived.Test.YtedginkenmafmaaGreatDoorG0
namespace Go.Proofs.YtedginkenmafmaaGreatDoor
open Go.RowKit Go.Shelf

section
variable {w0 w : World} {F : List Nat} {m t q p h b n : Nat} {S : List Nat} {L : List Int} {s : Ms}
/-- a Walk from the model's root, anywhere behind w -/
theorem ModB.walk (H : ModB w0 F w m t q S p L h b n s) (page k : Int) (u : Bool) (P : Pa) (how code : Int) (hr : walkP n s.W L s.r page k u = (P, how, code)) :
    ∀ w1, Chg [] w w1 → Calls Tryz.prog 36 #[.pointer (some ⟨q, 0, none⟩), .int .i64 s.r, .int .i64 page, .int .i64 k, .bool u] w1 fun e w' =>
      ∃ A c, e = .returned (.tuple #[.agg (pathV A c P), .int .i64 how, .int .i64 code]) ∧ OwnA w' 66 (.slice A P.ats.length c) P.ats ∧ (∀ g ∈ (Value.slice A P.ats.length c).ownBlock.toList, w1.heap.size ≤ g) ∧ Chg [] w1 w' :=
  fun w1 hc => Walk_is q S p L h b n s.W s.r page k u P how code w1 (H.new hc).eR (H.new hc).gu H.ok.wd hr

set_option maxRecDepth 100000 in
set_option maxHeartbeats 8000000 in
theorem fresh_not (page k : Int) (u : Bool) (H : ModB w0 F w m t q S p L h b n s) (how code : Int) (hr : walkP n s.W L s.r page k u = (Pa.zero, how, code)) (hne0 : (how == 0) = false) :
    Calls Tryz.prog 108 #[.pointer (some ⟨m, 0, none⟩), .int .i64 page, .int .i64 k, .bool u] w fun e w' => e = .returned (.tuple #[Ht.zero.v, .int .i64 how, .int .i64 code]) ∧ ModB w0 F w' m t q S p L h b n s ∧ Far F w w' := by
  have hc1 : Chg [] w (w.alloc (.cells #[.int .i64 0, .int .i64 0, .int .i64 0, .bool false, .bool false, .bool false, .bool false] 45)) := (Chg.refl [] w).alloc _
  have hr1 := Blk.new w 45 #[.int .i64 0, .int .i64 0, .int .i64 0, .bool false, .bool false, .bool false, .bool false]
  have hWk := (H.new hc1).walk page k u Pa.zero how code hr
  have hm1 : Blk (w.alloc (.cells #[.int .i64 0, .int .i64 0, .int .i64 0, .bool false, .bool false, .bool false, .bool false] 45)) m 98 #[.pointer (some ⟨t, 0, none⟩), .pointer (some ⟨q, 0, none⟩), .int .i64 s.r] := H.st.alloc _
  clear hr
  rw [show Pa.zero = ⟨[], 0, ⟨false, false, false⟩, false, false⟩ from rfl] at *
  simp only [pathV, List.length_nil] at *
  have H0 := H
  have hs0 := H.c0.size
  have hFw : ∀ i ∈ F, i < w.heap.size := fun i hi => H.tb.2.1 i (List.mem_append.2 (.inr hi))
  clear H
  obtain ⟨sW, sr, sT⟩ := s
  simp only at *
  go_enter Tryz.func108, Tryz.ntmps108
  go_wp2_with fail
  have hw1 : (w.alloc (.cells #[.int .i64 0, .int .i64 0, .int .i64 0, .bool false, .bool false, .bool false, .bool false] 45)).heap.size = w.heap.size + 1 := by simp
  generalize hww : w.alloc (.cells #[.int .i64 0, .int .i64 0, .int .i64 0, .bool false, .bool false, .bool false, .bool false] 45) = w1 at *
  clear hww
  refine wp_region_noPanic ?_
  refine wp_region_held_drew (S := (fun w' => Blk w' m 98 #[.pointer (some ⟨t, 0, none⟩), .pointer (some ⟨q, 0, none⟩), .int .i64 sr])) (by kernel_rfl) ?_ (fun hHeld => ?_)
  · exact hm1.drew
  (refine take_on 0 (some 16) (v := ?_) rfl rfl (by kernel_rfl) (by kernel_rfl) (by kernel_rfl) (fun _ _ _ h => h) (by rfl) (by assumption) ?_ ?_; rotate_left; · (intro w hSw; (try dsimp only at hSw); obtain ⟨c0_, c1_, c2_⟩ := blk3 hSw; go_simp; (try with_reducible rfl)))
  (try simp only [Act.put, List.setIfInBounds_toArray, List.set_cons_zero, List.set_cons_succ])
  (refine take_on 1 (some 17) (v := ?_) rfl rfl (by kernel_rfl) (by kernel_rfl) (by kernel_rfl) (fun _ _ _ h => h) (by rfl) (by assumption) ?_ ?_; rotate_left; · (intro w hSw; (try dsimp only at hSw); obtain ⟨c0_, c1_, c2_⟩ := blk3 hSw; go_simp; (try with_reducible rfl)))
  (try simp only [Act.put, List.setIfInBounds_toArray, List.set_cons_zero, List.set_cons_succ])
  (refine take_on 2 (some 18) (v := ?_) rfl rfl (by kernel_rfl) (by kernel_rfl) (by kernel_rfl) (fun _ _ _ h => h) (by rfl) (by assumption) ?_ ?_; rotate_left; · (intro w hSw; (try dsimp only at hSw); obtain ⟨c0_, c1_, c2_⟩ := blk3 hSw; go_simp; (try with_reducible rfl)))
  (try simp only [Act.put, List.setIfInBounds_toArray, List.set_cons_zero, List.set_cons_succ])
  (refine take_on 3 (some 19) (v := ?_) rfl rfl (by kernel_rfl) (by kernel_rfl) (by kernel_rfl) (fun _ _ _ h => h) (by rfl) (by assumption) ?_ ?_; rotate_left; · (intro w hSw; (try dsimp only at hSw); obtain ⟨c0_, c1_, c2_⟩ := blk3 hSw; go_simp; (try with_reducible rfl)))
  (try simp only [Act.put, List.setIfInBounds_toArray, List.set_cons_zero, List.set_cons_succ])
  (refine take_on 4 (some 20) (v := ?_) rfl rfl (by kernel_rfl) (by kernel_rfl) (by kernel_rfl) (fun _ _ _ h => h) (by rfl) (by assumption) ?_ ?_; rotate_left; · (intro w hSw; (try dsimp only at hSw); obtain ⟨c0_, c1_, c2_⟩ := blk3 hSw; go_simp; (try with_reducible rfl)))
  (try simp only [Act.put, List.setIfInBounds_toArray, List.set_cons_zero, List.set_cons_succ])
  (refine take_on 5 (some 21) (v := ?_) rfl rfl (by kernel_rfl) (by kernel_rfl) (by kernel_rfl) (fun _ _ _ h => h) (by rfl) (by assumption) ?_ ?_; rotate_left; · (intro w hSw; (try dsimp only at hSw); obtain ⟨c0_, c1_, c2_⟩ := blk3 hSw; go_simp; (try with_reducible rfl)))
  (try simp only [Act.put, List.setIfInBounds_toArray, List.set_cons_zero, List.set_cons_succ])
  (refine take_on 6 (some 22) (v := ?_) rfl rfl (by kernel_rfl) (by kernel_rfl) (by kernel_rfl) (fun _ _ _ h => h) (by rfl) (by assumption) ?_ ?_; rotate_left; · (intro w hSw; (try dsimp only at hSw); obtain ⟨c0_, c1_, c2_⟩ := blk3 hSw; go_simp; (try with_reducible rfl)))
  (try simp only [Act.put, List.setIfInBounds_toArray, List.set_cons_zero, List.set_cons_succ])
  (refine take_on 7 (some 23) (v := ?_) rfl rfl (by kernel_rfl) (by kernel_rfl) (by kernel_rfl) (fun _ _ _ h => h) (by rfl) (by assumption) ?_ ?_; rotate_left; · (intro w hSw; (try dsimp only at hSw); obtain ⟨c0_, c1_, c2_⟩ := blk3 hSw; go_simp; (try with_reducible rfl)))
  (try simp only [Act.put, List.setIfInBounds_toArray, List.set_cons_zero, List.set_cons_succ])
  (refine take_on 8 (some 24) (v := ?_) rfl rfl (by kernel_rfl) (by kernel_rfl) (by kernel_rfl) (fun _ _ _ h => h) (by rfl) (by assumption) ?_ ?_; rotate_left; · (intro w hSw; (try dsimp only at hSw); obtain ⟨c0_, c1_, c2_⟩ := blk3 hSw; go_simp; (try with_reducible rfl)))
  (try simp only [Act.put, List.setIfInBounds_toArray, List.set_cons_zero, List.set_cons_succ])
  (refine take_on 9 (some 25) (v := ?_) rfl rfl (by kernel_rfl) (by kernel_rfl) (by kernel_rfl) (fun _ _ _ h => h) (by rfl) (by assumption) ?_ ?_; rotate_left; · (intro w hSw; (try dsimp only at hSw); obtain ⟨c0_, c1_, c2_⟩ := blk3 hSw; go_simp; (try with_reducible rfl)))
  (try simp only [Act.put, List.setIfInBounds_toArray, List.set_cons_zero, List.set_cons_succ])
  (refine take_on 10 (some 26) (v := ?_) rfl rfl (by kernel_rfl) (by kernel_rfl) (by kernel_rfl) (fun _ _ _ h => h) (by rfl) (by assumption) ?_ ?_; rotate_left; · (intro w hSw; (try dsimp only at hSw); obtain ⟨c0_, c1_, c2_⟩ := blk3 hSw; go_simp; (try with_reducible rfl)))
  (try simp only [Act.put, List.setIfInBounds_toArray, List.set_cons_zero, List.set_cons_succ])
  refine wpAnyH_ready (rs := [11, 16]) (by kernel_rfl) (by simp) ?_; refine AllReadyH.cons (o := _) rfl (fun K hK => ?_) (AllReadyH.cons (o := _) rfl (fun K hK => ?_) AllReadyH.nil)
  · go_simp
    (go_at_call 36; refine (hWk _ ((Chg.refl [] w1).drew)).mono ?_; rintro e u1 ⟨A, c, rfl, r1, l1, y1⟩; simp only at *)
    refine hK.out _ _ (by (try dsimp only); exact hHeld.chg_ y1 (by simp)) (fun hHeld => ?_)
    clear hK K
    (try simp only [Act.put, List.setIfInBounds_toArray, List.set_cons_zero, List.set_cons_succ])
    (refine take_on 12 (some 15) (v := ?_) rfl rfl (by kernel_rfl) (by kernel_rfl) (by kernel_rfl) (fun _ _ _ h => h) (by rfl) (by assumption) ?_ ?_; rotate_left; · (intro w hSw; (try dsimp only at hSw); go_simp; (try with_reducible rfl)))
    (try simp only [Act.put, List.setIfInBounds_toArray, List.set_cons_zero, List.set_cons_succ])
    (refine take_on 13 (some 28) (v := ?_) rfl rfl (by kernel_rfl) (by kernel_rfl) (by kernel_rfl) (fun _ _ _ h => h) (by rfl) (by assumption) ?_ ?_; rotate_left; · (intro w hSw; (try dsimp only at hSw); go_simp; (try with_reducible rfl)))
    (try simp only [Act.put, List.setIfInBounds_toArray, List.set_cons_zero, List.set_cons_succ])
    (refine take_on 14 (some 29) (v := ?_) rfl rfl (by kernel_rfl) (by kernel_rfl) (by kernel_rfl) (fun _ _ _ h => h) (by rfl) (by assumption) ?_ ?_; rotate_left; · (intro w hSw; (try dsimp only at hSw); go_simp; (try with_reducible rfl)))
    (try simp only [Act.put, List.setIfInBounds_toArray, List.set_cons_zero, List.set_cons_succ])
    (refine take_on 15 (some 30) (v := ?_) rfl rfl (by kernel_rfl) (by kernel_rfl) (by kernel_rfl) (fun _ _ _ h => h) (by rfl) (by assumption) ?_ ?_; rotate_left; · (intro w hSw; (try dsimp only at hSw); go_simp; (try with_reducible rfl)))
    (try simp only [Act.put, List.setIfInBounds_toArray, List.set_cons_zero, List.set_cons_succ])
    refine wpAnyH_ready (rs := [16]) (by kernel_rfl) (by simp) ?_; refine AllReadyH.cons (o := _) rfl (fun K hK => ?_) AllReadyH.nil
    go_simp
    skip
    refine hK.out _ _ (by (try dsimp only); exact Blk.alloc hHeld _) (fun hHeld => ?_)
    clear hK K
    (try simp only [Act.put, List.setIfInBounds_toArray, List.set_cons_zero, List.set_cons_succ])
    have x0 : Chg [] w1 (u1.alloc (.cells #[.slice none 0 0, .int .i64 0, .bool false, .bool false, .bool false, .bool false, .bool false] 60)) := (((Chg.refl [] w1).drew).trans y1 (by simp)).alloc _
    have hp0 := Blk.new u1 60 #[.slice none 0 0, .int .i64 0, .bool false, .bool false, .bool false, .bool false, .bool false]
    have hne : m ≠ u1.heap.size := by have h1 := hm1.lt; have h2 := x0.size; have h3 := y1.size; simp at h2 h3; omega
    have hlo : ∀ g ∈ (Value.slice A 0 c).ownBlock.toList, w1.heap.size ≤ g ∧ g ≠ u1.heap.size := fun g hg => ⟨by simpa using l1 g hg, by have := OwnA.lt r1 g hg; omega⟩
    have r2 := OwnA.self r1 ((Chg.refl [] u1).alloc (.cells #[.slice none 0 0, .int .i64 0, .bool false, .bool false, .bool false, .bool false, .bool false] 60))
    have hpl : w1.heap.size ≤ u1.heap.size := by simpa using y1.size
    clear r1 l1 y1
    generalize hu2 : u1.alloc (.cells #[.slice none 0 0, .int .i64 0, .bool false, .bool false, .bool false, .bool false, .bool false] 60) = u2 at *
    generalize u1.heap.size = pb at *
    clear hu2
    obtain ⟨z0, z1, z2, z3, z4, z5, z6, g0, g1, g2, g3, g4, g5, g6⟩ := blk7 hp0
    refine wpAnyH_ready (rs := [17]) (by kernel_rfl) (by simp) ?_; refine AllReadyH.cons (o := _) rfl (fun K hK => ?_) AllReadyH.nil
    go_simp
    skip
    refine hK.out _ _ (by (try dsimp only); exact far7 hHeld hne) (fun hHeld => ?_)
    clear hK K
    (try simp only [Act.put, List.setIfInBounds_toArray, List.set_cons_zero, List.set_cons_succ])
    (refine take_on 18 (some 12) (v := ?_) rfl rfl (by kernel_rfl) (by kernel_rfl) (by kernel_rfl) (fun _ _ _ h => h) (by rfl) (by assumption) ?_ ?_; rotate_left; · (intro w hSw; (try dsimp only at hSw); go_simp; (try with_reducible rfl)))
    (try simp only [Act.put, List.setIfInBounds_toArray, List.set_cons_zero, List.set_cons_succ])
    (refine take_on 19 (some 13) (v := ?_) rfl rfl (by kernel_rfl) (by kernel_rfl) (by kernel_rfl) (fun _ _ _ h => h) (by rfl) (by assumption) ?_ ?_; rotate_left; · (intro w hSw; (try dsimp only at hSw); go_simp; (try with_reducible rfl)))
    (try simp only [Act.put, List.setIfInBounds_toArray, List.set_cons_zero, List.set_cons_succ])
    refine wpAnyH_done (by kernel_rfl) ?_ _
    refine NoPanic.normal ?_
    have hp3 := set7 (y0 := .slice A 0 c) (y1 := .int .i64 0) (y2 := .bool false) (y3 := .bool false) (y4 := .bool false) (y5 := .bool false) (y6 := .bool false) hp0
    have x3 : Chg [] w1 _ := x0.trans (chg7 (y0 := .slice A 0 c) (y1 := .int .i64 0) (y2 := .bool false) (y3 := .bool false) (y4 := .bool false) (y5 := .bool false) (y6 := .bool false) (g := pb) (Chg.refl [pb] u2) (by simp)) (by intro i hi hm; simp at hm; subst hm; omega)
    have r3 := OwnA.chg r2 (chg7 (y0 := .slice A 0 c) (y1 := .int .i64 0) (y2 := .bool false) (y3 := .bool false) (y4 := .bool false) (y5 := .bool false) (y6 := .bool false) (g := pb) (Chg.refl [pb] u2) (by simp)) (fun g hg hm => by simp at hm; exact (hlo g hg).2 hm)
    have hpb := hp3.lt
    clear hHeld r2 hp0 x0 z0 z1 z2 z3 z4 z5 z6 g0 g1 g2 g3 g4 g5 g6
    generalize ((((((u2.setCell ⟨pb, 0, none⟩ (.slice A 0 c)).setCell ⟨pb, 1, none⟩ (.int .i64 0)).setCell ⟨pb, 2, none⟩ (.bool false)).setCell ⟨pb, 3, none⟩ (.bool false)).setCell ⟨pb, 4, none⟩ (.bool false)).setCell ⟨pb, 5, none⟩ (.bool false)).setCell ⟨pb, 6, none⟩ (.bool false) = w3 at *
    have hlo := fun g hg => (hlo g hg).1
    clear hne hWk
    have hr3 := hr1.chg_ x3 (by simp)
    have k3 : Chg [] w w3 := hc1.trans x3 (by simp)
    have H3 := H0.more (G := [w.heap.size, pb]) k3 (by intro i hi; simp at hi; have := hr3.lt; omega)
    clear x3 hc1 hr1 hm1
    obtain ⟨z0, z1, z2, z3, z4, z5, z6, g0, g1, g2, g3, g4, g5, g6⟩ := blk7 hr3
    go_wp2_with fail
    refine bodyPost_ret (cell_tmps_ret rfl (set7 hr3) rfl Tryz.underlying45 rfl (by kernel_rfl)) rfl ?_
    have hk3 := chg7 (y0 := .int .i64 0) (y1 := .int .i64 0) (y2 := .int .i64 0) (y3 := .bool false) (y4 := .bool false) (y5 := .bool false) (y6 := .bool false) (g := w.heap.size) (Chg.refl [w.heap.size] w3) (by simp)
    exact ⟨rfl, (H3.less (G := w.heap.size :: F) (fun i hi => by simp at hi ⊢; rcases hi with h | h <;> simp [h])).own hk3 hs0, (Far.of_new k3).trans ⟨_, hk3, by simp; exact fun hm => by have := hFw _ hm; omega⟩⟩
  · go_simp
    skip
    refine hK.out _ _ (by (try dsimp only); exact Blk.alloc hHeld _) (fun hHeld => ?_)
    clear hK K
    (try simp only [Act.put, List.setIfInBounds_toArray, List.set_cons_zero, List.set_cons_succ])
    have x9 : Chg [] w1 (w1.drew.alloc (.cells #[.slice none 0 0, .int .i64 0, .bool false, .bool false, .bool false, .bool false, .bool false] 60)) := ((Chg.refl [] w1).drew).alloc _
    have hp9 : Blk (w1.drew.alloc (.cells #[.slice none 0 0, .int .i64 0, .bool false, .bool false, .bool false, .bool false, .bool false] 60)) w1.heap.size 60 #[.slice none 0 0, .int .i64 0, .bool false, .bool false, .bool false, .bool false, .bool false] := Blk.new w1.drew _ _
    rw [hw1] at hp9
    refine wpAnyH_ready (rs := [11]) (by kernel_rfl) (by simp) ?_; refine AllReadyH.cons (o := _) rfl (fun K hK => ?_) AllReadyH.nil
    go_simp
    (go_at_call 36; refine (hWk _ x9).mono ?_; rintro e u1 ⟨A, c, rfl, r1, l1, y1⟩; simp only at *)
    refine hK.out _ _ (by (try dsimp only); exact hHeld.chg_ y1 (by simp)) (fun hHeld => ?_)
    clear hK K
    (try simp only [Act.put, List.setIfInBounds_toArray, List.set_cons_zero, List.set_cons_succ])
    (refine take_on 12 (some 15) (v := ?_) rfl rfl (by kernel_rfl) (by kernel_rfl) (by kernel_rfl) (fun _ _ _ h => h) (by rfl) (by assumption) ?_ ?_; rotate_left; · (intro w hSw; (try dsimp only at hSw); go_simp; (try with_reducible rfl)))
    (try simp only [Act.put, List.setIfInBounds_toArray, List.set_cons_zero, List.set_cons_succ])
    (refine take_on 13 (some 28) (v := ?_) rfl rfl (by kernel_rfl) (by kernel_rfl) (by kernel_rfl) (fun _ _ _ h => h) (by rfl) (by assumption) ?_ ?_; rotate_left; · (intro w hSw; (try dsimp only at hSw); go_simp; (try with_reducible rfl)))
    (try simp only [Act.put, List.setIfInBounds_toArray, List.set_cons_zero, List.set_cons_succ])
    (refine take_on 14 (some 29) (v := ?_) rfl rfl (by kernel_rfl) (by kernel_rfl) (by kernel_rfl) (fun _ _ _ h => h) (by rfl) (by assumption) ?_ ?_; rotate_left; · (intro w hSw; (try dsimp only at hSw); go_simp; (try with_reducible rfl)))
    (try simp only [Act.put, List.setIfInBounds_toArray, List.set_cons_zero, List.set_cons_succ])
    (refine take_on 15 (some 30) (v := ?_) rfl rfl (by kernel_rfl) (by kernel_rfl) (by kernel_rfl) (fun _ _ _ h => h) (by rfl) (by assumption) ?_ ?_; rotate_left; · (intro w hSw; (try dsimp only at hSw); go_simp; (try with_reducible rfl)))
    (try simp only [Act.put, List.setIfInBounds_toArray, List.set_cons_zero, List.set_cons_succ])
    have x0 : Chg [] w1 u1 := x9.trans y1 (by simp)
    have hp0 := hp9.chg_ y1 (by simp)
    obtain ⟨pb, hpe⟩ : ∃ pb, pb = w.heap.size + 1 := ⟨_, rfl⟩
    have hne : m ≠ pb := by have h1 := hm1.lt; omega
    have hlo : ∀ g ∈ (Value.slice A 0 c).ownBlock.toList, w1.heap.size ≤ g ∧ g ≠ pb := fun g hg => by have := l1 g hg; simp at this; omega
    have hpl : w1.heap.size ≤ pb := by omega
    rw [← hpe] at hp0 ⊢
    have r2 := r1
    clear r1 l1 y1 x9 hp9 hpe
    generalize hu2 : u1 = u2 at *
    clear hu2
    obtain ⟨z0, z1, z2, z3, z4, z5, z6, g0, g1, g2, g3, g4, g5, g6⟩ := blk7 hp0
    refine wpAnyH_ready (rs := [17]) (by kernel_rfl) (by simp) ?_; refine AllReadyH.cons (o := _) rfl (fun K hK => ?_) AllReadyH.nil
    go_simp
    skip
    refine hK.out _ _ (by (try dsimp only); exact far7 hHeld hne) (fun hHeld => ?_)
    clear hK K
    (try simp only [Act.put, List.setIfInBounds_toArray, List.set_cons_zero, List.set_cons_succ])
    (refine take_on 18 (some 12) (v := ?_) rfl rfl (by kernel_rfl) (by kernel_rfl) (by kernel_rfl) (fun _ _ _ h => h) (by rfl) (by assumption) ?_ ?_; rotate_left; · (intro w hSw; (try dsimp only at hSw); go_simp; (try with_reducible rfl)))
    (try simp only [Act.put, List.setIfInBounds_toArray, List.set_cons_zero, List.set_cons_succ])
    (refine take_on 19 (some 13) (v := ?_) rfl rfl (by kernel_rfl) (by kernel_rfl) (by kernel_rfl) (fun _ _ _ h => h) (by rfl) (by assumption) ?_ ?_; rotate_left; · (intro w hSw; (try dsimp only at hSw); go_simp; (try with_reducible rfl)))
    (try simp only [Act.put, List.setIfInBounds_toArray, List.set_cons_zero, List.set_cons_succ])
    refine wpAnyH_done (by kernel_rfl) ?_ _
    refine NoPanic.normal ?_
    have hp3 := set7 (y0 := .slice A 0 c) (y1 := .int .i64 0) (y2 := .bool false) (y3 := .bool false) (y4 := .bool false) (y5 := .bool false) (y6 := .bool false) hp0
    have x3 : Chg [] w1 _ := x0.trans (chg7 (y0 := .slice A 0 c) (y1 := .int .i64 0) (y2 := .bool false) (y3 := .bool false) (y4 := .bool false) (y5 := .bool false) (y6 := .bool false) (g := pb) (Chg.refl [pb] u2) (by simp)) (by intro i hi hm; simp at hm; subst hm; omega)
    have r3 := OwnA.chg r2 (chg7 (y0 := .slice A 0 c) (y1 := .int .i64 0) (y2 := .bool false) (y3 := .bool false) (y4 := .bool false) (y5 := .bool false) (y6 := .bool false) (g := pb) (Chg.refl [pb] u2) (by simp)) (fun g hg hm => by simp at hm; exact (hlo g hg).2 hm)
    have hpb := hp3.lt
    clear hHeld r2 hp0 x0 z0 z1 z2 z3 z4 z5 z6 g0 g1 g2 g3 g4 g5 g6
    generalize ((((((u2.setCell ⟨pb, 0, none⟩ (.slice A 0 c)).setCell ⟨pb, 1, none⟩ (.int .i64 0)).setCell ⟨pb, 2, none⟩ (.bool false)).setCell ⟨pb, 3, none⟩ (.bool false)).setCell ⟨pb, 4, none⟩ (.bool false)).setCell ⟨pb, 5, none⟩ (.bool false)).setCell ⟨pb, 6, none⟩ (.bool false) = w3 at *
    have hlo := fun g hg => (hlo g hg).1
    clear hne hWk
    have hr3 := hr1.chg_ x3 (by simp)
    have k3 : Chg [] w w3 := hc1.trans x3 (by simp)
    have H3 := H0.more (G := [w.heap.size, pb]) k3 (by intro i hi; simp at hi; have := hr3.lt; omega)
    clear x3 hc1 hr1 hm1
    obtain ⟨z0, z1, z2, z3, z4, z5, z6, g0, g1, g2, g3, g4, g5, g6⟩ := blk7 hr3
    go_wp2_with fail
    refine bodyPost_ret (cell_tmps_ret rfl (set7 hr3) rfl Tryz.underlying45 rfl (by kernel_rfl)) rfl ?_
    have hk3 := chg7 (y0 := .int .i64 0) (y1 := .int .i64 0) (y2 := .int .i64 0) (y3 := .bool false) (y4 := .bool false) (y5 := .bool false) (y6 := .bool false) (g := w.heap.size) (Chg.refl [w.heap.size] w3) (by simp)
    exact ⟨rfl, (H3.less (G := w.heap.size :: F) (fun i hi => by simp at hi ⊢; rcases hi with h | h <;> simp [h])).own hk3 hs0, (Far.of_new k3).trans ⟨_, hk3, by simp; exact fun hm => by have := hFw _ hm; omega⟩⟩

set_option maxRecDepth 100000 in
set_option maxHeartbeats 8000000 in
theorem fresh_done (page k : Int) (u : Bool) (P : Pa) (H : ModB w0 F w m t q S p L h b n s) (hr : walkP n s.W L s.r page k u = (P, 0, 0)) :
    Calls Tryz.prog 108 #[.pointer (some ⟨m, 0, none⟩), .int .i64 page, .int .i64 k, .bool u] w fun e w' => e = .returned (.tuple #[(hitP page P (k == 1)).v, .int .i64 0, .int .i64 0]) ∧ ModB w0 F w' m t q S p L h b n ⟨markP n L P.ats (k == 1) s.W, s.r, putT 512 s.T (hitP page P (k == 1))⟩ ∧ Far F w w' := by
  have hc1 : Chg [] w (w.alloc (.cells #[.int .i64 0, .int .i64 0, .int .i64 0, .bool false, .bool false, .bool false, .bool false] 45)) := (Chg.refl [] w).alloc _
  have hr1 := Blk.new w 45 #[.int .i64 0, .int .i64 0, .int .i64 0, .bool false, .bool false, .bool false, .bool false]
  have hWk := (H.new hc1).walk page k u P 0 0 hr
  have hm1 : Blk (w.alloc (.cells #[.int .i64 0, .int .i64 0, .int .i64 0, .bool false, .bool false, .bool false, .bool false] 45)) m 98 #[.pointer (some ⟨t, 0, none⟩), .pointer (some ⟨q, 0, none⟩), .int .i64 s.r] := H.st.alloc _
  have hlen := walk_len hr
  have hall : P.ats.length ≤ 9223372036854775807 := by omega
  have hgl := (done_of hr).2
  clear hr
  obtain ⟨ats, pg, ⟨rw, ru, rx⟩, lg, dy⟩ := P
  simp only [pathV] at *
  have H0 := H
  have hs0 := H.c0.size
  have hFw : ∀ i ∈ F, i < w.heap.size := fun i hi => H.tb.2.1 i (List.mem_append.2 (.inr hi))
  clear H
  obtain ⟨sW, sr, sT⟩ := s
  simp only at *
  generalize hkb : (k == 1) = kb at *
  have HE5 := Lib.hid (show hitP page ⟨ats, pg, ⟨rw, ru, rx⟩, lg, dy⟩ kb = ⟨0, page, pg, rw, ru, rx, dy || kb⟩ from rfl)
  rw [show hitP page ⟨ats, pg, ⟨rw, ru, rx⟩, lg, dy⟩ kb = ⟨0, page, pg, rw, ru, rx, dy || kb⟩ from rfl]
  generalize (dy || kb) = dk at *
  generalize hW4 : markP n L ats kb sW = W4 at *
  have HW4 := Lib.hid hW4
  generalize hT4 : putT 512 sT ⟨0, page, pg, rw, ru, rx, dk⟩ = T4 at *
  have HT4 := Lib.hid hT4
  clear hW4 hT4
  simp only [Ht.v]
  go_enter Tryz.func108, Tryz.ntmps108
  go_wp2_with fail
  have hw1 : (w.alloc (.cells #[.int .i64 0, .int .i64 0, .int .i64 0, .bool false, .bool false, .bool false, .bool false] 45)).heap.size = w.heap.size + 1 := by simp
  generalize hww : w.alloc (.cells #[.int .i64 0, .int .i64 0, .int .i64 0, .bool false, .bool false, .bool false, .bool false] 45) = w1 at *
  clear hww
  refine wp_region_noPanic ?_
  refine wp_region_held_drew (S := (fun w' => Blk w' m 98 #[.pointer (some ⟨t, 0, none⟩), .pointer (some ⟨q, 0, none⟩), .int .i64 sr])) (by kernel_rfl) ?_ (fun hHeld => ?_)
  · exact hm1.drew
  (refine take_on 0 (some 16) (v := ?_) rfl rfl (by kernel_rfl) (by kernel_rfl) (by kernel_rfl) (fun _ _ _ h => h) (by rfl) (by assumption) ?_ ?_; rotate_left; · (intro w hSw; (try dsimp only at hSw); obtain ⟨c0_, c1_, c2_⟩ := blk3 hSw; go_simp; (try with_reducible rfl)))
  (try simp only [Act.put, List.setIfInBounds_toArray, List.set_cons_zero, List.set_cons_succ])
  (refine take_on 1 (some 17) (v := ?_) rfl rfl (by kernel_rfl) (by kernel_rfl) (by kernel_rfl) (fun _ _ _ h => h) (by rfl) (by assumption) ?_ ?_; rotate_left; · (intro w hSw; (try dsimp only at hSw); obtain ⟨c0_, c1_, c2_⟩ := blk3 hSw; go_simp; (try with_reducible rfl)))
  (try simp only [Act.put, List.setIfInBounds_toArray, List.set_cons_zero, List.set_cons_succ])
  (refine take_on 2 (some 18) (v := ?_) rfl rfl (by kernel_rfl) (by kernel_rfl) (by kernel_rfl) (fun _ _ _ h => h) (by rfl) (by assumption) ?_ ?_; rotate_left; · (intro w hSw; (try dsimp only at hSw); obtain ⟨c0_, c1_, c2_⟩ := blk3 hSw; go_simp; (try with_reducible rfl)))
  (try simp only [Act.put, List.setIfInBounds_toArray, List.set_cons_zero, List.set_cons_succ])
  (refine take_on 3 (some 19) (v := ?_) rfl rfl (by kernel_rfl) (by kernel_rfl) (by kernel_rfl) (fun _ _ _ h => h) (by rfl) (by assumption) ?_ ?_; rotate_left; · (intro w hSw; (try dsimp only at hSw); obtain ⟨c0_, c1_, c2_⟩ := blk3 hSw; go_simp; (try with_reducible rfl)))
  (try simp only [Act.put, List.setIfInBounds_toArray, List.set_cons_zero, List.set_cons_succ])
  (refine take_on 4 (some 20) (v := ?_) rfl rfl (by kernel_rfl) (by kernel_rfl) (by kernel_rfl) (fun _ _ _ h => h) (by rfl) (by assumption) ?_ ?_; rotate_left; · (intro w hSw; (try dsimp only at hSw); obtain ⟨c0_, c1_, c2_⟩ := blk3 hSw; go_simp; (try with_reducible rfl)))
  (try simp only [Act.put, List.setIfInBounds_toArray, List.set_cons_zero, List.set_cons_succ])
  (refine take_on 5 (some 21) (v := ?_) rfl rfl (by kernel_rfl) (by kernel_rfl) (by kernel_rfl) (fun _ _ _ h => h) (by rfl) (by assumption) ?_ ?_; rotate_left; · (intro w hSw; (try dsimp only at hSw); obtain ⟨c0_, c1_, c2_⟩ := blk3 hSw; go_simp; (try with_reducible rfl)))
  (try simp only [Act.put, List.setIfInBounds_toArray, List.set_cons_zero, List.set_cons_succ])
  (refine take_on 6 (some 22) (v := ?_) rfl rfl (by kernel_rfl) (by kernel_rfl) (by kernel_rfl) (fun _ _ _ h => h) (by rfl) (by assumption) ?_ ?_; rotate_left; · (intro w hSw; (try dsimp only at hSw); obtain ⟨c0_, c1_, c2_⟩ := blk3 hSw; go_simp; (try with_reducible rfl)))
  (try simp only [Act.put, List.setIfInBounds_toArray, List.set_cons_zero, List.set_cons_succ])
  (refine take_on 7 (some 23) (v := ?_) rfl rfl (by kernel_rfl) (by kernel_rfl) (by kernel_rfl) (fun _ _ _ h => h) (by rfl) (by assumption) ?_ ?_; rotate_left; · (intro w hSw; (try dsimp only at hSw); obtain ⟨c0_, c1_, c2_⟩ := blk3 hSw; go_simp; (try with_reducible rfl)))
  (try simp only [Act.put, List.setIfInBounds_toArray, List.set_cons_zero, List.set_cons_succ])
  (refine take_on 8 (some 24) (v := ?_) rfl rfl (by kernel_rfl) (by kernel_rfl) (by kernel_rfl) (fun _ _ _ h => h) (by rfl) (by assumption) ?_ ?_; rotate_left; · (intro w hSw; (try dsimp only at hSw); obtain ⟨c0_, c1_, c2_⟩ := blk3 hSw; go_simp; (try with_reducible rfl)))
  (try simp only [Act.put, List.setIfInBounds_toArray, List.set_cons_zero, List.set_cons_succ])
  (refine take_on 9 (some 25) (v := ?_) rfl rfl (by kernel_rfl) (by kernel_rfl) (by kernel_rfl) (fun _ _ _ h => h) (by rfl) (by assumption) ?_ ?_; rotate_left; · (intro w hSw; (try dsimp only at hSw); obtain ⟨c0_, c1_, c2_⟩ := blk3 hSw; go_simp; (try with_reducible rfl)))
  (try simp only [Act.put, List.setIfInBounds_toArray, List.set_cons_zero, List.set_cons_succ])
  (refine take_on 10 (some 26) (v := ?_) rfl rfl (by kernel_rfl) (by kernel_rfl) (by kernel_rfl) (fun _ _ _ h => h) (by rfl) (by assumption) ?_ ?_; rotate_left; · (intro w hSw; (try dsimp only at hSw); obtain ⟨c0_, c1_, c2_⟩ := blk3 hSw; go_simp; (try with_reducible rfl)))
  (try simp only [Act.put, List.setIfInBounds_toArray, List.set_cons_zero, List.set_cons_succ])
  refine wpAnyH_ready (rs := [11, 16]) (by kernel_rfl) (by simp) ?_; refine AllReadyH.cons (o := _) rfl (fun K hK => ?_) (AllReadyH.cons (o := _) rfl (fun K hK => ?_) AllReadyH.nil)
  · go_simp
    (go_at_call 36; refine (hWk _ ((Chg.refl [] w1).drew)).mono ?_; rintro e u1 ⟨A, c, rfl, r1, l1, y1⟩; simp only at *)
    refine hK.out _ _ (by (try dsimp only); exact hHeld.chg_ y1 (by simp)) (fun hHeld => ?_)
    clear hK K
    (try simp only [Act.put, List.setIfInBounds_toArray, List.set_cons_zero, List.set_cons_succ])
    (refine take_on 12 (some 15) (v := ?_) rfl rfl (by kernel_rfl) (by kernel_rfl) (by kernel_rfl) (fun _ _ _ h => h) (by rfl) (by assumption) ?_ ?_; rotate_left; · (intro w hSw; (try dsimp only at hSw); go_simp; (try with_reducible rfl)))
    (try simp only [Act.put, List.setIfInBounds_toArray, List.set_cons_zero, List.set_cons_succ])
    (refine take_on 13 (some 28) (v := ?_) rfl rfl (by kernel_rfl) (by kernel_rfl) (by kernel_rfl) (fun _ _ _ h => h) (by rfl) (by assumption) ?_ ?_; rotate_left; · (intro w hSw; (try dsimp only at hSw); go_simp; (try with_reducible rfl)))
    (try simp only [Act.put, List.setIfInBounds_toArray, List.set_cons_zero, List.set_cons_succ])
    (refine take_on 14 (some 29) (v := ?_) rfl rfl (by kernel_rfl) (by kernel_rfl) (by kernel_rfl) (fun _ _ _ h => h) (by rfl) (by assumption) ?_ ?_; rotate_left; · (intro w hSw; (try dsimp only at hSw); go_simp; (try with_reducible rfl)))
    (try simp only [Act.put, List.setIfInBounds_toArray, List.set_cons_zero, List.set_cons_succ])
    (refine take_on 15 (some 30) (v := ?_) rfl rfl (by kernel_rfl) (by kernel_rfl) (by kernel_rfl) (fun _ _ _ h => h) (by rfl) (by assumption) ?_ ?_; rotate_left; · (intro w hSw; (try dsimp only at hSw); go_simp; (try with_reducible rfl)))
    (try simp only [Act.put, List.setIfInBounds_toArray, List.set_cons_zero, List.set_cons_succ])
    refine wpAnyH_ready (rs := [16]) (by kernel_rfl) (by simp) ?_; refine AllReadyH.cons (o := _) rfl (fun K hK => ?_) AllReadyH.nil
    go_simp
    skip
    refine hK.out _ _ (by (try dsimp only); exact Blk.alloc hHeld _) (fun hHeld => ?_)
    clear hK K
    (try simp only [Act.put, List.setIfInBounds_toArray, List.set_cons_zero, List.set_cons_succ])
    have x0 : Chg [] w1 (u1.alloc (.cells #[.slice none 0 0, .int .i64 0, .bool false, .bool false, .bool false, .bool false, .bool false] 60)) := (((Chg.refl [] w1).drew).trans y1 (by simp)).alloc _
    have hp0 := Blk.new u1 60 #[.slice none 0 0, .int .i64 0, .bool false, .bool false, .bool false, .bool false, .bool false]
    have hne : m ≠ u1.heap.size := by have h1 := hm1.lt; have h2 := x0.size; have h3 := y1.size; simp at h2 h3; omega
    have hlo : ∀ g ∈ (Value.slice A ats.length c).ownBlock.toList, w1.heap.size ≤ g ∧ g ≠ u1.heap.size := fun g hg => ⟨by simpa using l1 g hg, by have := OwnA.lt r1 g hg; omega⟩
    have r2 := OwnA.self r1 ((Chg.refl [] u1).alloc (.cells #[.slice none 0 0, .int .i64 0, .bool false, .bool false, .bool false, .bool false, .bool false] 60))
    have hpl : w1.heap.size ≤ u1.heap.size := by simpa using y1.size
    clear r1 l1 y1
    generalize hu2 : u1.alloc (.cells #[.slice none 0 0, .int .i64 0, .bool false, .bool false, .bool false, .bool false, .bool false] 60) = u2 at *
    generalize u1.heap.size = pb at *
    clear hu2
    obtain ⟨z0, z1, z2, z3, z4, z5, z6, g0, g1, g2, g3, g4, g5, g6⟩ := blk7 hp0
    refine wpAnyH_ready (rs := [17]) (by kernel_rfl) (by simp) ?_; refine AllReadyH.cons (o := _) rfl (fun K hK => ?_) AllReadyH.nil
    go_simp
    skip
    refine hK.out _ _ (by (try dsimp only); exact far7 hHeld hne) (fun hHeld => ?_)
    clear hK K
    (try simp only [Act.put, List.setIfInBounds_toArray, List.set_cons_zero, List.set_cons_succ])
    (refine take_on 18 (some 12) (v := ?_) rfl rfl (by kernel_rfl) (by kernel_rfl) (by kernel_rfl) (fun _ _ _ h => h) (by rfl) (by assumption) ?_ ?_; rotate_left; · (intro w hSw; (try dsimp only at hSw); go_simp; (try with_reducible rfl)))
    (try simp only [Act.put, List.setIfInBounds_toArray, List.set_cons_zero, List.set_cons_succ])
    (refine take_on 19 (some 13) (v := ?_) rfl rfl (by kernel_rfl) (by kernel_rfl) (by kernel_rfl) (fun _ _ _ h => h) (by rfl) (by assumption) ?_ ?_; rotate_left; · (intro w hSw; (try dsimp only at hSw); go_simp; (try with_reducible rfl)))
    (try simp only [Act.put, List.setIfInBounds_toArray, List.set_cons_zero, List.set_cons_succ])
    refine wpAnyH_done (by kernel_rfl) ?_ _
    refine NoPanic.normal ?_
    have hp3 := set7 (y0 := .slice A ats.length c) (y1 := .int .i64 pg) (y2 := .bool rw) (y3 := .bool ru) (y4 := .bool rx) (y5 := .bool lg) (y6 := .bool dy) hp0
    have x3 : Chg [] w1 _ := x0.trans (chg7 (y0 := .slice A ats.length c) (y1 := .int .i64 pg) (y2 := .bool rw) (y3 := .bool ru) (y4 := .bool rx) (y5 := .bool lg) (y6 := .bool dy) (g := pb) (Chg.refl [pb] u2) (by simp)) (by intro i hi hm; simp at hm; subst hm; omega)
    have r3 := OwnA.chg r2 (chg7 (y0 := .slice A ats.length c) (y1 := .int .i64 pg) (y2 := .bool rw) (y3 := .bool ru) (y4 := .bool rx) (y5 := .bool lg) (y6 := .bool dy) (g := pb) (Chg.refl [pb] u2) (by simp)) (fun g hg hm => by simp at hm; exact (hlo g hg).2 hm)
    have hpb := hp3.lt
    clear hHeld r2 hp0 x0 z0 z1 z2 z3 z4 z5 z6 g0 g1 g2 g3 g4 g5 g6
    generalize ((((((u2.setCell ⟨pb, 0, none⟩ (.slice A ats.length c)).setCell ⟨pb, 1, none⟩ (.int .i64 pg)).setCell ⟨pb, 2, none⟩ (.bool rw)).setCell ⟨pb, 3, none⟩ (.bool ru)).setCell ⟨pb, 4, none⟩ (.bool rx)).setCell ⟨pb, 5, none⟩ (.bool lg)).setCell ⟨pb, 6, none⟩ (.bool dy) = w3 at *
    have hlo := fun g hg => (hlo g hg).1
    clear hne hWk
    have hr3 := hr1.chg_ x3 (by simp)
    have k3 : Chg [] w w3 := hc1.trans x3 (by simp)
    have H3 := H0.more (G := [w.heap.size, pb]) k3 (by intro i hi; simp at hi; have := hr3.lt; omega)
    clear x3 hc1 hr1 hm1
    have hsl := OwnA.sla r3
    have hap : ∀ g o, A = some ⟨g, o, none⟩ → g ≠ b := fun g o e => by have h1 := hlo g (by rw [e]; simp [Value.ownBlock]); have h2 := H0.lt b (by simp [mB]); omega
    have hmk := fun w9 (k9 : Chg [] w3 w9) => Mark_at q S p L h b n sW A c ⟨ats, pg, ⟨rw, ru, rx⟩, lg, dy⟩ kb w9 (H3.gu.self k9) H3.ok.wd (hsl.self k9) hall hap
    simp only [pathV, HW4.out] at hmk
    go_wp2_with fail
    clear hkb
    refine wp_region_noPanic ?_
    refine wp_region_held_drew (S := (fun w' => Blk w' m 98 #[.pointer (some ⟨t, 0, none⟩), .pointer (some ⟨q, 0, none⟩), .int .i64 sr] ∧ Blk w' pb 60 #[.slice A ats.length c, .int .i64 pg, .bool rw, .bool ru, .bool rx, .bool lg, .bool dy])) (by kernel_rfl) ?_ (fun hHeld => ?_)
    · exact ⟨H3.st.drew, hp3.drew⟩
    (refine take_on 0 (some 38) (v := ?_) rfl rfl (by kernel_rfl) (by kernel_rfl) (by kernel_rfl) (fun _ _ _ h => h) (by rfl) (by assumption) ?_ ?_; rotate_left; · (intro w hSw; (try dsimp only at hSw); obtain ⟨hSm, hSp⟩ := hSw; obtain ⟨c0_, c1_, c2_⟩ := blk3 hSm; obtain ⟨z0_, z1_, z2_, z3_, z4_, z5_, z6_, _, _, _, _, _, _, _⟩ := blk7 hSp; go_simp; (try with_reducible rfl)))
    (try simp only [Act.put, List.setIfInBounds_toArray, List.set_cons_zero, List.set_cons_succ])
    (refine take_on 1 (some 39) (v := ?_) rfl rfl (by kernel_rfl) (by kernel_rfl) (by kernel_rfl) (fun _ _ _ h => h) (by rfl) (by assumption) ?_ ?_; rotate_left; · (intro w hSw; (try dsimp only at hSw); obtain ⟨hSm, hSp⟩ := hSw; obtain ⟨c0_, c1_, c2_⟩ := blk3 hSm; obtain ⟨z0_, z1_, z2_, z3_, z4_, z5_, z6_, _, _, _, _, _, _, _⟩ := blk7 hSp; go_simp; (try with_reducible rfl)))
    (try simp only [Act.put, List.setIfInBounds_toArray, List.set_cons_zero, List.set_cons_succ])
    (refine take_on 2 (some 40) (v := ?_) rfl rfl (by kernel_rfl) (by kernel_rfl) (by kernel_rfl) (fun _ _ _ h => h) (by rfl) (by assumption) ?_ ?_; rotate_left; · (intro w hSw; (try dsimp only at hSw); obtain ⟨hSm, hSp⟩ := hSw; obtain ⟨c0_, c1_, c2_⟩ := blk3 hSm; obtain ⟨z0_, z1_, z2_, z3_, z4_, z5_, z6_, _, _, _, _, _, _, _⟩ := blk7 hSp; go_simp; (try with_reducible rfl)))
    (try simp only [Act.put, List.setIfInBounds_toArray, List.set_cons_zero, List.set_cons_succ])
    (refine take_on 3 (some 41) (v := ?_) rfl rfl (by kernel_rfl) (by kernel_rfl) (by kernel_rfl) (fun _ _ _ h => h) (by rfl) (by assumption) ?_ ?_; rotate_left; · (intro w hSw; (try dsimp only at hSw); obtain ⟨hSm, hSp⟩ := hSw; obtain ⟨c0_, c1_, c2_⟩ := blk3 hSm; obtain ⟨z0_, z1_, z2_, z3_, z4_, z5_, z6_, _, _, _, _, _, _, _⟩ := blk7 hSp; go_simp; (try with_reducible rfl)))
    (try simp only [Act.put, List.setIfInBounds_toArray, List.set_cons_zero, List.set_cons_succ])
    (refine take_on 4 (some 42) (v := ?_) rfl rfl (by kernel_rfl) (by kernel_rfl) (by kernel_rfl) (fun _ _ _ h => h) (by rfl) (by assumption) ?_ ?_; rotate_left; · (intro w hSw; (try dsimp only at hSw); obtain ⟨hSm, hSp⟩ := hSw; obtain ⟨c0_, c1_, c2_⟩ := blk3 hSm; obtain ⟨z0_, z1_, z2_, z3_, z4_, z5_, z6_, _, _, _, _, _, _, _⟩ := blk7 hSp; go_simp; (try with_reducible rfl)))
    (try simp only [Act.put, List.setIfInBounds_toArray, List.set_cons_zero, List.set_cons_succ])
    (refine take_on 5 (some 43) (v := ?_) rfl rfl (by kernel_rfl) (by kernel_rfl) (by kernel_rfl) (fun _ _ _ h => h) (by rfl) (by assumption) ?_ ?_; rotate_left; · (intro w hSw; (try dsimp only at hSw); obtain ⟨hSm, hSp⟩ := hSw; obtain ⟨c0_, c1_, c2_⟩ := blk3 hSm; obtain ⟨z0_, z1_, z2_, z3_, z4_, z5_, z6_, _, _, _, _, _, _, _⟩ := blk7 hSp; go_simp; (try with_reducible rfl)))
    (try simp only [Act.put, List.setIfInBounds_toArray, List.set_cons_zero, List.set_cons_succ])
    refine wpAnyH_ready (rs := [6]) (by kernel_rfl) (by simp) ?_; refine AllReadyH.cons (o := _) rfl (fun K hK => ?_) AllReadyH.nil
    go_simp
    (go_at_call 126; refine (hmk _ ((Chg.refl [] w3).drew)).mono ?_; rintro e w4 ⟨rfl, y4, g4_⟩)
    refine hK.out _ _ (by (try dsimp only); exact ⟨y4.blk hHeld.1 (by simpa using H3.bm), y4.blk hHeld.2 (by have := H3.ap b (by simp [mB]); simp at this ⊢; exact fun e => this.2.1 e.symm)⟩) (fun hHeld => ?_)
    clear hK K
    (try simp only [Act.put, List.setIfInBounds_toArray, List.set_cons_zero, List.set_cons_succ])
    refine wpAnyH_done (by kernel_rfl) ?_ _
    refine NoPanic.normal ?_
    obtain ⟨H4, f4⟩ := (H3.new ((Chg.refl [] w3).drew)).setW y4 g4_ (HW4.out ▸ H3.ok.mark ats kb)
    have f4 := (Far.of_new ((Chg.refl [] w3).drew)).trans f4
    have hr4 := f4.blk hr3 (by simp)
    have hp4 := f4.blk hp3 (by simp)
    clear hHeld hmk hsl hap g4_ y4 hr3 hp3 r3
    have hle := fun w9 (k9 : Chg [] w4 w9) => PLearn_b page A c ⟨ats, pg, ⟨rw, ru, rx⟩, lg, dy⟩ kb (H4.new k9).tb
    simp only [pathV, Ht.v, HE5.out, HT4.out] at hle
    go_wp2_with fail
    refine wp_region_noPanic ?_
    refine wp_region_held_drew (S := (fun w' => Blk w' m 98 #[.pointer (some ⟨t, 0, none⟩), .pointer (some ⟨q, 0, none⟩), .int .i64 sr] ∧ Blk w' pb 60 #[.slice A ats.length c, .int .i64 pg, .bool rw, .bool ru, .bool rx, .bool lg, .bool dy])) (by kernel_rfl) ?_ (fun hHeld => ?_)
    · exact ⟨H4.st.drew, hp4.drew⟩
    (refine take_on 0 (some 45) (v := ?_) rfl rfl (by kernel_rfl) (by kernel_rfl) (by kernel_rfl) (fun _ _ _ h => h) (by rfl) (by assumption) ?_ ?_; rotate_left; · (intro w hSw; (try dsimp only at hSw); obtain ⟨hSm, hSp⟩ := hSw; obtain ⟨c0_, c1_, c2_⟩ := blk3 hSm; obtain ⟨z0_, z1_, z2_, z3_, z4_, z5_, z6_, _, _, _, _, _, _, _⟩ := blk7 hSp; go_simp; (try with_reducible rfl)))
    (try simp only [Act.put, List.setIfInBounds_toArray, List.set_cons_zero, List.set_cons_succ])
    (refine take_on 1 (some 46) (v := ?_) rfl rfl (by kernel_rfl) (by kernel_rfl) (by kernel_rfl) (fun _ _ _ h => h) (by rfl) (by assumption) ?_ ?_; rotate_left; · (intro w hSw; (try dsimp only at hSw); obtain ⟨hSm, hSp⟩ := hSw; obtain ⟨c0_, c1_, c2_⟩ := blk3 hSm; obtain ⟨z0_, z1_, z2_, z3_, z4_, z5_, z6_, _, _, _, _, _, _, _⟩ := blk7 hSp; go_simp; (try with_reducible rfl)))
    (try simp only [Act.put, List.setIfInBounds_toArray, List.set_cons_zero, List.set_cons_succ])
    (refine take_on 2 (some 47) (v := ?_) rfl rfl (by kernel_rfl) (by kernel_rfl) (by kernel_rfl) (fun _ _ _ h => h) (by rfl) (by assumption) ?_ ?_; rotate_left; · (intro w hSw; (try dsimp only at hSw); obtain ⟨hSm, hSp⟩ := hSw; obtain ⟨c0_, c1_, c2_⟩ := blk3 hSm; obtain ⟨z0_, z1_, z2_, z3_, z4_, z5_, z6_, _, _, _, _, _, _, _⟩ := blk7 hSp; go_simp; (try with_reducible rfl)))
    (try simp only [Act.put, List.setIfInBounds_toArray, List.set_cons_zero, List.set_cons_succ])
    (refine take_on 3 (some 48) (v := ?_) rfl rfl (by kernel_rfl) (by kernel_rfl) (by kernel_rfl) (fun _ _ _ h => h) (by rfl) (by assumption) ?_ ?_; rotate_left; · (intro w hSw; (try dsimp only at hSw); obtain ⟨hSm, hSp⟩ := hSw; obtain ⟨c0_, c1_, c2_⟩ := blk3 hSm; obtain ⟨z0_, z1_, z2_, z3_, z4_, z5_, z6_, _, _, _, _, _, _, _⟩ := blk7 hSp; go_simp; (try with_reducible rfl)))
    (try simp only [Act.put, List.setIfInBounds_toArray, List.set_cons_zero, List.set_cons_succ])
    (refine take_on 4 (some 49) (v := ?_) rfl rfl (by kernel_rfl) (by kernel_rfl) (by kernel_rfl) (fun _ _ _ h => h) (by rfl) (by assumption) ?_ ?_; rotate_left; · (intro w hSw; (try dsimp only at hSw); obtain ⟨hSm, hSp⟩ := hSw; obtain ⟨c0_, c1_, c2_⟩ := blk3 hSm; obtain ⟨z0_, z1_, z2_, z3_, z4_, z5_, z6_, _, _, _, _, _, _, _⟩ := blk7 hSp; go_simp; (try with_reducible rfl)))
    (try simp only [Act.put, List.setIfInBounds_toArray, List.set_cons_zero, List.set_cons_succ])
    (refine take_on 5 (some 50) (v := ?_) rfl rfl (by kernel_rfl) (by kernel_rfl) (by kernel_rfl) (fun _ _ _ h => h) (by rfl) (by assumption) ?_ ?_; rotate_left; · (intro w hSw; (try dsimp only at hSw); obtain ⟨hSm, hSp⟩ := hSw; obtain ⟨c0_, c1_, c2_⟩ := blk3 hSm; obtain ⟨z0_, z1_, z2_, z3_, z4_, z5_, z6_, _, _, _, _, _, _, _⟩ := blk7 hSp; go_simp; (try with_reducible rfl)))
    (try simp only [Act.put, List.setIfInBounds_toArray, List.set_cons_zero, List.set_cons_succ])
    (refine take_on 6 (some 51) (v := ?_) rfl rfl (by kernel_rfl) (by kernel_rfl) (by kernel_rfl) (fun _ _ _ h => h) (by rfl) (by assumption) ?_ ?_; rotate_left; · (intro w hSw; (try dsimp only at hSw); obtain ⟨hSm, hSp⟩ := hSw; obtain ⟨c0_, c1_, c2_⟩ := blk3 hSm; obtain ⟨z0_, z1_, z2_, z3_, z4_, z5_, z6_, _, _, _, _, _, _, _⟩ := blk7 hSp; go_simp; (try with_reducible rfl)))
    (try simp only [Act.put, List.setIfInBounds_toArray, List.set_cons_zero, List.set_cons_succ])
    refine wpAnyH_ready (rs := [7]) (by kernel_rfl) (by simp) ?_; refine AllReadyH.cons (o := _) rfl (fun K hK => ?_) AllReadyH.nil
    go_simp
    (go_at_call 60; refine (hle _ ((Chg.refl [] w4).drew)).mono ?_; rintro e w5 ⟨rfl, h5, f5⟩; have hr5 := f5.blk hr4.drew (by simp); obtain ⟨z0, z1, z2, z3, z4, z5, z6, g0, g1, g2, g3, g4, g5, g6⟩ := blk7 hr5)
    refine hK.out _ _ (by (try dsimp only); exact ⟨f5.blk hHeld.1 (by simp [mB]), f5.blk hHeld.2 (by simp)⟩) (fun hHeld => ?_)
    clear hK K
    (try simp only [Act.put, List.setIfInBounds_toArray, List.set_cons_zero, List.set_cons_succ])
    refine wpAnyH_ready (rs := [8]) (by kernel_rfl) (by simp) ?_; refine AllReadyH.cons (o := _) rfl (fun K hK => ?_) AllReadyH.nil
    go_simp
    skip
    refine hK.out _ _ (by (try dsimp only); exact ⟨far7 hHeld.1 (by have h1 := H0.lt m (by simp [mB]); omega), far7 hHeld.2 (by omega)⟩) (fun hHeld => ?_)
    clear hK K
    (try simp only [Act.put, List.setIfInBounds_toArray, List.set_cons_zero, List.set_cons_succ])
    (refine take_on 9 (some 9) (v := ?_) rfl rfl (by kernel_rfl) (by kernel_rfl) (by kernel_rfl) (fun _ _ _ h => h) (by rfl) (by assumption) ?_ ?_; rotate_left; · (intro w hSw; (try dsimp only at hSw); go_simp; (try with_reducible rfl)))
    (try simp only [Act.put, List.setIfInBounds_toArray, List.set_cons_zero, List.set_cons_succ])
    (refine take_on 10 (some 10) (v := ?_) rfl rfl (by kernel_rfl) (by kernel_rfl) (by kernel_rfl) (fun _ _ _ h => h) (by rfl) (by assumption) ?_ ?_; rotate_left; · (intro w hSw; (try dsimp only at hSw); go_simp; (try with_reducible rfl)))
    (try simp only [Act.put, List.setIfInBounds_toArray, List.set_cons_zero, List.set_cons_succ])
    refine wpAnyH_done (by kernel_rfl) ?_ _
    refine NoPanic.normal ?_
    have H5 := (H4.new ((Chg.refl [] w4).drew)).setT h5 f5 (H4.ok.put (x := ⟨0, page, pg, rw, ru, rx, dk⟩) ⟨rfl, path_g0 hgl.1, hgl.2.2⟩ |> fun hh => HT4.out ▸ hh)
    go_wp2_with fail
    refine bodyPost_ret (cell_tmps_ret rfl (set7 hr5) rfl Tryz.underlying45 rfl (by kernel_rfl)) rfl ?_
    have hk3 := chg7 (y0 := .int .i64 0) (y1 := .int .i64 page) (y2 := .int .i64 pg) (y3 := .bool rw) (y4 := .bool ru) (y5 := .bool rx) (y6 := .bool dk) (g := w.heap.size) (Chg.refl [w.heap.size] w5) (by simp)
    exact ⟨rfl, (H5.less (G := w.heap.size :: F) (fun i hi => by simp at hi ⊢; rcases hi with h | h <;> simp [h])).own hk3 hs0, (Far.of_new k3).trans ((f4.less (fun i hi => by simp [hi])).trans ((Far.of_new ((Chg.refl [] w4).drew)).trans ((f5.less (fun i hi => by simp [hi])).trans ⟨_, hk3, by simp; exact fun hm => by have := hFw _ hm; omega⟩)))⟩
  · go_simp
    skip
    refine hK.out _ _ (by (try dsimp only); exact Blk.alloc hHeld _) (fun hHeld => ?_)
    clear hK K
    (try simp only [Act.put, List.setIfInBounds_toArray, List.set_cons_zero, List.set_cons_succ])
    have x9 : Chg [] w1 (w1.drew.alloc (.cells #[.slice none 0 0, .int .i64 0, .bool false, .bool false, .bool false, .bool false, .bool false] 60)) := ((Chg.refl [] w1).drew).alloc _
    have hp9 : Blk (w1.drew.alloc (.cells #[.slice none 0 0, .int .i64 0, .bool false, .bool false, .bool false, .bool false, .bool false] 60)) w1.heap.size 60 #[.slice none 0 0, .int .i64 0, .bool false, .bool false, .bool false, .bool false, .bool false] := Blk.new w1.drew _ _
    rw [hw1] at hp9
    refine wpAnyH_ready (rs := [11]) (by kernel_rfl) (by simp) ?_; refine AllReadyH.cons (o := _) rfl (fun K hK => ?_) AllReadyH.nil
    go_simp
    (go_at_call 36; refine (hWk _ x9).mono ?_; rintro e u1 ⟨A, c, rfl, r1, l1, y1⟩; simp only at *)
    refine hK.out _ _ (by (try dsimp only); exact hHeld.chg_ y1 (by simp)) (fun hHeld => ?_)
    clear hK K
    (try simp only [Act.put, List.setIfInBounds_toArray, List.set_cons_zero, List.set_cons_succ])
    (refine take_on 12 (some 15) (v := ?_) rfl rfl (by kernel_rfl) (by kernel_rfl) (by kernel_rfl) (fun _ _ _ h => h) (by rfl) (by assumption) ?_ ?_; rotate_left; · (intro w hSw; (try dsimp only at hSw); go_simp; (try with_reducible rfl)))
    (try simp only [Act.put, List.setIfInBounds_toArray, List.set_cons_zero, List.set_cons_succ])
    (refine take_on 13 (some 28) (v := ?_) rfl rfl (by kernel_rfl) (by kernel_rfl) (by kernel_rfl) (fun _ _ _ h => h) (by rfl) (by assumption) ?_ ?_; rotate_left; · (intro w hSw; (try dsimp only at hSw); go_simp; (try with_reducible rfl)))
    (try simp only [Act.put, List.setIfInBounds_toArray, List.set_cons_zero, List.set_cons_succ])
    (refine take_on 14 (some 29) (v := ?_) rfl rfl (by kernel_rfl) (by kernel_rfl) (by kernel_rfl) (fun _ _ _ h => h) (by rfl) (by assumption) ?_ ?_; rotate_left; · (intro w hSw; (try dsimp only at hSw); go_simp; (try with_reducible rfl)))
    (try simp only [Act.put, List.setIfInBounds_toArray, List.set_cons_zero, List.set_cons_succ])
    (refine take_on 15 (some 30) (v := ?_) rfl rfl (by kernel_rfl) (by kernel_rfl) (by kernel_rfl) (fun _ _ _ h => h) (by rfl) (by assumption) ?_ ?_; rotate_left; · (intro w hSw; (try dsimp only at hSw); go_simp; (try with_reducible rfl)))
    (try simp only [Act.put, List.setIfInBounds_toArray, List.set_cons_zero, List.set_cons_succ])
    have x0 : Chg [] w1 u1 := x9.trans y1 (by simp)
    have hp0 := hp9.chg_ y1 (by simp)
    obtain ⟨pb, hpe⟩ : ∃ pb, pb = w.heap.size + 1 := ⟨_, rfl⟩
    have hne : m ≠ pb := by have h1 := hm1.lt; omega
    have hlo : ∀ g ∈ (Value.slice A ats.length c).ownBlock.toList, w1.heap.size ≤ g ∧ g ≠ pb := fun g hg => by have := l1 g hg; simp at this; omega
    have hpl : w1.heap.size ≤ pb := by omega
    rw [← hpe] at hp0 ⊢
    have r2 := r1
    clear r1 l1 y1 x9 hp9 hpe
    generalize hu2 : u1 = u2 at *
    clear hu2
    obtain ⟨z0, z1, z2, z3, z4, z5, z6, g0, g1, g2, g3, g4, g5, g6⟩ := blk7 hp0
    refine wpAnyH_ready (rs := [17]) (by kernel_rfl) (by simp) ?_; refine AllReadyH.cons (o := _) rfl (fun K hK => ?_) AllReadyH.nil
    go_simp
    skip
    refine hK.out _ _ (by (try dsimp only); exact far7 hHeld hne) (fun hHeld => ?_)
    clear hK K
    (try simp only [Act.put, List.setIfInBounds_toArray, List.set_cons_zero, List.set_cons_succ])
    (refine take_on 18 (some 12) (v := ?_) rfl rfl (by kernel_rfl) (by kernel_rfl) (by kernel_rfl) (fun _ _ _ h => h) (by rfl) (by assumption) ?_ ?_; rotate_left; · (intro w hSw; (try dsimp only at hSw); go_simp; (try with_reducible rfl)))
    (try simp only [Act.put, List.setIfInBounds_toArray, List.set_cons_zero, List.set_cons_succ])
    (refine take_on 19 (some 13) (v := ?_) rfl rfl (by kernel_rfl) (by kernel_rfl) (by kernel_rfl) (fun _ _ _ h => h) (by rfl) (by assumption) ?_ ?_; rotate_left; · (intro w hSw; (try dsimp only at hSw); go_simp; (try with_reducible rfl)))
    (try simp only [Act.put, List.setIfInBounds_toArray, List.set_cons_zero, List.set_cons_succ])
    refine wpAnyH_done (by kernel_rfl) ?_ _
    refine NoPanic.normal ?_
    have hp3 := set7 (y0 := .slice A ats.length c) (y1 := .int .i64 pg) (y2 := .bool rw) (y3 := .bool ru) (y4 := .bool rx) (y5 := .bool lg) (y6 := .bool dy) hp0
    have x3 : Chg [] w1 _ := x0.trans (chg7 (y0 := .slice A ats.length c) (y1 := .int .i64 pg) (y2 := .bool rw) (y3 := .bool ru) (y4 := .bool rx) (y5 := .bool lg) (y6 := .bool dy) (g := pb) (Chg.refl [pb] u2) (by simp)) (by intro i hi hm; simp at hm; subst hm; omega)
    have r3 := OwnA.chg r2 (chg7 (y0 := .slice A ats.length c) (y1 := .int .i64 pg) (y2 := .bool rw) (y3 := .bool ru) (y4 := .bool rx) (y5 := .bool lg) (y6 := .bool dy) (g := pb) (Chg.refl [pb] u2) (by simp)) (fun g hg hm => by simp at hm; exact (hlo g hg).2 hm)
    have hpb := hp3.lt
    clear hHeld r2 hp0 x0 z0 z1 z2 z3 z4 z5 z6 g0 g1 g2 g3 g4 g5 g6
    generalize ((((((u2.setCell ⟨pb, 0, none⟩ (.slice A ats.length c)).setCell ⟨pb, 1, none⟩ (.int .i64 pg)).setCell ⟨pb, 2, none⟩ (.bool rw)).setCell ⟨pb, 3, none⟩ (.bool ru)).setCell ⟨pb, 4, none⟩ (.bool rx)).setCell ⟨pb, 5, none⟩ (.bool lg)).setCell ⟨pb, 6, none⟩ (.bool dy) = w3 at *
    have hlo := fun g hg => (hlo g hg).1
    clear hne hWk
    have hr3 := hr1.chg_ x3 (by simp)
    have k3 : Chg [] w w3 := hc1.trans x3 (by simp)
    have H3 := H0.more (G := [w.heap.size, pb]) k3 (by intro i hi; simp at hi; have := hr3.lt; omega)
    clear x3 hc1 hr1 hm1
    have hsl := OwnA.sla r3
    have hap : ∀ g o, A = some ⟨g, o, none⟩ → g ≠ b := fun g o e => by have h1 := hlo g (by rw [e]; simp [Value.ownBlock]); have h2 := H0.lt b (by simp [mB]); omega
    have hmk := fun w9 (k9 : Chg [] w3 w9) => Mark_at q S p L h b n sW A c ⟨ats, pg, ⟨rw, ru, rx⟩, lg, dy⟩ kb w9 (H3.gu.self k9) H3.ok.wd (hsl.self k9) hall hap
    simp only [pathV, HW4.out] at hmk
    go_wp2_with fail
    clear hkb
    refine wp_region_noPanic ?_
    refine wp_region_held_drew (S := (fun w' => Blk w' m 98 #[.pointer (some ⟨t, 0, none⟩), .pointer (some ⟨q, 0, none⟩), .int .i64 sr] ∧ Blk w' pb 60 #[.slice A ats.length c, .int .i64 pg, .bool rw, .bool ru, .bool rx, .bool lg, .bool dy])) (by kernel_rfl) ?_ (fun hHeld => ?_)
    · exact ⟨H3.st.drew, hp3.drew⟩
    (refine take_on 0 (some 38) (v := ?_) rfl rfl (by kernel_rfl) (by kernel_rfl) (by kernel_rfl) (fun _ _ _ h => h) (by rfl) (by assumption) ?_ ?_; rotate_left; · (intro w hSw; (try dsimp only at hSw); obtain ⟨hSm, hSp⟩ := hSw; obtain ⟨c0_, c1_, c2_⟩ := blk3 hSm; obtain ⟨z0_, z1_, z2_, z3_, z4_, z5_, z6_, _, _, _, _, _, _, _⟩ := blk7 hSp; go_simp; (try with_reducible rfl)))
    (try simp only [Act.put, List.setIfInBounds_toArray, List.set_cons_zero, List.set_cons_succ])
    (refine take_on 1 (some 39) (v := ?_) rfl rfl (by kernel_rfl) (by kernel_rfl) (by kernel_rfl) (fun _ _ _ h => h) (by rfl) (by assumption) ?_ ?_; rotate_left; · (intro w hSw; (try dsimp only at hSw); obtain ⟨hSm, hSp⟩ := hSw; obtain ⟨c0_, c1_, c2_⟩ := blk3 hSm; obtain ⟨z0_, z1_, z2_, z3_, z4_, z5_, z6_, _, _, _, _, _, _, _⟩ := blk7 hSp; go_simp; (try with_reducible rfl)))
    (try simp only [Act.put, List.setIfInBounds_toArray, List.set_cons_zero, List.set_cons_succ])
    (refine take_on 2 (some 40) (v := ?_) rfl rfl (by kernel_rfl) (by kernel_rfl) (by kernel_rfl) (fun _ _ _ h => h) (by rfl) (by assumption) ?_ ?_; rotate_left; · (intro w hSw; (try dsimp only at hSw); obtain ⟨hSm, hSp⟩ := hSw; obtain ⟨c0_, c1_, c2_⟩ := blk3 hSm; obtain ⟨z0_, z1_, z2_, z3_, z4_, z5_, z6_, _, _, _, _, _, _, _⟩ := blk7 hSp; go_simp; (try with_reducible rfl)))
    (try simp only [Act.put, List.setIfInBounds_toArray, List.set_cons_zero, List.set_cons_succ])
    (refine take_on 3 (some 41) (v := ?_) rfl rfl (by kernel_rfl) (by kernel_rfl) (by kernel_rfl) (fun _ _ _ h => h) (by rfl) (by assumption) ?_ ?_; rotate_left; · (intro w hSw; (try dsimp only at hSw); obtain ⟨hSm, hSp⟩ := hSw; obtain ⟨c0_, c1_, c2_⟩ := blk3 hSm; obtain ⟨z0_, z1_, z2_, z3_, z4_, z5_, z6_, _, _, _, _, _, _, _⟩ := blk7 hSp; go_simp; (try with_reducible rfl)))
    (try simp only [Act.put, List.setIfInBounds_toArray, List.set_cons_zero, List.set_cons_succ])
    (refine take_on 4 (some 42) (v := ?_) rfl rfl (by kernel_rfl) (by kernel_rfl) (by kernel_rfl) (fun _ _ _ h => h) (by rfl) (by assumption) ?_ ?_; rotate_left; · (intro w hSw; (try dsimp only at hSw); obtain ⟨hSm, hSp⟩ := hSw; obtain ⟨c0_, c1_, c2_⟩ := blk3 hSm; obtain ⟨z0_, z1_, z2_, z3_, z4_, z5_, z6_, _, _, _, _, _, _, _⟩ := blk7 hSp; go_simp; (try with_reducible rfl)))
    (try simp only [Act.put, List.setIfInBounds_toArray, List.set_cons_zero, List.set_cons_succ])
    (refine take_on 5 (some 43) (v := ?_) rfl rfl (by kernel_rfl) (by kernel_rfl) (by kernel_rfl) (fun _ _ _ h => h) (by rfl) (by assumption) ?_ ?_; rotate_left; · (intro w hSw; (try dsimp only at hSw); obtain ⟨hSm, hSp⟩ := hSw; obtain ⟨c0_, c1_, c2_⟩ := blk3 hSm; obtain ⟨z0_, z1_, z2_, z3_, z4_, z5_, z6_, _, _, _, _, _, _, _⟩ := blk7 hSp; go_simp; (try with_reducible rfl)))
    (try simp only [Act.put, List.setIfInBounds_toArray, List.set_cons_zero, List.set_cons_succ])
    refine wpAnyH_ready (rs := [6]) (by kernel_rfl) (by simp) ?_; refine AllReadyH.cons (o := _) rfl (fun K hK => ?_) AllReadyH.nil
    go_simp
    (go_at_call 126; refine (hmk _ ((Chg.refl [] w3).drew)).mono ?_; rintro e w4 ⟨rfl, y4, g4_⟩)
    refine hK.out _ _ (by (try dsimp only); exact ⟨y4.blk hHeld.1 (by simpa using H3.bm), y4.blk hHeld.2 (by have := H3.ap b (by simp [mB]); simp at this ⊢; exact fun e => this.2.1 e.symm)⟩) (fun hHeld => ?_)
    clear hK K
    (try simp only [Act.put, List.setIfInBounds_toArray, List.set_cons_zero, List.set_cons_succ])
    refine wpAnyH_done (by kernel_rfl) ?_ _
    refine NoPanic.normal ?_
    obtain ⟨H4, f4⟩ := (H3.new ((Chg.refl [] w3).drew)).setW y4 g4_ (HW4.out ▸ H3.ok.mark ats kb)
    have f4 := (Far.of_new ((Chg.refl [] w3).drew)).trans f4
    have hr4 := f4.blk hr3 (by simp)
    have hp4 := f4.blk hp3 (by simp)
    clear hHeld hmk hsl hap g4_ y4 hr3 hp3 r3
    have hle := fun w9 (k9 : Chg [] w4 w9) => PLearn_b page A c ⟨ats, pg, ⟨rw, ru, rx⟩, lg, dy⟩ kb (H4.new k9).tb
    simp only [pathV, Ht.v, HE5.out, HT4.out] at hle
    go_wp2_with fail
    refine wp_region_noPanic ?_
    refine wp_region_held_drew (S := (fun w' => Blk w' m 98 #[.pointer (some ⟨t, 0, none⟩), .pointer (some ⟨q, 0, none⟩), .int .i64 sr] ∧ Blk w' pb 60 #[.slice A ats.length c, .int .i64 pg, .bool rw, .bool ru, .bool rx, .bool lg, .bool dy])) (by kernel_rfl) ?_ (fun hHeld => ?_)
    · exact ⟨H4.st.drew, hp4.drew⟩
    (refine take_on 0 (some 45) (v := ?_) rfl rfl (by kernel_rfl) (by kernel_rfl) (by kernel_rfl) (fun _ _ _ h => h) (by rfl) (by assumption) ?_ ?_; rotate_left; · (intro w hSw; (try dsimp only at hSw); obtain ⟨hSm, hSp⟩ := hSw; obtain ⟨c0_, c1_, c2_⟩ := blk3 hSm; obtain ⟨z0_, z1_, z2_, z3_, z4_, z5_, z6_, _, _, _, _, _, _, _⟩ := blk7 hSp; go_simp; (try with_reducible rfl)))
    (try simp only [Act.put, List.setIfInBounds_toArray, List.set_cons_zero, List.set_cons_succ])
    (refine take_on 1 (some 46) (v := ?_) rfl rfl (by kernel_rfl) (by kernel_rfl) (by kernel_rfl) (fun _ _ _ h => h) (by rfl) (by assumption) ?_ ?_; rotate_left; · (intro w hSw; (try dsimp only at hSw); obtain ⟨hSm, hSp⟩ := hSw; obtain ⟨c0_, c1_, c2_⟩ := blk3 hSm; obtain ⟨z0_, z1_, z2_, z3_, z4_, z5_, z6_, _, _, _, _, _, _, _⟩ := blk7 hSp; go_simp; (try with_reducible rfl)))
    (try simp only [Act.put, List.setIfInBounds_toArray, List.set_cons_zero, List.set_cons_succ])
    (refine take_on 2 (some 47) (v := ?_) rfl rfl (by kernel_rfl) (by kernel_rfl) (by kernel_rfl) (fun _ _ _ h => h) (by rfl) (by assumption) ?_ ?_; rotate_left; · (intro w hSw; (try dsimp only at hSw); obtain ⟨hSm, hSp⟩ := hSw; obtain ⟨c0_, c1_, c2_⟩ := blk3 hSm; obtain ⟨z0_, z1_, z2_, z3_, z4_, z5_, z6_, _, _, _, _, _, _, _⟩ := blk7 hSp; go_simp; (try with_reducible rfl)))
    (try simp only [Act.put, List.setIfInBounds_toArray, List.set_cons_zero, List.set_cons_succ])
    (refine take_on 3 (some 48) (v := ?_) rfl rfl (by kernel_rfl) (by kernel_rfl) (by kernel_rfl) (fun _ _ _ h => h) (by rfl) (by assumption) ?_ ?_; rotate_left; · (intro w hSw; (try dsimp only at hSw); obtain ⟨hSm, hSp⟩ := hSw; obtain ⟨c0_, c1_, c2_⟩ := blk3 hSm; obtain ⟨z0_, z1_, z2_, z3_, z4_, z5_, z6_, _, _, _, _, _, _, _⟩ := blk7 hSp; go_simp; (try with_reducible rfl)))
    (try simp only [Act.put, List.setIfInBounds_toArray, List.set_cons_zero, List.set_cons_succ])
    (refine take_on 4 (some 49) (v := ?_) rfl rfl (by kernel_rfl) (by kernel_rfl) (by kernel_rfl) (fun _ _ _ h => h) (by rfl) (by assumption) ?_ ?_; rotate_left; · (intro w hSw; (try dsimp only at hSw); obtain ⟨hSm, hSp⟩ := hSw; obtain ⟨c0_, c1_, c2_⟩ := blk3 hSm; obtain ⟨z0_, z1_, z2_, z3_, z4_, z5_, z6_, _, _, _, _, _, _, _⟩ := blk7 hSp; go_simp; (try with_reducible rfl)))
    (try simp only [Act.put, List.setIfInBounds_toArray, List.set_cons_zero, List.set_cons_succ])
    (refine take_on 5 (some 50) (v := ?_) rfl rfl (by kernel_rfl) (by kernel_rfl) (by kernel_rfl) (fun _ _ _ h => h) (by rfl) (by assumption) ?_ ?_; rotate_left; · (intro w hSw; (try dsimp only at hSw); obtain ⟨hSm, hSp⟩ := hSw; obtain ⟨c0_, c1_, c2_⟩ := blk3 hSm; obtain ⟨z0_, z1_, z2_, z3_, z4_, z5_, z6_, _, _, _, _, _, _, _⟩ := blk7 hSp; go_simp; (try with_reducible rfl)))
    (try simp only [Act.put, List.setIfInBounds_toArray, List.set_cons_zero, List.set_cons_succ])
    (refine take_on 6 (some 51) (v := ?_) rfl rfl (by kernel_rfl) (by kernel_rfl) (by kernel_rfl) (fun _ _ _ h => h) (by rfl) (by assumption) ?_ ?_; rotate_left; · (intro w hSw; (try dsimp only at hSw); obtain ⟨hSm, hSp⟩ := hSw; obtain ⟨c0_, c1_, c2_⟩ := blk3 hSm; obtain ⟨z0_, z1_, z2_, z3_, z4_, z5_, z6_, _, _, _, _, _, _, _⟩ := blk7 hSp; go_simp; (try with_reducible rfl)))
    (try simp only [Act.put, List.setIfInBounds_toArray, List.set_cons_zero, List.set_cons_succ])
    refine wpAnyH_ready (rs := [7]) (by kernel_rfl) (by simp) ?_; refine AllReadyH.cons (o := _) rfl (fun K hK => ?_) AllReadyH.nil
    go_simp
    (go_at_call 60; refine (hle _ ((Chg.refl [] w4).drew)).mono ?_; rintro e w5 ⟨rfl, h5, f5⟩; have hr5 := f5.blk hr4.drew (by simp); obtain ⟨z0, z1, z2, z3, z4, z5, z6, g0, g1, g2, g3, g4, g5, g6⟩ := blk7 hr5)
    refine hK.out _ _ (by (try dsimp only); exact ⟨f5.blk hHeld.1 (by simp [mB]), f5.blk hHeld.2 (by simp)⟩) (fun hHeld => ?_)
    clear hK K
    (try simp only [Act.put, List.setIfInBounds_toArray, List.set_cons_zero, List.set_cons_succ])
    refine wpAnyH_ready (rs := [8]) (by kernel_rfl) (by simp) ?_; refine AllReadyH.cons (o := _) rfl (fun K hK => ?_) AllReadyH.nil
    go_simp
    skip
    refine hK.out _ _ (by (try dsimp only); exact ⟨far7 hHeld.1 (by have h1 := H0.lt m (by simp [mB]); omega), far7 hHeld.2 (by omega)⟩) (fun hHeld => ?_)
    clear hK K
    (try simp only [Act.put, List.setIfInBounds_toArray, List.set_cons_zero, List.set_cons_succ])
    (refine take_on 9 (some 9) (v := ?_) rfl rfl (by kernel_rfl) (by kernel_rfl) (by kernel_rfl) (fun _ _ _ h => h) (by rfl) (by assumption) ?_ ?_; rotate_left; · (intro w hSw; (try dsimp only at hSw); go_simp; (try with_reducible rfl)))
    (try simp only [Act.put, List.setIfInBounds_toArray, List.set_cons_zero, List.set_cons_succ])
    (refine take_on 10 (some 10) (v := ?_) rfl rfl (by kernel_rfl) (by kernel_rfl) (by kernel_rfl) (fun _ _ _ h => h) (by rfl) (by assumption) ?_ ?_; rotate_left; · (intro w hSw; (try dsimp only at hSw); go_simp; (try with_reducible rfl)))
    (try simp only [Act.put, List.setIfInBounds_toArray, List.set_cons_zero, List.set_cons_succ])
    refine wpAnyH_done (by kernel_rfl) ?_ _
    refine NoPanic.normal ?_
    have H5 := (H4.new ((Chg.refl [] w4).drew)).setT h5 f5 (H4.ok.put (x := ⟨0, page, pg, rw, ru, rx, dk⟩) ⟨rfl, path_g0 hgl.1, hgl.2.2⟩ |> fun hh => HT4.out ▸ hh)
    go_wp2_with fail
    refine bodyPost_ret (cell_tmps_ret rfl (set7 hr5) rfl Tryz.underlying45 rfl (by kernel_rfl)) rfl ?_
    have hk3 := chg7 (y0 := .int .i64 0) (y1 := .int .i64 page) (y2 := .int .i64 pg) (y3 := .bool rw) (y4 := .bool ru) (y5 := .bool rx) (y6 := .bool dk) (g := w.heap.size) (Chg.refl [w.heap.size] w5) (by simp)
    exact ⟨rfl, (H5.less (G := w.heap.size :: F) (fun i hi => by simp at hi ⊢; rcases hi with h | h <;> simp [h])).own hk3 hs0, (Far.of_new k3).trans ((f4.less (fun i hi => by simp [hi])).trans ((Far.of_new ((Chg.refl [] w4).drew)).trans ((f5.less (fun i hi => by simp [hi])).trans ⟨_, hk3, by simp; exact fun hm => by have := hFw _ hm; omega⟩)))⟩

end

end Go.Proofs.YtedginkenmafmaaGreatDoor
