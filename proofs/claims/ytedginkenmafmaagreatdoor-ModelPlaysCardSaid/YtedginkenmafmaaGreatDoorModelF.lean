/-
  The closures that Access asks in turn.
-/
import Derived.Test.YtedginkenmafmaaGreatDoorModelE
namespace Go.Proofs.YtedginkenmafmaaGreatDoor
open Go.RowKit Go.Shelf

section
variable {w0 w w' : World} {F : List Nat} {m t q p h b n : Nat} {S : List Nat} {L : List Int} {s : Ms}
/-- a block of one's own turned, that stays apart -/
theorem ModB.turn {g : Nat} (H : ModB w0 F w m t q S p L h b n s) (hF : g ∈ F) (hc : Chg [g] w w') (hg : w0.heap.size ≤ g) : ModB w0 F w' m t q S p L h b n s := by
  have hn : ∀ i ∈ mB m q S h b, i ∉ [g] := fun i hi hm => H.ap i hi (by simp at hm; subst hm; exact hF)
  exact ⟨H.tb.other hc (by simp [hF]) (by simpa using hg),
    H.gu.other hc (hn q (by simp [mB])) (fun i hi => hn i (by simp [mB, hi])) (hn h (by simp [mB])) (hn b (by simp [mB])), hc.blk H.st (hn m (by simp [mB])), H.er, H.ok, H.nm, H.nb, H.ap, H.ms⟩
theorem box1 {g : Nat} {ty : TypeId} {x : Value} (h : Blk w g ty #[x]) : w.cell? ⟨g, 0, none⟩ = some x := h.cell 0
end

set_option maxHeartbeats 400000 in
theorem Acc1_any (ga a : Nat) (w : World) (ha : a < 18446744073709551616) (hb : Blk w ga 33 #[.int .u64 a]) :
    Calls Tryz.prog 64 #[.pointer (some ⟨ga, 0, none⟩)] w fun e w' => e = .returned (.tuple #[.int .i64 (if aliB a then 0 else 4), .int .i64 0]) ∧ Chg [] w w' := by
  have c0 := box1 hb
  have hA := Aligned_any a w ha
  have hU := fun w0 => unless_any (aliB a) 4 w0
  generalize (if aliB a = true then (0 : Int) else 4) = how at *
  generalize aliB a = u at *
  go_enter Tryz.func64, Tryz.ntmps64
  go_wp2_with fail
  refine hA.mono ?_; rintro e w1 ⟨rfl, k1⟩
  go_wp2_with fail
  refine (hU _).mono ?_; rintro e w2 ⟨rfl, rfl⟩
  go_wp2_with fail
  go_ret2
  exact ⟨rfl, k1.chg⟩
set_option maxHeartbeats 400000 in
theorem Acc2_any (ga a : Nat) (w : World) (hb : Blk w ga 33 #[.int .u64 a]) :
    Calls Tryz.prog 66 #[.pointer (some ⟨ga, 0, none⟩)] w fun e w' => e = .returned (.tuple #[.int .i64 (if canB a then 0 else 2), .int .i64 0]) ∧ Chg [] w w' := by
  have c0 := box1 hb
  have hA := Canon_any a w
  have hU := fun w0 => unless_any (canB a) 2 w0
  generalize (if canB a = true then (0 : Int) else 2) = how at *
  generalize canB a = u at *
  go_enter Tryz.func66, Tryz.ntmps66
  go_wp2_with fail
  refine hA.mono ?_; rintro e w1 ⟨rfl, k1⟩
  go_wp2_with fail
  refine (hU _).mono ?_; rintro e w2 ⟨rfl, rfl⟩
  go_wp2_with fail
  go_ret2
  exact ⟨rfl, k1.chg⟩

section
variable {w0 w : World} {F : List Nat} {m t q p h b n : Nat} {S : List Nat} {L : List Int} {s : Ms}
set_option maxRecDepth 100000 in
set_option maxHeartbeats 8000000 in
theorem Acc3_b (gm ga gk gu gh a : Nat) (k : Int) (u : Bool) (x0 : Ht) (ha : a < 18446744073709551616) (H : ModB w0 F w m t q S p L h b n s) (hgh : w0.heap.size ≤ gh) (hF : ∀ i ∈ [gm, ga, gk, gu, gh], i ∈ F)
    (bm : Blk w gm 29 #[.pointer (some ⟨m, 0, none⟩)]) (ba : Blk w ga 33 #[.int .u64 a]) (bk : Blk w gk 3 #[.int .i64 k]) (bu : Blk w gu 4 #[.bool u]) (bh : Blk w gh 45 x0.cl.toArray) :
    Calls Tryz.prog 68 #[.pointer (some ⟨gm, 0, none⟩), .pointer (some ⟨ga, 0, none⟩), .pointer (some ⟨gk, 0, none⟩), .pointer (some ⟨gu, 0, none⟩), .pointer (some ⟨gh, 0, none⟩)] w fun e w' =>
      e = .returned (.tuple #[.int .i64 (takeM n L s (pageN a) k u).2.2.1, .int .i64 (takeM n L s (pageN a) k u).2.2.2]) ∧ ModB w0 F w' m t q S p L h b n (takeM n L s (pageN a) k u).1 ∧ Blk w' gh 45 (takeM n L s (pageN a) k u).2.1.cl.toArray ∧ ∀ G, (∀ i ∈ G, i ∈ F ∧ i ≠ gh) → Far G w w' := by
  have hP := fun w9 => Page_any a w9 ha
  have hT := fun w9 (H9 : ModB w0 F w9 m t q S p L h b n s) => MTake_b (pageN a) k u H9
  have nm := bh.type_ne bm (by decide); have na := bh.type_ne ba (by decide); have nk := bh.type_ne bk (by decide); have nu := bh.type_ne bu (by decide)
  generalize takeM n L s (pageN a) k u = tk at *
  obtain ⟨s3, ⟨ya, yp, yf, yw, yu, yx, yd⟩, how, code⟩ := tk
  obtain ⟨xa, xp, xf, xw, xu, xx, xd⟩ := x0
  simp only [Ht.v, Ht.cl] at *
  generalize pageN a = pg at *
  go_enter Tryz.func68, Tryz.ntmps68
  go_wp2_with fail
  refine wp_region_noPanic ?_
  refine wp_region_held_drew (S := (fun w' => Blk w' gm 29 #[.pointer (some ⟨m, 0, none⟩)] ∧ Blk w' ga 33 #[.int .u64 a] ∧ Blk w' gk 3 #[.int .i64 k] ∧ Blk w' gu 4 #[.bool u])) (by kernel_rfl) ?_ (fun hHeld => ?_)
  · exact ⟨bm.drew, ba.drew, bk.drew, bu.drew⟩
  (refine take_on 0 (some 8) (v := ?_) rfl rfl (by kernel_rfl) (by kernel_rfl) (by kernel_rfl) (fun _ _ _ h => h) (by rfl) (by assumption) ?_ ?_; rotate_left; · (intro w hSw; (try dsimp only at hSw); obtain ⟨sm_, sa_, sk_, su_⟩ := hSw; have cm_ := box1 sm_; have ca_ := box1 sa_; have ck_ := box1 sk_; have cu_ := box1 su_; go_simp; (try with_reducible rfl)))
  (try simp only [Act.put, List.setIfInBounds_toArray, List.set_cons_zero, List.set_cons_succ])
  (refine take_on 1 (some 9) (v := ?_) rfl rfl (by kernel_rfl) (by kernel_rfl) (by kernel_rfl) (fun _ _ _ h => h) (by rfl) (by assumption) ?_ ?_; rotate_left; · (intro w hSw; (try dsimp only at hSw); obtain ⟨sm_, sa_, sk_, su_⟩ := hSw; have cm_ := box1 sm_; have ca_ := box1 sa_; have ck_ := box1 sk_; have cu_ := box1 su_; go_simp; (try with_reducible rfl)))
  (try simp only [Act.put, List.setIfInBounds_toArray, List.set_cons_zero, List.set_cons_succ])
  (refine take_on 3 (some 11) (v := ?_) rfl rfl (by kernel_rfl) (by kernel_rfl) (by kernel_rfl) (fun _ _ _ h => h) (by rfl) (by assumption) ?_ ?_; rotate_left; · (intro w hSw; (try dsimp only at hSw); obtain ⟨sm_, sa_, sk_, su_⟩ := hSw; have cm_ := box1 sm_; have ca_ := box1 sa_; have ck_ := box1 sk_; have cu_ := box1 su_; go_simp; (try with_reducible rfl)))
  (try simp only [Act.put, List.setIfInBounds_toArray, List.set_cons_zero, List.set_cons_succ])
  (refine take_on 4 (some 12) (v := ?_) rfl rfl (by kernel_rfl) (by kernel_rfl) (by kernel_rfl) (fun _ _ _ h => h) (by rfl) (by assumption) ?_ ?_; rotate_left; · (intro w hSw; (try dsimp only at hSw); obtain ⟨sm_, sa_, sk_, su_⟩ := hSw; have cm_ := box1 sm_; have ca_ := box1 sa_; have ck_ := box1 sk_; have cu_ := box1 su_; go_simp; (try with_reducible rfl)))
  (try simp only [Act.put, List.setIfInBounds_toArray, List.set_cons_zero, List.set_cons_succ])
  refine wpAnyH_ready (rs := [2]) (by kernel_rfl) (by simp) ?_; refine AllReadyH.cons (o := _) rfl (fun K hK => ?_) AllReadyH.nil
  go_simp
  (go_at_call 70; refine (hP _).mono ?_; rintro e w1 ⟨rfl, k1⟩; have k1 := k1.chg; have k2 : Chg [] w w1 := ((Chg.refl [] w).drew).trans k1 (by simp); have bh1 := bh.chg_ k2 (by simp); have H1 := H.new k2)
  refine hK.out _ _ (by (try dsimp only); exact ⟨hHeld.1.chg_ k1 (by simp), hHeld.2.1.chg_ k1 (by simp), hHeld.2.2.1.chg_ k1 (by simp), hHeld.2.2.2.chg_ k1 (by simp)⟩) (fun hHeld => ?_)
  clear hK K
  (try simp only [Act.put, List.setIfInBounds_toArray, List.set_cons_zero, List.set_cons_succ])
  refine wpAnyH_ready (rs := [5]) (by kernel_rfl) (by simp) ?_; refine AllReadyH.cons (o := _) rfl (fun K hK => ?_) AllReadyH.nil
  go_simp
  (go_at_call 69; refine (hT _ H1).mono ?_; rintro e w2 ⟨rfl, H2, f2⟩; have bh2 := f2.blk bh1 (hF gh (by simp)); obtain ⟨z0, z1, z2, z3, z4, z5, z6, g0, g1, g2, g3, g4, g5, g6⟩ := blk7 bh2)
  refine hK.out _ _ (by (try dsimp only); exact ⟨f2.blk hHeld.1 (hF gm (by simp)), f2.blk hHeld.2.1 (hF ga (by simp)), f2.blk hHeld.2.2.1 (hF gk (by simp)), f2.blk hHeld.2.2.2 (hF gu (by simp))⟩) (fun hHeld => ?_)
  clear hK K
  (try simp only [Act.put, List.setIfInBounds_toArray, List.set_cons_zero, List.set_cons_succ])
  (refine take_on 6 (some 7) (v := ?_) rfl rfl (by kernel_rfl) (by kernel_rfl) (by kernel_rfl) (fun _ _ _ h => h) (by rfl) (by assumption) ?_ ?_; rotate_left; · (intro w hSw; (try dsimp only at hSw); go_simp; (try with_reducible rfl)))
  (try simp only [Act.put, List.setIfInBounds_toArray, List.set_cons_zero, List.set_cons_succ])
  (refine take_on 7 (some 14) (v := ?_) rfl rfl (by kernel_rfl) (by kernel_rfl) (by kernel_rfl) (fun _ _ _ h => h) (by rfl) (by assumption) ?_ ?_; rotate_left; · (intro w hSw; (try dsimp only at hSw); go_simp; (try with_reducible rfl)))
  (try simp only [Act.put, List.setIfInBounds_toArray, List.set_cons_zero, List.set_cons_succ])
  (refine take_on 8 (some 15) (v := ?_) rfl rfl (by kernel_rfl) (by kernel_rfl) (by kernel_rfl) (fun _ _ _ h => h) (by rfl) (by assumption) ?_ ?_; rotate_left; · (intro w hSw; (try dsimp only at hSw); go_simp; (try with_reducible rfl)))
  (try simp only [Act.put, List.setIfInBounds_toArray, List.set_cons_zero, List.set_cons_succ])
  (refine take_on 9 (some 16) (v := ?_) rfl rfl (by kernel_rfl) (by kernel_rfl) (by kernel_rfl) (fun _ _ _ h => h) (by rfl) (by assumption) ?_ ?_; rotate_left; · (intro w hSw; (try dsimp only at hSw); go_simp; (try with_reducible rfl)))
  (try simp only [Act.put, List.setIfInBounds_toArray, List.set_cons_zero, List.set_cons_succ])
  refine wpAnyH_ready (rs := [10]) (by kernel_rfl) (by simp) ?_; refine AllReadyH.cons (o := _) rfl (fun K hK => ?_) AllReadyH.nil
  go_simp
  skip
  refine hK.out _ _ (by (try dsimp only); exact ⟨far7 hHeld.1 (Ne.symm nm), far7 hHeld.2.1 (Ne.symm na), far7 hHeld.2.2.1 (Ne.symm nk), far7 hHeld.2.2.2 (Ne.symm nu)⟩) (fun hHeld => ?_)
  clear hK K
  (try simp only [Act.put, List.setIfInBounds_toArray, List.set_cons_zero, List.set_cons_succ])
  (refine take_on 11 (some 5) (v := ?_) rfl rfl (by kernel_rfl) (by kernel_rfl) (by kernel_rfl) (fun _ _ _ h => h) (by rfl) (by assumption) ?_ ?_; rotate_left; · (intro w hSw; (try dsimp only at hSw); go_simp; (try with_reducible rfl)))
  (try simp only [Act.put, List.setIfInBounds_toArray, List.set_cons_zero, List.set_cons_succ])
  (refine take_on 12 (some 6) (v := ?_) rfl rfl (by kernel_rfl) (by kernel_rfl) (by kernel_rfl) (fun _ _ _ h => h) (by rfl) (by assumption) ?_ ?_; rotate_left; · (intro w hSw; (try dsimp only at hSw); go_simp; (try with_reducible rfl)))
  (try simp only [Act.put, List.setIfInBounds_toArray, List.set_cons_zero, List.set_cons_succ])
  refine wpAnyH_done (by kernel_rfl) ?_ _
  refine NoPanic.normal ?_
  have hk3 := chg7 (y0 := .int .i64 ya) (y1 := .int .i64 yp) (y2 := .int .i64 yf) (y3 := .bool yw) (y4 := .bool yu) (y5 := .bool yx) (y6 := .bool yd) (g := gh) (Chg.refl [gh] w2) (by simp)
  go_wp2_with fail
  go_ret2
  refine ⟨rfl, H2.turn (hF gh (by simp)) hk3 hgh, set7 bh2, fun G hG => (Far.of_new k2).trans ((f2.less fun i hi => (hG i hi).1).trans ⟨_, hk3, by simp; exact fun hm => (hG gh hm).2 rfl⟩)⟩
end

end Go.Proofs.YtedginkenmafmaaGreatDoor
