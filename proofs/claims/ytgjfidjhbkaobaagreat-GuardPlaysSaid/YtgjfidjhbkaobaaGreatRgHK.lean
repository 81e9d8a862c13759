/-
 The document's Make.
-/
import Derived.Test.YtgjfidjhbkaobaaGreatRgGK
import Derived.Deep.CutRange
namespace Go.Proofs.YtgjfidjhbkaobaaGreat
open Go.RowKit Go.Maps
section
variable {w0 w w' : World} {dd gq mp q rp rb t n a m most : Nat} {L : List Int} {v : Value} {s : Sr} {T : List Ht} {ll : List Int} {l : List Th} {d : Gd}
set_option maxRecDepth 100000 in
set_option maxHeartbeats 8000000 in
theorem SepC.rgMake (H : SepC w0 w (blkT dd 99 (gdC gq mp q t (v)) :: ownT (numE .i64) 3 (v) ((d).l) :: rstT q rp rb n a m ((d).s) :: rtlbT t most ((d).T) :: rmapT mp L :: blkT gq 147 (rguC mp rp) :: l)) (G : GdIn n a m L d) (k : Ky) :
  Calls Tryz.prog 53 #[.pointer (some ⟨dd, 0, none⟩), .agg k.cs] w fun e w' => e = .returned (.tuple #[.int .i64 (makeGV n L d k), .bool (makeGB n L d k)]) ∧ ∃ v', SepC w0 w' (blkT dd 99 (gdC gq mp q t (v')) :: ownT (numE .i64) 3 (v') ((makeG n L d k).l) :: rstT q rp rb n a m ((makeG n L d k).s) :: rtlbT t most ((makeG n L d k).T) :: rmapT mp L :: blkT gq 147 (rguC mp rp) :: l) := by
 have hF := fun {z : World} {l' : List Th} (H' : SepC w0 z (rstT q rp rb n a m d.s :: l')) => H'.rFind k
 have hL := fun {z : World} {l' : List Th} (H' : SepC w0 z (blkT dd 99 (gdC gq mp q t (v)) :: ownT (numE .i64) 3 (v) ((d).l) :: rstT q rp rb n a m ((d).s) :: rtlbT t most ((d).T) :: rmapT mp L :: blkT gq 147 (rguC mp rp) :: l')) => H'.rgLook G k.g
 have hM := fun {z : World} {l' : List Th} {s' : Sr} (H' : SepC w0 z (rstT q rp rb n a m s' :: l')) => H'.rMake k
 have hFo := fun {z : World} {l' : List Th} {s' : Sr} {T' : List Ht} {ll' : List Int} {v' : Value} (H' : SepC w0 z (blkT dd 99 (gdC gq mp q t (v')) :: ownT (numE .i64) 3 (v') (ll') :: rstT q rp rb n a m (s') :: rtlbT t most (T') :: rmapT mp L :: blkT gq 147 (rguC mp rp) :: l')) => H'.rgForbid G.ok.map G.ok.pos k.g
 have HB : SepC w0 (w.alloc (.cells k.cs 33)) (blkT dd 99 (gdC gq mp q t (v)) :: ownT (numE .i64) 3 (v) ((d).l) :: rstT q rp rb n a m ((d).s) :: rtlbT t most ((d).T) :: rmapT mp L :: blkT gq 147 (rguC mp rp) :: blkT w.heap.size 33 k.cs :: l) := SepC.mv6 (H.alloc k.cs 33)
 have e1 : makeGB n L d k = ((pgOf d.s.L k).isSome || makeB (preG n L d k).s k) := rfl
 have e2 : makeGV n L d k = match pgOf d.s.L k with | some q => q.f | none => makeV (preG n L d k).s k := rfl
 have e3 : makeG n L d k = if (pgOf d.s.L k).isSome then d else makeD n L (preG n L d k) k := rfl
 rw [e1, e2, e3]
 clear e1 e2 e3
 have e4 : preG n L d k = if k.role = 0 then lookG n L d k.g else d := rfl
 have e5 : ∀ D, makeD n L D k = if makeB D.s k then (if k.role = 0 then forbidG L ⟨makeS n D.s k, D.T, D.l⟩ k.g else ⟨makeS n D.s k, D.T, D.l⟩) else D := fun _ => rfl
 have e6 : ∀ s', makeB s' k = false → makeS n s' k = s' := fun s' h => (make_no_ h).1
 simp only [e5]
 rw [e4]
 clear e4 e5
 generalize lookG n L d k.g = D at *
 generalize looseB d k.g = lo at *
 clear G
 unfold findV at hF
 cases hp_ : pgOf d.s.L k with
 | some qq =>
  simp only [hp_, Option.map_some, Option.getD_some, Option.isSome_some, Bool.true_or, if_true] at hF ⊢
  clear hL hM hFo e6 hp_
  generalize qq.f = fv at *
  obtain ⟨kg, kl, kr⟩ := k
  simp only [Ky.cs] at hF HB ⊢
  go_enter Tryz.func53, Tryz.ntmps53
  go_upto_region 1 with fail
  generalize w.alloc (.cells #[.int .i64 kg, .int .i64 kl, .int .i64 kr] 33) = w1 at *
  generalize w.heap.size = kb at *
  clear H
  replace HB := HB.new (Chg.refl [] w1).drew
  refine wp_region_noPanic ?_
  refine wp_region_held_drew (S := (fun w' => Blk w' dd 99 (gdC gq mp q t v) ∧ Blk w' kb 33 #[.int .i64 kg, .int .i64 kl, .int .i64 kr])) (by kernel_rfl) ?_ (fun hHeld => ?_)
  ·exact ⟨HB.blk, (SepC.mb6 HB).blk⟩
  (refine tk 0 11 ?_ ?_ ?_; rotate_left; · (intro w hSw; go_simp; (try with_reducible rfl)))
  (try simp only [Act.put, qI, qO, qU])
  (refine tk 1 12 ?_ ?_ ?_; rotate_left; · (intro w hSw; go_simp; (try with_reducible rfl)))
  (try simp only [Act.put, qI, qO, qU])
  (refine tk 2 13 ?_ ?_ ?_; rotate_left; · (intro w hSw; go_simp; (try with_reducible rfl)))
  (try simp only [Act.put, qI, qO, qU])
  (refine tk 3 14 ?_ ?_ ?_; rotate_left; · (intro w hSw; (try dsimp only at hSw); have d_ := hSw.1.cell 2; unfold gdC at d_; simp only [qA, qZ, qS] at d_; go_simp; (try with_reducible rfl)))
  (try simp only [Act.put, qI, qO, qU])
  (refine tk 4 15 ?_ ?_ ?_; rotate_left; · (intro w hSw; (try dsimp only at hSw); have d0_ := hSw.2.cell 0; have d1_ := hSw.2.cell 1; have d2_ := hSw.2.cell 2; simp only [qA, qZ, qS] at d0_ d1_ d2_; go_simp; (try with_reducible rfl)))
  (try simp only [Act.put, qI, qO, qU])
  refine rdy 5 fun K hK => ?_
  go_simp
  (go_at_call 74; refine (hF HB.at2).mono ?_; rintro e u1 ⟨rfl, y1⟩)
  refine hK.out _ _ (by (try dsimp only); exact ⟨hHeld.1.chg_ y1 (by simp), hHeld.2.chg_ y1 (by simp)⟩) (fun hHeld => ?_)
  clear hK K
  (try simp only [Act.put, qI, qO, qU])
  (refine tk 6 10 ?_ ?_ ?_; rotate_left; · (intro w hSw; go_simp; (try with_reducible rfl)))
  (try simp only [Act.put, qI, qO, qU])
  (refine tk 7 17 ?_ ?_ ?_; rotate_left; · (intro w hSw; go_simp; (try with_reducible rfl)))
  (try simp only [Act.put, qI, qO, qU])
  (refine tk 8 18 ?_ ?_ ?_; rotate_left; · (intro w hSw; go_simp; (try with_reducible rfl)))
  (try simp only [Act.put, qI, qO, qU])
  (refine tk 9 6 ?_ ?_ ?_; rotate_left; · (intro w hSw; go_simp; (try with_reducible rfl)))
  (try simp only [Act.put, qI, qO, qU])
  (refine tk 10 7 ?_ ?_ ?_; rotate_left; · (intro w hSw; go_simp; (try with_reducible rfl)))
  (try simp only [Act.put, qI, qO, qU])
  refine wpAnyH_done (by kernel_rfl) ?_ _
  refine NoPanic.normal ?_
  go_wp2_with fail
  go_ret2
  exact ⟨rfl, v, (SepC.mb6 (HB.new y1)).tail⟩
 | none =>
  simp only [hp_, Option.map_none, Option.getD_none, Option.isSome_none, Bool.false_or, Bool.false_eq_true, if_false] at hF ⊢
  by_cases hr : k.role = 0
  ·simp only [hr, if_true]
   have hM1 := fun {z : World} {l' : List Th} (H' : SepC w0 z (rstT q rp rb n a m D.s :: l')) => hM H'
   clear hM
   cases hmb : makeB D.s k
   ·rw [hmb] at hM1
    simp only [Bool.false_eq_true, if_false]
    rw [e6 _ hmb] at hM1
    clear e6
    generalize hmv : makeV D.s k = mv at *
    replace hmv := Lib.hid hmv; replace hmb := Lib.hid hmb; replace hp_ := Lib.hid hp_
    clear hFo
    obtain ⟨kg, kl, kr⟩ := k
    simp only at hr
    simp only [Ky.cs] at hF HB hM1 hL ⊢
    subst hr
    go_enter Tryz.func53, Tryz.ntmps53
    go_upto_region 1 with fail
    generalize w.alloc (.cells #[.int .i64 kg, .int .i64 kl, .int .i64 0] 33) = w1 at *
    generalize w.heap.size = kb at *
    clear H
    replace HB := HB.new (Chg.refl [] w1).drew
    refine wp_region_noPanic ?_
    refine wp_region_held_drew (S := (fun w' => Blk w' dd 99 (gdC gq mp q t v) ∧ Blk w' kb 33 #[.int .i64 kg, .int .i64 kl, .int .i64 0])) (by kernel_rfl) ?_ (fun hHeld => ?_)
    ·exact ⟨HB.blk, (SepC.mb6 HB).blk⟩
    (refine tk 0 11 ?_ ?_ ?_; rotate_left; · (intro w hSw; go_simp; (try with_reducible rfl)))
    (try simp only [Act.put, qI, qO, qU])
    (refine tk 1 12 ?_ ?_ ?_; rotate_left; · (intro w hSw; go_simp; (try with_reducible rfl)))
    (try simp only [Act.put, qI, qO, qU])
    (refine tk 2 13 ?_ ?_ ?_; rotate_left; · (intro w hSw; go_simp; (try with_reducible rfl)))
    (try simp only [Act.put, qI, qO, qU])
    (refine tk 3 14 ?_ ?_ ?_; rotate_left; · (intro w hSw; (try dsimp only at hSw); have d_ := hSw.1.cell 2; unfold gdC at d_; simp only [qA, qZ, qS] at d_; go_simp; (try with_reducible rfl)))
    (try simp only [Act.put, qI, qO, qU])
    (refine tk 4 15 ?_ ?_ ?_; rotate_left; · (intro w hSw; (try dsimp only at hSw); have d0_ := hSw.2.cell 0; have d1_ := hSw.2.cell 1; have d2_ := hSw.2.cell 2; simp only [qA, qZ, qS] at d0_ d1_ d2_; go_simp; (try with_reducible rfl)))
    (try simp only [Act.put, qI, qO, qU])
    refine rdy 5 fun K hK => ?_
    go_simp
    (go_at_call 74; refine (hF HB.at2).mono ?_; rintro e u1 ⟨rfl, y1⟩)
    refine hK.out _ _ (by (try dsimp only); exact ⟨hHeld.1.chg_ y1 (by simp), hHeld.2.chg_ y1 (by simp)⟩) (fun hHeld => ?_)
    clear hK K
    (try simp only [Act.put, qI, qO, qU])
    (refine tk 6 10 ?_ ?_ ?_; rotate_left; · (intro w hSw; go_simp; (try with_reducible rfl)))
    (try simp only [Act.put, qI, qO, qU])
    (refine tk 7 17 ?_ ?_ ?_; rotate_left; · (intro w hSw; go_simp; (try with_reducible rfl)))
    (try simp only [Act.put, qI, qO, qU])
    (refine tk 8 18 ?_ ?_ ?_; rotate_left; · (intro w hSw; go_simp; (try with_reducible rfl)))
    (try simp only [Act.put, qI, qO, qU])
    (refine tk 9 6 ?_ ?_ ?_; rotate_left; · (intro w hSw; go_simp; (try with_reducible rfl)))
    (try simp only [Act.put, qI, qO, qU])
    (refine tk 10 7 ?_ ?_ ?_; rotate_left; · (intro w hSw; go_simp; (try with_reducible rfl)))
    (try simp only [Act.put, qI, qO, qU])
    refine wpAnyH_done (by kernel_rfl) ?_ _
    refine NoPanic.normal ?_
    replace HB := HB.new y1
    clear hF hHeld y1
    have k0_ := (SepC.mb6 HB).blk.cell 0; have k2_ := (SepC.mb6 HB).blk.cell 2
    simp only [qA, qZ, qS] at k0_ k2_
    go_wp2_with fail
    refine (hL HB).mono ?_; rintro e u3 ⟨rfl, v2, HB⟩
    clear hL k0_ k2_
    go_upto_region 6 with fail
    replace HB := HB.new (Chg.refl [] u3).drew
    refine wp_region_noPanic ?_
    refine wp_region_held_drew (S := (fun w' => Blk w' dd 99 (gdC gq mp q t v2) ∧ Blk w' kb 33 #[.int .i64 kg, .int .i64 kl, .int .i64 0])) (by kernel_rfl) ?_ (fun hHeld => ?_)
    ·exact ⟨HB.blk, (SepC.mb6 HB).blk⟩
    (refine tk 0 29 ?_ ?_ ?_; rotate_left; · (intro w hSw; go_simp; (try with_reducible rfl)))
    (try simp only [Act.put, qI, qO, qU])
    (refine tk 1 30 ?_ ?_ ?_; rotate_left; · (intro w hSw; go_simp; (try with_reducible rfl)))
    (try simp only [Act.put, qI, qO, qU])
    (refine tk 2 31 ?_ ?_ ?_; rotate_left; · (intro w hSw; go_simp; (try with_reducible rfl)))
    (try simp only [Act.put, qI, qO, qU])
    (refine tk 3 32 ?_ ?_ ?_; rotate_left; · (intro w hSw; (try dsimp only at hSw); have d_ := hSw.1.cell 2; unfold gdC at d_; simp only [qA, qZ, qS] at d_; go_simp; (try with_reducible rfl)))
    (try simp only [Act.put, qI, qO, qU])
    (refine tk 4 33 ?_ ?_ ?_; rotate_left; · (intro w hSw; (try dsimp only at hSw); have d0_ := hSw.2.cell 0; have d1_ := hSw.2.cell 1; have d2_ := hSw.2.cell 2; simp only [qA, qZ, qS] at d0_ d1_ d2_; go_simp; (try with_reducible rfl)))
    (try simp only [Act.put, qI, qO, qU])
    refine rdy 5 fun K hK => ?_
    go_simp
    (go_at_call 97; refine (hM1 HB.at2).mono ?_; rintro e u2 ⟨rfl, H6⟩)
    refine hK.out _ _ (by (try dsimp only); exact ⟨H6.bk2.blk, (SepC.mb6 H6.bk2).blk⟩) (fun hHeld => ?_)
    clear hK K
    (try simp only [Act.put, qI, qO, qU])
    (refine tk 6 28 ?_ ?_ ?_; rotate_left; · (intro w hSw; go_simp; (try with_reducible rfl)))
    (try simp only [Act.put, qI, qO, qU])
    (refine tk 7 35 ?_ ?_ ?_; rotate_left; · (intro w hSw; go_simp; (try with_reducible rfl)))
    (try simp only [Act.put, qI, qO, qU])
    (refine tk 8 36 ?_ ?_ ?_; rotate_left; · (intro w hSw; go_simp; (try with_reducible rfl)))
    (try simp only [Act.put, qI, qO, qU])
    (refine tk 9 8 ?_ ?_ ?_; rotate_left; · (intro w hSw; go_simp; (try with_reducible rfl)))
    (try simp only [Act.put, qI, qO, qU])
    (refine tk 10 9 ?_ ?_ ?_; rotate_left; · (intro w hSw; go_simp; (try with_reducible rfl)))
    (try simp only [Act.put, qI, qO, qU])
    refine wpAnyH_done (by kernel_rfl) ?_ _
    refine NoPanic.normal ?_
    have HC := H6.bk2
    clear H6 HB hM1 hHeld
    have k2_ := (SepC.mb6 HC).blk.cell 2
    simp only [qA, qZ, qS] at k2_
    go_wp2_with fail
    go_ret2
    exact ⟨rfl, v2, (SepC.mb6 HC).tail⟩
   rw [hmb] at hM1
   simp only [if_true]
   clear e6
   generalize hmv : makeV D.s k = mv at *
   replace hmv := Lib.hid hmv; replace hmb := Lib.hid hmb; replace hp_ := Lib.hid hp_
   have hFo1 := fun {z : World} {l' : List Th} {v' : Value} (H' : SepC w0 z (blkT dd 99 (gdC gq mp q t (v')) :: ownT (numE .i64) 3 (v') (D.l) :: rstT q rp rb n a m (makeS n D.s k) :: rtlbT t most (D.T) :: rmapT mp L :: blkT gq 147 (rguC mp rp) :: l')) => hFo H'
   generalize hE_ : forbidG L ⟨makeS n D.s k, D.T, D.l⟩ k.g = E at *
   replace hE_ := Lib.hid hE_
   generalize hms : makeS n D.s k = ms at *
   replace hms := Lib.hid hms
   clear hFo
   obtain ⟨kg, kl, kr⟩ := k
   simp only at hr
   simp only [Ky.cs] at hF HB hM1 hL ⊢
   simp only at hFo1
   subst hr
   go_enter Tryz.func53, Tryz.ntmps53
   go_upto_region 1 with fail
   generalize w.alloc (.cells #[.int .i64 kg, .int .i64 kl, .int .i64 0] 33) = w1 at *
   generalize w.heap.size = kb at *
   clear H
   replace HB := HB.new (Chg.refl [] w1).drew
   refine wp_region_noPanic ?_
   refine wp_region_held_drew (S := (fun w' => Blk w' dd 99 (gdC gq mp q t v) ∧ Blk w' kb 33 #[.int .i64 kg, .int .i64 kl, .int .i64 0])) (by kernel_rfl) ?_ (fun hHeld => ?_)
   ·exact ⟨HB.blk, (SepC.mb6 HB).blk⟩
   (refine tk 0 11 ?_ ?_ ?_; rotate_left; · (intro w hSw; go_simp; (try with_reducible rfl)))
   (try simp only [Act.put, qI, qO, qU])
   (refine tk 1 12 ?_ ?_ ?_; rotate_left; · (intro w hSw; go_simp; (try with_reducible rfl)))
   (try simp only [Act.put, qI, qO, qU])
   (refine tk 2 13 ?_ ?_ ?_; rotate_left; · (intro w hSw; go_simp; (try with_reducible rfl)))
   (try simp only [Act.put, qI, qO, qU])
   (refine tk 3 14 ?_ ?_ ?_; rotate_left; · (intro w hSw; (try dsimp only at hSw); have d_ := hSw.1.cell 2; unfold gdC at d_; simp only [qA, qZ, qS] at d_; go_simp; (try with_reducible rfl)))
   (try simp only [Act.put, qI, qO, qU])
   (refine tk 4 15 ?_ ?_ ?_; rotate_left; · (intro w hSw; (try dsimp only at hSw); have d0_ := hSw.2.cell 0; have d1_ := hSw.2.cell 1; have d2_ := hSw.2.cell 2; simp only [qA, qZ, qS] at d0_ d1_ d2_; go_simp; (try with_reducible rfl)))
   (try simp only [Act.put, qI, qO, qU])
   refine rdy 5 fun K hK => ?_
   go_simp
   (go_at_call 74; refine (hF HB.at2).mono ?_; rintro e u1 ⟨rfl, y1⟩)
   refine hK.out _ _ (by (try dsimp only); exact ⟨hHeld.1.chg_ y1 (by simp), hHeld.2.chg_ y1 (by simp)⟩) (fun hHeld => ?_)
   clear hK K
   (try simp only [Act.put, qI, qO, qU])
   (refine tk 6 10 ?_ ?_ ?_; rotate_left; · (intro w hSw; go_simp; (try with_reducible rfl)))
   (try simp only [Act.put, qI, qO, qU])
   (refine tk 7 17 ?_ ?_ ?_; rotate_left; · (intro w hSw; go_simp; (try with_reducible rfl)))
   (try simp only [Act.put, qI, qO, qU])
   (refine tk 8 18 ?_ ?_ ?_; rotate_left; · (intro w hSw; go_simp; (try with_reducible rfl)))
   (try simp only [Act.put, qI, qO, qU])
   (refine tk 9 6 ?_ ?_ ?_; rotate_left; · (intro w hSw; go_simp; (try with_reducible rfl)))
   (try simp only [Act.put, qI, qO, qU])
   (refine tk 10 7 ?_ ?_ ?_; rotate_left; · (intro w hSw; go_simp; (try with_reducible rfl)))
   (try simp only [Act.put, qI, qO, qU])
   refine wpAnyH_done (by kernel_rfl) ?_ _
   refine NoPanic.normal ?_
   replace HB := HB.new y1
   clear hF hHeld y1
   have k0_ := (SepC.mb6 HB).blk.cell 0; have k2_ := (SepC.mb6 HB).blk.cell 2
   simp only [qA, qZ, qS] at k0_ k2_
   go_wp2_with fail
   refine (hL HB).mono ?_; rintro e u3 ⟨rfl, v2, HB⟩
   clear hL k0_ k2_
   go_upto_region 6 with fail
   replace HB := HB.new (Chg.refl [] u3).drew
   refine wp_region_noPanic ?_
   refine wp_region_held_drew (S := (fun w' => Blk w' dd 99 (gdC gq mp q t v2) ∧ Blk w' kb 33 #[.int .i64 kg, .int .i64 kl, .int .i64 0])) (by kernel_rfl) ?_ (fun hHeld => ?_)
   ·exact ⟨HB.blk, (SepC.mb6 HB).blk⟩
   (refine tk 0 29 ?_ ?_ ?_; rotate_left; · (intro w hSw; go_simp; (try with_reducible rfl)))
   (try simp only [Act.put, qI, qO, qU])
   (refine tk 1 30 ?_ ?_ ?_; rotate_left; · (intro w hSw; go_simp; (try with_reducible rfl)))
   (try simp only [Act.put, qI, qO, qU])
   (refine tk 2 31 ?_ ?_ ?_; rotate_left; · (intro w hSw; go_simp; (try with_reducible rfl)))
   (try simp only [Act.put, qI, qO, qU])
   (refine tk 3 32 ?_ ?_ ?_; rotate_left; · (intro w hSw; (try dsimp only at hSw); have d_ := hSw.1.cell 2; unfold gdC at d_; simp only [qA, qZ, qS] at d_; go_simp; (try with_reducible rfl)))
   (try simp only [Act.put, qI, qO, qU])
   (refine tk 4 33 ?_ ?_ ?_; rotate_left; · (intro w hSw; (try dsimp only at hSw); have d0_ := hSw.2.cell 0; have d1_ := hSw.2.cell 1; have d2_ := hSw.2.cell 2; simp only [qA, qZ, qS] at d0_ d1_ d2_; go_simp; (try with_reducible rfl)))
   (try simp only [Act.put, qI, qO, qU])
   refine rdy 5 fun K hK => ?_
   go_simp
   (go_at_call 97; refine (hM1 HB.at2).mono ?_; rintro e u2 ⟨rfl, H6⟩)
   refine hK.out _ _ (by (try dsimp only); exact ⟨H6.bk2.blk, (SepC.mb6 H6.bk2).blk⟩) (fun hHeld => ?_)
   clear hK K
   (try simp only [Act.put, qI, qO, qU])
   (refine tk 6 28 ?_ ?_ ?_; rotate_left; · (intro w hSw; go_simp; (try with_reducible rfl)))
   (try simp only [Act.put, qI, qO, qU])
   (refine tk 7 35 ?_ ?_ ?_; rotate_left; · (intro w hSw; go_simp; (try with_reducible rfl)))
   (try simp only [Act.put, qI, qO, qU])
   (refine tk 8 36 ?_ ?_ ?_; rotate_left; · (intro w hSw; go_simp; (try with_reducible rfl)))
   (try simp only [Act.put, qI, qO, qU])
   (refine tk 9 8 ?_ ?_ ?_; rotate_left; · (intro w hSw; go_simp; (try with_reducible rfl)))
   (try simp only [Act.put, qI, qO, qU])
   (refine tk 10 9 ?_ ?_ ?_; rotate_left; · (intro w hSw; go_simp; (try with_reducible rfl)))
   (try simp only [Act.put, qI, qO, qU])
   refine wpAnyH_done (by kernel_rfl) ?_ _
   refine NoPanic.normal ?_
   have HC := H6.bk2
   clear H6 HB hM1 hHeld
   have k2_ := (SepC.mb6 HC).blk.cell 2
   simp only [qA, qZ, qS] at k2_
   have k0_ := (SepC.mb6 HC).blk.cell 0
   simp only [qA, qZ] at k0_
   go_wp2_with fail
   refine (hFo1 HC).mono ?_; rintro e u4 ⟨rfl, HD⟩
   clear hFo1 k0_ k2_ HC
   go_wp2_with fail
   go_ret2
   exact ⟨rfl, v2, by rw [show E.l = D.l by rw [← hE_.out]; rfl]; exact (SepC.mb6 HD).tail⟩
  simp only [if_neg hr]
  have hM1 := fun {z : World} {l' : List Th} (H' : SepC w0 z (rstT q rp rb n a m d.s :: l')) => hM H'
  clear hM
  cases hmb : makeB d.s k
  ·rw [hmb] at hM1
   simp only [Bool.false_eq_true, if_false]
   rw [e6 _ hmb] at hM1
   clear e6
   generalize hmv : makeV d.s k = mv at *
   replace hmv := Lib.hid hmv; replace hmb := Lib.hid hmb; replace hp_ := Lib.hid hp_
   clear hFo
   obtain ⟨kg, kl, kr⟩ := k
   simp only at hr
   simp only [Ky.cs] at hF HB hM1 hL ⊢
   have hrb : (kr == 0) = false := by simpa using hr
   replace hr := Lib.hid hr
   go_enter Tryz.func53, Tryz.ntmps53
   go_upto_region 1 with fail
   generalize w.alloc (.cells #[.int .i64 kg, .int .i64 kl, .int .i64 kr] 33) = w1 at *
   generalize w.heap.size = kb at *
   clear H
   replace HB := HB.new (Chg.refl [] w1).drew
   refine wp_region_noPanic ?_
   refine wp_region_held_drew (S := (fun w' => Blk w' dd 99 (gdC gq mp q t v) ∧ Blk w' kb 33 #[.int .i64 kg, .int .i64 kl, .int .i64 kr])) (by kernel_rfl) ?_ (fun hHeld => ?_)
   ·exact ⟨HB.blk, (SepC.mb6 HB).blk⟩
   (refine tk 0 11 ?_ ?_ ?_; rotate_left; · (intro w hSw; go_simp; (try with_reducible rfl)))
   (try simp only [Act.put, qI, qO, qU])
   (refine tk 1 12 ?_ ?_ ?_; rotate_left; · (intro w hSw; go_simp; (try with_reducible rfl)))
   (try simp only [Act.put, qI, qO, qU])
   (refine tk 2 13 ?_ ?_ ?_; rotate_left; · (intro w hSw; go_simp; (try with_reducible rfl)))
   (try simp only [Act.put, qI, qO, qU])
   (refine tk 3 14 ?_ ?_ ?_; rotate_left; · (intro w hSw; (try dsimp only at hSw); have d_ := hSw.1.cell 2; unfold gdC at d_; simp only [qA, qZ, qS] at d_; go_simp; (try with_reducible rfl)))
   (try simp only [Act.put, qI, qO, qU])
   (refine tk 4 15 ?_ ?_ ?_; rotate_left; · (intro w hSw; (try dsimp only at hSw); have d0_ := hSw.2.cell 0; have d1_ := hSw.2.cell 1; have d2_ := hSw.2.cell 2; simp only [qA, qZ, qS] at d0_ d1_ d2_; go_simp; (try with_reducible rfl)))
   (try simp only [Act.put, qI, qO, qU])
   refine rdy 5 fun K hK => ?_
   go_simp
   (go_at_call 74; refine (hF HB.at2).mono ?_; rintro e u1 ⟨rfl, y1⟩)
   refine hK.out _ _ (by (try dsimp only); exact ⟨hHeld.1.chg_ y1 (by simp), hHeld.2.chg_ y1 (by simp)⟩) (fun hHeld => ?_)
   clear hK K
   (try simp only [Act.put, qI, qO, qU])
   (refine tk 6 10 ?_ ?_ ?_; rotate_left; · (intro w hSw; go_simp; (try with_reducible rfl)))
   (try simp only [Act.put, qI, qO, qU])
   (refine tk 7 17 ?_ ?_ ?_; rotate_left; · (intro w hSw; go_simp; (try with_reducible rfl)))
   (try simp only [Act.put, qI, qO, qU])
   (refine tk 8 18 ?_ ?_ ?_; rotate_left; · (intro w hSw; go_simp; (try with_reducible rfl)))
   (try simp only [Act.put, qI, qO, qU])
   (refine tk 9 6 ?_ ?_ ?_; rotate_left; · (intro w hSw; go_simp; (try with_reducible rfl)))
   (try simp only [Act.put, qI, qO, qU])
   (refine tk 10 7 ?_ ?_ ?_; rotate_left; · (intro w hSw; go_simp; (try with_reducible rfl)))
   (try simp only [Act.put, qI, qO, qU])
   refine wpAnyH_done (by kernel_rfl) ?_ _
   refine NoPanic.normal ?_
   replace HB := HB.new y1
   clear hF hHeld y1
   have k0_ := (SepC.mb6 HB).blk.cell 0; have k2_ := (SepC.mb6 HB).blk.cell 2
   simp only [qA, qZ, qS] at k0_ k2_
   clear hL
   go_upto_region 6 with fail
   clear k0_ k2_
   replace HB := HB.new (Chg.refl [] _).drew
   refine wp_region_noPanic ?_
   refine wp_region_held_drew (S := (fun w' => Blk w' dd 99 (gdC gq mp q t v) ∧ Blk w' kb 33 #[.int .i64 kg, .int .i64 kl, .int .i64 kr])) (by kernel_rfl) ?_ (fun hHeld => ?_)
   ·exact ⟨HB.blk, (SepC.mb6 HB).blk⟩
   (refine tk 0 29 ?_ ?_ ?_; rotate_left; · (intro w hSw; go_simp; (try with_reducible rfl)))
   (try simp only [Act.put, qI, qO, qU])
   (refine tk 1 30 ?_ ?_ ?_; rotate_left; · (intro w hSw; go_simp; (try with_reducible rfl)))
   (try simp only [Act.put, qI, qO, qU])
   (refine tk 2 31 ?_ ?_ ?_; rotate_left; · (intro w hSw; go_simp; (try with_reducible rfl)))
   (try simp only [Act.put, qI, qO, qU])
   (refine tk 3 32 ?_ ?_ ?_; rotate_left; · (intro w hSw; (try dsimp only at hSw); have d_ := hSw.1.cell 2; unfold gdC at d_; simp only [qA, qZ, qS] at d_; go_simp; (try with_reducible rfl)))
   (try simp only [Act.put, qI, qO, qU])
   (refine tk 4 33 ?_ ?_ ?_; rotate_left; · (intro w hSw; (try dsimp only at hSw); have d0_ := hSw.2.cell 0; have d1_ := hSw.2.cell 1; have d2_ := hSw.2.cell 2; simp only [qA, qZ, qS] at d0_ d1_ d2_; go_simp; (try with_reducible rfl)))
   (try simp only [Act.put, qI, qO, qU])
   refine rdy 5 fun K hK => ?_
   go_simp
   (go_at_call 97; refine (hM1 HB.at2).mono ?_; rintro e u2 ⟨rfl, H6⟩)
   refine hK.out _ _ (by (try dsimp only); exact ⟨H6.bk2.blk, (SepC.mb6 H6.bk2).blk⟩) (fun hHeld => ?_)
   clear hK K
   (try simp only [Act.put, qI, qO, qU])
   (refine tk 6 28 ?_ ?_ ?_; rotate_left; · (intro w hSw; go_simp; (try with_reducible rfl)))
   (try simp only [Act.put, qI, qO, qU])
   (refine tk 7 35 ?_ ?_ ?_; rotate_left; · (intro w hSw; go_simp; (try with_reducible rfl)))
   (try simp only [Act.put, qI, qO, qU])
   (refine tk 8 36 ?_ ?_ ?_; rotate_left; · (intro w hSw; go_simp; (try with_reducible rfl)))
   (try simp only [Act.put, qI, qO, qU])
   (refine tk 9 8 ?_ ?_ ?_; rotate_left; · (intro w hSw; go_simp; (try with_reducible rfl)))
   (try simp only [Act.put, qI, qO, qU])
   (refine tk 10 9 ?_ ?_ ?_; rotate_left; · (intro w hSw; go_simp; (try with_reducible rfl)))
   (try simp only [Act.put, qI, qO, qU])
   refine wpAnyH_done (by kernel_rfl) ?_ _
   refine NoPanic.normal ?_
   have HC := H6.bk2
   clear H6 HB hM1 hHeld
   have k2_ := (SepC.mb6 HC).blk.cell 2
   simp only [qA, qZ, qS] at k2_
   go_wp2_with fail
   go_ret2
   exact ⟨rfl, v, (SepC.mb6 HC).tail⟩
  rw [hmb] at hM1
  simp only [if_true]
  clear e6
  generalize hmv : makeV d.s k = mv at *
  replace hmv := Lib.hid hmv; replace hmb := Lib.hid hmb; replace hp_ := Lib.hid hp_
  generalize hms : makeS n d.s k = ms at *
  replace hms := Lib.hid hms
  clear hFo
  obtain ⟨kg, kl, kr⟩ := k
  simp only at hr
  simp only [Ky.cs] at hF HB hM1 hL ⊢
  have hrb : (kr == 0) = false := by simpa using hr
  replace hr := Lib.hid hr
  go_enter Tryz.func53, Tryz.ntmps53
  go_upto_region 1 with fail
  generalize w.alloc (.cells #[.int .i64 kg, .int .i64 kl, .int .i64 kr] 33) = w1 at *
  generalize w.heap.size = kb at *
  clear H
  replace HB := HB.new (Chg.refl [] w1).drew
  refine wp_region_noPanic ?_
  refine wp_region_held_drew (S := (fun w' => Blk w' dd 99 (gdC gq mp q t v) ∧ Blk w' kb 33 #[.int .i64 kg, .int .i64 kl, .int .i64 kr])) (by kernel_rfl) ?_ (fun hHeld => ?_)
  ·exact ⟨HB.blk, (SepC.mb6 HB).blk⟩
  (refine tk 0 11 ?_ ?_ ?_; rotate_left; · (intro w hSw; go_simp; (try with_reducible rfl)))
  (try simp only [Act.put, qI, qO, qU])
  (refine tk 1 12 ?_ ?_ ?_; rotate_left; · (intro w hSw; go_simp; (try with_reducible rfl)))
  (try simp only [Act.put, qI, qO, qU])
  (refine tk 2 13 ?_ ?_ ?_; rotate_left; · (intro w hSw; go_simp; (try with_reducible rfl)))
  (try simp only [Act.put, qI, qO, qU])
  (refine tk 3 14 ?_ ?_ ?_; rotate_left; · (intro w hSw; (try dsimp only at hSw); have d_ := hSw.1.cell 2; unfold gdC at d_; simp only [qA, qZ, qS] at d_; go_simp; (try with_reducible rfl)))
  (try simp only [Act.put, qI, qO, qU])
  (refine tk 4 15 ?_ ?_ ?_; rotate_left; · (intro w hSw; (try dsimp only at hSw); have d0_ := hSw.2.cell 0; have d1_ := hSw.2.cell 1; have d2_ := hSw.2.cell 2; simp only [qA, qZ, qS] at d0_ d1_ d2_; go_simp; (try with_reducible rfl)))
  (try simp only [Act.put, qI, qO, qU])
  refine rdy 5 fun K hK => ?_
  go_simp
  (go_at_call 74; refine (hF HB.at2).mono ?_; rintro e u1 ⟨rfl, y1⟩)
  refine hK.out _ _ (by (try dsimp only); exact ⟨hHeld.1.chg_ y1 (by simp), hHeld.2.chg_ y1 (by simp)⟩) (fun hHeld => ?_)
  clear hK K
  (try simp only [Act.put, qI, qO, qU])
  (refine tk 6 10 ?_ ?_ ?_; rotate_left; · (intro w hSw; go_simp; (try with_reducible rfl)))
  (try simp only [Act.put, qI, qO, qU])
  (refine tk 7 17 ?_ ?_ ?_; rotate_left; · (intro w hSw; go_simp; (try with_reducible rfl)))
  (try simp only [Act.put, qI, qO, qU])
  (refine tk 8 18 ?_ ?_ ?_; rotate_left; · (intro w hSw; go_simp; (try with_reducible rfl)))
  (try simp only [Act.put, qI, qO, qU])
  (refine tk 9 6 ?_ ?_ ?_; rotate_left; · (intro w hSw; go_simp; (try with_reducible rfl)))
  (try simp only [Act.put, qI, qO, qU])
  (refine tk 10 7 ?_ ?_ ?_; rotate_left; · (intro w hSw; go_simp; (try with_reducible rfl)))
  (try simp only [Act.put, qI, qO, qU])
  refine wpAnyH_done (by kernel_rfl) ?_ _
  refine NoPanic.normal ?_
  replace HB := HB.new y1
  clear hF hHeld y1
  have k0_ := (SepC.mb6 HB).blk.cell 0; have k2_ := (SepC.mb6 HB).blk.cell 2
  simp only [qA, qZ, qS] at k0_ k2_
  clear hL
  go_upto_region 6 with fail
  clear k0_ k2_
  replace HB := HB.new (Chg.refl [] _).drew
  refine wp_region_noPanic ?_
  refine wp_region_held_drew (S := (fun w' => Blk w' dd 99 (gdC gq mp q t v) ∧ Blk w' kb 33 #[.int .i64 kg, .int .i64 kl, .int .i64 kr])) (by kernel_rfl) ?_ (fun hHeld => ?_)
  ·exact ⟨HB.blk, (SepC.mb6 HB).blk⟩
  (refine tk 0 29 ?_ ?_ ?_; rotate_left; · (intro w hSw; go_simp; (try with_reducible rfl)))
  (try simp only [Act.put, qI, qO, qU])
  (refine tk 1 30 ?_ ?_ ?_; rotate_left; · (intro w hSw; go_simp; (try with_reducible rfl)))
  (try simp only [Act.put, qI, qO, qU])
  (refine tk 2 31 ?_ ?_ ?_; rotate_left; · (intro w hSw; go_simp; (try with_reducible rfl)))
  (try simp only [Act.put, qI, qO, qU])
  (refine tk 3 32 ?_ ?_ ?_; rotate_left; · (intro w hSw; (try dsimp only at hSw); have d_ := hSw.1.cell 2; unfold gdC at d_; simp only [qA, qZ, qS] at d_; go_simp; (try with_reducible rfl)))
  (try simp only [Act.put, qI, qO, qU])
  (refine tk 4 33 ?_ ?_ ?_; rotate_left; · (intro w hSw; (try dsimp only at hSw); have d0_ := hSw.2.cell 0; have d1_ := hSw.2.cell 1; have d2_ := hSw.2.cell 2; simp only [qA, qZ, qS] at d0_ d1_ d2_; go_simp; (try with_reducible rfl)))
  (try simp only [Act.put, qI, qO, qU])
  refine rdy 5 fun K hK => ?_
  go_simp
  (go_at_call 97; refine (hM1 HB.at2).mono ?_; rintro e u2 ⟨rfl, H6⟩)
  refine hK.out _ _ (by (try dsimp only); exact ⟨H6.bk2.blk, (SepC.mb6 H6.bk2).blk⟩) (fun hHeld => ?_)
  clear hK K
  (try simp only [Act.put, qI, qO, qU])
  (refine tk 6 28 ?_ ?_ ?_; rotate_left; · (intro w hSw; go_simp; (try with_reducible rfl)))
  (try simp only [Act.put, qI, qO, qU])
  (refine tk 7 35 ?_ ?_ ?_; rotate_left; · (intro w hSw; go_simp; (try with_reducible rfl)))
  (try simp only [Act.put, qI, qO, qU])
  (refine tk 8 36 ?_ ?_ ?_; rotate_left; · (intro w hSw; go_simp; (try with_reducible rfl)))
  (try simp only [Act.put, qI, qO, qU])
  (refine tk 9 8 ?_ ?_ ?_; rotate_left; · (intro w hSw; go_simp; (try with_reducible rfl)))
  (try simp only [Act.put, qI, qO, qU])
  (refine tk 10 9 ?_ ?_ ?_; rotate_left; · (intro w hSw; go_simp; (try with_reducible rfl)))
  (try simp only [Act.put, qI, qO, qU])
  refine wpAnyH_done (by kernel_rfl) ?_ _
  refine NoPanic.normal ?_
  have HC := H6.bk2
  clear H6 HB hM1 hHeld
  have k2_ := (SepC.mb6 HC).blk.cell 2
  simp only [qA, qZ, qS] at k2_
  go_wp2_with fail
  go_ret2
  exact ⟨rfl, v, (SepC.mb6 HC).tail⟩
end
end Go.Proofs.YtgjfidjhbkaobaaGreat
