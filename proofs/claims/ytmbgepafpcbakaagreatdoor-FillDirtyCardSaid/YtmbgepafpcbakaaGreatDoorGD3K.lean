/-
 GdM, GdK in one text.
-/
import Derived.Test.YtmbgepafpcbakaaGreatDoorGD2K
import Derived.Deep.CutRange
namespace Go.Proofs.YtmbgepafpcbakaaGreatDoor
open Go.RowKit Go.Maps Go.Shelf
section
variable {w0 w w' : World} {dd gq mp q hp hb t n a m most : Nat} {L : List Int} {v : Value} {s : Sr} {T : List Ht} {ll : List Int} {l : List Th} {d : Gd}
theorem make_no_ {k : Ky} (hb : makeB s k = false) : makeS n s k = s ∧ makeV s k = 0 := by unfold makeS makeV; rw [hb]; exact ⟨rfl, rfl⟩
set_option maxRecDepth 100000 in
set_option maxHeartbeats 8000000 in
theorem SepC.gMake (H : SepC w0 w (blkT dd 144 (gdC gq mp q t (v)) :: ownT (numE .i64) 3 (v) ((d).l) :: stT q hp hb n a m ((d).s) :: tlbT t most ((d).T) :: mapT mp L :: blkT gq 169 (guC mp hp) :: l)) (G : GdIn n a m L d) (k : Ky) :
  Calls Tryz.prog 157 #[.pointer (some ⟨dd, 0, none⟩), .agg k.cs] w fun e w' => e = .returned (.tuple #[.int .i64 (makeGV n L d k), .bool (makeGB n L d k)]) ∧ ∃ v', SepC w0 w' (blkT dd 144 (gdC gq mp q t (v')) :: ownT (numE .i64) 3 (v') ((makeG n L d k).l) :: stT q hp hb n a m ((makeG n L d k).s) :: tlbT t most ((makeG n L d k).T) :: mapT mp L :: blkT gq 169 (guC mp hp) :: l) := by
 have hF := fun {z : World} {l' : List Th} (H' : SepC w0 z (stT q hp hb n a m d.s :: l')) => H'.sFind k
 have hL := fun {z : World} {l' : List Th} (H' : SepC w0 z (blkT dd 144 (gdC gq mp q t (v)) :: ownT (numE .i64) 3 (v) ((d).l) :: stT q hp hb n a m ((d).s) :: tlbT t most ((d).T) :: mapT mp L :: blkT gq 169 (guC mp hp) :: l')) => H'.gLook G k.g
 have hM := fun {z : World} {l' : List Th} {s' : Sr} (H' : SepC w0 z (stT q hp hb n a m s' :: l')) => H'.sMake k
 have hFo := fun {z : World} {l' : List Th} {s' : Sr} {T' : List Ht} {ll' : List Int} {v' : Value} (H' : SepC w0 z (blkT dd 144 (gdC gq mp q t (v')) :: ownT (numE .i64) 3 (v') (ll') :: stT q hp hb n a m (s') :: tlbT t most (T') :: mapT mp L :: blkT gq 169 (guC mp hp) :: l')) => H'.gForbid G.ok.map G.ok.pos k.g
 have HB : SepC w0 (w.alloc (.cells k.cs 85)) (blkT dd 144 (gdC gq mp q t (v)) :: ownT (numE .i64) 3 (v) ((d).l) :: stT q hp hb n a m ((d).s) :: tlbT t most ((d).T) :: mapT mp L :: blkT gq 169 (guC mp hp) :: blkT w.heap.size 85 k.cs :: l) := SepC.mv6 (H.alloc k.cs 85)
 have e1 : makeGB n L d k = ((pgOf d.s.L k).isSome || makeB (preG n L d k).s k) := rfl
 have e2 : makeGV n L d k = match pgOf d.s.L k with | some q => q.f | none => makeV (preG n L d k).s k := rfl
 have e3 : makeG n L d k = if (pgOf d.s.L k).isSome then d else makeD n L (preG n L d k) k := rfl
 rw [e1, e2, e3]
 clear e1 e2 e3
 have e4 : preG n L d k = if k.role = 0 then lookG n L d k.g else d := rfl
 have e5 : ∀ D, makeD n L D k = if makeB D.s k then (if k.role = 0 then forbidG L ⟨makeS n D.s k, D.T, D.l⟩ k.g else ⟨makeS n D.s k, D.T, D.l⟩) else D := fun _ => rfl
 have e6 : ∀ s', makeB s' k = false → makeS n s' k = s' := fun s' h => (make_no_ h).1
 simp only [e5]
 rw [e4]
 clear e4 e5
 generalize lookG n L d k.g = D at *
 generalize looseB d k.g = lo at *
 clear G
 unfold findV at hF
 cases hp_ : pgOf d.s.L k with
 | some qq =>
  simp only [hp_, Option.map_some, Option.getD_some, Option.isSome_some, Bool.true_or, if_true] at hF ⊢
  clear hL hM hFo e6 hp_
  generalize qq.f = fv at *
  obtain ⟨kg, kl, kr⟩ := k
  simp only [Ky.cs] at hF HB ⊢
  go_enter Tryz.func157, Tryz.ntmps157
  go_upto_region 1 with fail
  generalize w.alloc (.cells #[.int .i64 kg, .int .i64 kl, .int .i64 kr] 85) = w1 at *
  generalize w.heap.size = kb at *
  clear H
  replace HB := HB.new (Chg.refl [] w1).drew
  refine wp_region_noPanic ?_
  refine wp_region_held_drew (S := (fun w' => Blk w' dd 144 (gdC gq mp q t v) ∧ Blk w' kb 85 #[.int .i64 kg, .int .i64 kl, .int .i64 kr])) (by kernel_rfl) ?_ (fun hHeld => ?_)
  ·exact ⟨HB.blk, (SepC.mb6 HB).blk⟩
  refine tq 0 11 _ ?_
  refine tq 1 12 _ ?_
  refine tq 2 13 _ ?_
  (refine tk 3 14 ?_ ?_ ?_; rotate_left; · (intro w hSw; (try dsimp only at hSw); have d_ := hSw.1.cell 2; unfold gdC at d_; simp only [qA, qZ, qS] at d_; go_simp; (try with_reducible rfl)))
  (try simp only [Act.put, qI, qO, qU])
  (refine tk 4 15 ?_ ?_ ?_; rotate_left; · (intro w hSw; (try dsimp only at hSw); have d0_ := hSw.2.cell 0; have d1_ := hSw.2.cell 1; have d2_ := hSw.2.cell 2; simp only [qA, qZ, qS] at d0_ d1_ d2_; go_simp; (try with_reducible rfl)))
  (try simp only [Act.put, qI, qO, qU])
  refine rdy 5 fun K hK => ?_
  go_simp
  (go_at_call 38; refine (hF HB.at2).mono ?_; rintro e u1 ⟨rfl, y1⟩)
  refine hK.out _ _ (by (try dsimp only); exact ⟨hHeld.1.chg_ y1 (by simp), hHeld.2.chg_ y1 (by simp)⟩) (fun hHeld => ?_)
  clear hK K
  (try simp only [Act.put, qI, qO, qU])
  refine tq 6 10 _ ?_
  refine tq 7 17 _ ?_
  refine tq 8 18 _ ?_
  refine tq 9 6 _ ?_
  (try simp only [Act.put, qI, qO, qU])
  refine tq 10 7 _ ?_
  (try simp only [Act.put, qI, qO, qU])
  refine wpAnyH_done (by kernel_rfl) ?_ _
  refine NoPanic.normal ?_
  go_wp2_with fail
  go_ret2
  exact ⟨rfl, v, (SepC.mb6 (HB.new y1)).tail⟩
 | none =>
  simp only [hp_, Option.map_none, Option.getD_none, Option.isSome_none, Bool.false_or, Bool.false_eq_true, if_false] at hF ⊢
  by_cases hr : k.role = 0
  ·simp only [hr, if_true]
   have hM1 := fun {z : World} {l' : List Th} (H' : SepC w0 z (stT q hp hb n a m D.s :: l')) => hM H'
   clear hM
   cases hmb : makeB D.s k
   ·rw [hmb] at hM1
    simp only [Bool.false_eq_true, if_false]
    rw [e6 _ hmb] at hM1
    clear e6
    generalize hmv : makeV D.s k = mv at *
    replace hmv := Lib.hid hmv; replace hmb := Lib.hid hmb; replace hp_ := Lib.hid hp_
    clear hFo
    obtain ⟨kg, kl, kr⟩ := k
    simp only at hr
    simp only [Ky.cs] at hF HB hM1 hL ⊢
    subst hr
    go_enter Tryz.func157, Tryz.ntmps157
    go_upto_region 1 with fail
    generalize w.alloc (.cells #[.int .i64 kg, .int .i64 kl, .int .i64 0] 85) = w1 at *
    generalize w.heap.size = kb at *
    clear H
    replace HB := HB.new (Chg.refl [] w1).drew
    refine wp_region_noPanic ?_
    refine wp_region_held_drew (S := (fun w' => Blk w' dd 144 (gdC gq mp q t v) ∧ Blk w' kb 85 #[.int .i64 kg, .int .i64 kl, .int .i64 0])) (by kernel_rfl) ?_ (fun hHeld => ?_)
    ·exact ⟨HB.blk, (SepC.mb6 HB).blk⟩
    refine tq 0 11 _ ?_
    refine tq 1 12 _ ?_
    refine tq 2 13 _ ?_
    (refine tk 3 14 ?_ ?_ ?_; rotate_left; · (intro w hSw; (try dsimp only at hSw); have d_ := hSw.1.cell 2; unfold gdC at d_; simp only [qA, qZ, qS] at d_; go_simp; (try with_reducible rfl)))
    (try simp only [Act.put, qI, qO, qU])
    (refine tk 4 15 ?_ ?_ ?_; rotate_left; · (intro w hSw; (try dsimp only at hSw); have d0_ := hSw.2.cell 0; have d1_ := hSw.2.cell 1; have d2_ := hSw.2.cell 2; simp only [qA, qZ, qS] at d0_ d1_ d2_; go_simp; (try with_reducible rfl)))
    (try simp only [Act.put, qI, qO, qU])
    refine rdy 5 fun K hK => ?_
    go_simp
    (go_at_call 38; refine (hF HB.at2).mono ?_; rintro e u1 ⟨rfl, y1⟩)
    refine hK.out _ _ (by (try dsimp only); exact ⟨hHeld.1.chg_ y1 (by simp), hHeld.2.chg_ y1 (by simp)⟩) (fun hHeld => ?_)
    clear hK K
    (try simp only [Act.put, qI, qO, qU])
    refine tq 6 10 _ ?_
    refine tq 7 17 _ ?_
    refine tq 8 18 _ ?_
    refine tq 9 6 _ ?_
    (try simp only [Act.put, qI, qO, qU])
    refine tq 10 7 _ ?_
    (try simp only [Act.put, qI, qO, qU])
    refine wpAnyH_done (by kernel_rfl) ?_ _
    refine NoPanic.normal ?_
    replace HB := HB.new y1
    clear hF hHeld y1
    have k0_ := (SepC.mb6 HB).blk.cell 0; have k2_ := (SepC.mb6 HB).blk.cell 2
    simp only [qA, qZ, qS] at k0_ k2_
    go_wp2_with fail
    refine (hL HB).mono ?_; rintro e u3 ⟨rfl, v2, HB⟩
    clear hL k0_ k2_
    go_upto_region 6 with fail
    replace HB := HB.new (Chg.refl [] u3).drew
    refine wp_region_noPanic ?_
    refine wp_region_held_drew (S := (fun w' => Blk w' dd 144 (gdC gq mp q t v2) ∧ Blk w' kb 85 #[.int .i64 kg, .int .i64 kl, .int .i64 0])) (by kernel_rfl) ?_ (fun hHeld => ?_)
    ·exact ⟨HB.blk, (SepC.mb6 HB).blk⟩
    refine tq 0 29 _ ?_
    refine tq 1 30 _ ?_
    refine tq 2 31 _ ?_
    (refine tk 3 32 ?_ ?_ ?_; rotate_left; · (intro w hSw; (try dsimp only at hSw); have d_ := hSw.1.cell 2; unfold gdC at d_; simp only [qA, qZ, qS] at d_; go_simp; (try with_reducible rfl)))
    (try simp only [Act.put, qI, qO, qU])
    (refine tk 4 33 ?_ ?_ ?_; rotate_left; · (intro w hSw; (try dsimp only at hSw); have d0_ := hSw.2.cell 0; have d1_ := hSw.2.cell 1; have d2_ := hSw.2.cell 2; simp only [qA, qZ, qS] at d0_ d1_ d2_; go_simp; (try with_reducible rfl)))
    (try simp only [Act.put, qI, qO, qU])
    refine rdy 5 fun K hK => ?_
    go_simp
    (go_at_call 45; refine (hM1 HB.at2).mono ?_; rintro e u2 ⟨rfl, H6⟩)
    refine hK.out _ _ (by (try dsimp only); exact ⟨H6.bk2.blk, (SepC.mb6 H6.bk2).blk⟩) (fun hHeld => ?_)
    clear hK K
    (try simp only [Act.put, qI, qO, qU])
    refine tq 6 28 _ ?_
    refine tq 7 35 _ ?_
    refine tq 8 36 _ ?_
    refine tq 9 8 _ ?_
    (try simp only [Act.put, qI, qO, qU])
    refine tq 10 9 _ ?_
    (try simp only [Act.put, qI, qO, qU])
    refine wpAnyH_done (by kernel_rfl) ?_ _
    refine NoPanic.normal ?_
    have HC := H6.bk2
    clear H6 HB hM1 hHeld
    have k2_ := (SepC.mb6 HC).blk.cell 2
    simp only [qA, qZ, qS] at k2_
    go_wp2_with fail
    go_ret2
    exact ⟨rfl, v2, (SepC.mb6 HC).tail⟩
   rw [hmb] at hM1
   simp only [if_true]
   clear e6
   generalize hmv : makeV D.s k = mv at *
   replace hmv := Lib.hid hmv; replace hmb := Lib.hid hmb; replace hp_ := Lib.hid hp_
   have hFo1 := fun {z : World} {l' : List Th} {v' : Value} (H' : SepC w0 z (blkT dd 144 (gdC gq mp q t (v')) :: ownT (numE .i64) 3 (v') (D.l) :: stT q hp hb n a m (makeS n D.s k) :: tlbT t most (D.T) :: mapT mp L :: blkT gq 169 (guC mp hp) :: l')) => hFo H'
   generalize hE_ : forbidG L ⟨makeS n D.s k, D.T, D.l⟩ k.g = E at *
   replace hE_ := Lib.hid hE_
   generalize hms : makeS n D.s k = ms at *
   replace hms := Lib.hid hms
   clear hFo
   obtain ⟨kg, kl, kr⟩ := k
   simp only at hr
   simp only [Ky.cs] at hF HB hM1 hL ⊢
   simp only at hFo1
   subst hr
   go_enter Tryz.func157, Tryz.ntmps157
   go_upto_region 1 with fail
   generalize w.alloc (.cells #[.int .i64 kg, .int .i64 kl, .int .i64 0] 85) = w1 at *
   generalize w.heap.size = kb at *
   clear H
   replace HB := HB.new (Chg.refl [] w1).drew
   refine wp_region_noPanic ?_
   refine wp_region_held_drew (S := (fun w' => Blk w' dd 144 (gdC gq mp q t v) ∧ Blk w' kb 85 #[.int .i64 kg, .int .i64 kl, .int .i64 0])) (by kernel_rfl) ?_ (fun hHeld => ?_)
   ·exact ⟨HB.blk, (SepC.mb6 HB).blk⟩
   refine tq 0 11 _ ?_
   refine tq 1 12 _ ?_
   refine tq 2 13 _ ?_
   (refine tk 3 14 ?_ ?_ ?_; rotate_left; · (intro w hSw; (try dsimp only at hSw); have d_ := hSw.1.cell 2; unfold gdC at d_; simp only [qA, qZ, qS] at d_; go_simp; (try with_reducible rfl)))
   (try simp only [Act.put, qI, qO, qU])
   (refine tk 4 15 ?_ ?_ ?_; rotate_left; · (intro w hSw; (try dsimp only at hSw); have d0_ := hSw.2.cell 0; have d1_ := hSw.2.cell 1; have d2_ := hSw.2.cell 2; simp only [qA, qZ, qS] at d0_ d1_ d2_; go_simp; (try with_reducible rfl)))
   (try simp only [Act.put, qI, qO, qU])
   refine rdy 5 fun K hK => ?_
   go_simp
   (go_at_call 38; refine (hF HB.at2).mono ?_; rintro e u1 ⟨rfl, y1⟩)
   refine hK.out _ _ (by (try dsimp only); exact ⟨hHeld.1.chg_ y1 (by simp), hHeld.2.chg_ y1 (by simp)⟩) (fun hHeld => ?_)
   clear hK K
   (try simp only [Act.put, qI, qO, qU])
   refine tq 6 10 _ ?_
   refine tq 7 17 _ ?_
   refine tq 8 18 _ ?_
   refine tq 9 6 _ ?_
   (try simp only [Act.put, qI, qO, qU])
   refine tq 10 7 _ ?_
   (try simp only [Act.put, qI, qO, qU])
   refine wpAnyH_done (by kernel_rfl) ?_ _
   refine NoPanic.normal ?_
   replace HB := HB.new y1
   clear hF hHeld y1
   have k0_ := (SepC.mb6 HB).blk.cell 0; have k2_ := (SepC.mb6 HB).blk.cell 2
   simp only [qA, qZ, qS] at k0_ k2_
   go_wp2_with fail
   refine (hL HB).mono ?_; rintro e u3 ⟨rfl, v2, HB⟩
   clear hL k0_ k2_
   go_upto_region 6 with fail
   replace HB := HB.new (Chg.refl [] u3).drew
   refine wp_region_noPanic ?_
   refine wp_region_held_drew (S := (fun w' => Blk w' dd 144 (gdC gq mp q t v2) ∧ Blk w' kb 85 #[.int .i64 kg, .int .i64 kl, .int .i64 0])) (by kernel_rfl) ?_ (fun hHeld => ?_)
   ·exact ⟨HB.blk, (SepC.mb6 HB).blk⟩
   refine tq 0 29 _ ?_
   refine tq 1 30 _ ?_
   refine tq 2 31 _ ?_
   (refine tk 3 32 ?_ ?_ ?_; rotate_left; · (intro w hSw; (try dsimp only at hSw); have d_ := hSw.1.cell 2; unfold gdC at d_; simp only [qA, qZ, qS] at d_; go_simp; (try with_reducible rfl)))
   (try simp only [Act.put, qI, qO, qU])
   (refine tk 4 33 ?_ ?_ ?_; rotate_left; · (intro w hSw; (try dsimp only at hSw); have d0_ := hSw.2.cell 0; have d1_ := hSw.2.cell 1; have d2_ := hSw.2.cell 2; simp only [qA, qZ, qS] at d0_ d1_ d2_; go_simp; (try with_reducible rfl)))
   (try simp only [Act.put, qI, qO, qU])
   refine rdy 5 fun K hK => ?_
   go_simp
   (go_at_call 45; refine (hM1 HB.at2).mono ?_; rintro e u2 ⟨rfl, H6⟩)
   refine hK.out _ _ (by (try dsimp only); exact ⟨H6.bk2.blk, (SepC.mb6 H6.bk2).blk⟩) (fun hHeld => ?_)
   clear hK K
   (try simp only [Act.put, qI, qO, qU])
   refine tq 6 28 _ ?_
   refine tq 7 35 _ ?_
   refine tq 8 36 _ ?_
   refine tq 9 8 _ ?_
   (try simp only [Act.put, qI, qO, qU])
   refine tq 10 9 _ ?_
   (try simp only [Act.put, qI, qO, qU])
   refine wpAnyH_done (by kernel_rfl) ?_ _
   refine NoPanic.normal ?_
   have HC := H6.bk2
   clear H6 HB hM1 hHeld
   have k2_ := (SepC.mb6 HC).blk.cell 2
   simp only [qA, qZ, qS] at k2_
   have k0_ := (SepC.mb6 HC).blk.cell 0
   simp only [qA, qZ] at k0_
   go_wp2_with fail
   refine (hFo1 HC).mono ?_; rintro e u4 ⟨rfl, HD⟩
   clear hFo1 k0_ k2_ HC
   go_wp2_with fail
   go_ret2
   exact ⟨rfl, v2, by rw [show E.l = D.l by rw [← hE_.out]; rfl]; exact (SepC.mb6 HD).tail⟩
  simp only [if_neg hr]
  have hM1 := fun {z : World} {l' : List Th} (H' : SepC w0 z (stT q hp hb n a m d.s :: l')) => hM H'
  clear hM
  cases hmb : makeB d.s k
  ·rw [hmb] at hM1
   simp only [Bool.false_eq_true, if_false]
   rw [e6 _ hmb] at hM1
   clear e6
   generalize hmv : makeV d.s k = mv at *
   replace hmv := Lib.hid hmv; replace hmb := Lib.hid hmb; replace hp_ := Lib.hid hp_
   clear hFo
   obtain ⟨kg, kl, kr⟩ := k
   simp only at hr
   simp only [Ky.cs] at hF HB hM1 hL ⊢
   have hrb : (kr == 0) = false := by simpa using hr
   replace hr := Lib.hid hr
   go_enter Tryz.func157, Tryz.ntmps157
   go_upto_region 1 with fail
   generalize w.alloc (.cells #[.int .i64 kg, .int .i64 kl, .int .i64 kr] 85) = w1 at *
   generalize w.heap.size = kb at *
   clear H
   replace HB := HB.new (Chg.refl [] w1).drew
   refine wp_region_noPanic ?_
   refine wp_region_held_drew (S := (fun w' => Blk w' dd 144 (gdC gq mp q t v) ∧ Blk w' kb 85 #[.int .i64 kg, .int .i64 kl, .int .i64 kr])) (by kernel_rfl) ?_ (fun hHeld => ?_)
   ·exact ⟨HB.blk, (SepC.mb6 HB).blk⟩
   refine tq 0 11 _ ?_
   refine tq 1 12 _ ?_
   refine tq 2 13 _ ?_
   (refine tk 3 14 ?_ ?_ ?_; rotate_left; · (intro w hSw; (try dsimp only at hSw); have d_ := hSw.1.cell 2; unfold gdC at d_; simp only [qA, qZ, qS] at d_; go_simp; (try with_reducible rfl)))
   (try simp only [Act.put, qI, qO, qU])
   (refine tk 4 15 ?_ ?_ ?_; rotate_left; · (intro w hSw; (try dsimp only at hSw); have d0_ := hSw.2.cell 0; have d1_ := hSw.2.cell 1; have d2_ := hSw.2.cell 2; simp only [qA, qZ, qS] at d0_ d1_ d2_; go_simp; (try with_reducible rfl)))
   (try simp only [Act.put, qI, qO, qU])
   refine rdy 5 fun K hK => ?_
   go_simp
   (go_at_call 38; refine (hF HB.at2).mono ?_; rintro e u1 ⟨rfl, y1⟩)
   refine hK.out _ _ (by (try dsimp only); exact ⟨hHeld.1.chg_ y1 (by simp), hHeld.2.chg_ y1 (by simp)⟩) (fun hHeld => ?_)
   clear hK K
   (try simp only [Act.put, qI, qO, qU])
   refine tq 6 10 _ ?_
   refine tq 7 17 _ ?_
   refine tq 8 18 _ ?_
   refine tq 9 6 _ ?_
   (try simp only [Act.put, qI, qO, qU])
   refine tq 10 7 _ ?_
   (try simp only [Act.put, qI, qO, qU])
   refine wpAnyH_done (by kernel_rfl) ?_ _
   refine NoPanic.normal ?_
   replace HB := HB.new y1
   clear hF hHeld y1
   have k0_ := (SepC.mb6 HB).blk.cell 0; have k2_ := (SepC.mb6 HB).blk.cell 2
   simp only [qA, qZ, qS] at k0_ k2_
   clear hL
   go_upto_region 6 with fail
   clear k0_ k2_
   replace HB := HB.new (Chg.refl [] _).drew
   refine wp_region_noPanic ?_
   refine wp_region_held_drew (S := (fun w' => Blk w' dd 144 (gdC gq mp q t v) ∧ Blk w' kb 85 #[.int .i64 kg, .int .i64 kl, .int .i64 kr])) (by kernel_rfl) ?_ (fun hHeld => ?_)
   ·exact ⟨HB.blk, (SepC.mb6 HB).blk⟩
   refine tq 0 29 _ ?_
   refine tq 1 30 _ ?_
   refine tq 2 31 _ ?_
   (refine tk 3 32 ?_ ?_ ?_; rotate_left; · (intro w hSw; (try dsimp only at hSw); have d_ := hSw.1.cell 2; unfold gdC at d_; simp only [qA, qZ, qS] at d_; go_simp; (try with_reducible rfl)))
   (try simp only [Act.put, qI, qO, qU])
   (refine tk 4 33 ?_ ?_ ?_; rotate_left; · (intro w hSw; (try dsimp only at hSw); have d0_ := hSw.2.cell 0; have d1_ := hSw.2.cell 1; have d2_ := hSw.2.cell 2; simp only [qA, qZ, qS] at d0_ d1_ d2_; go_simp; (try with_reducible rfl)))
   (try simp only [Act.put, qI, qO, qU])
   refine rdy 5 fun K hK => ?_
   go_simp
   (go_at_call 45; refine (hM1 HB.at2).mono ?_; rintro e u2 ⟨rfl, H6⟩)
   refine hK.out _ _ (by (try dsimp only); exact ⟨H6.bk2.blk, (SepC.mb6 H6.bk2).blk⟩) (fun hHeld => ?_)
   clear hK K
   (try simp only [Act.put, qI, qO, qU])
   refine tq 6 28 _ ?_
   refine tq 7 35 _ ?_
   refine tq 8 36 _ ?_
   refine tq 9 8 _ ?_
   (try simp only [Act.put, qI, qO, qU])
   refine tq 10 9 _ ?_
   (try simp only [Act.put, qI, qO, qU])
   refine wpAnyH_done (by kernel_rfl) ?_ _
   refine NoPanic.normal ?_
   have HC := H6.bk2
   clear H6 HB hM1 hHeld
   have k2_ := (SepC.mb6 HC).blk.cell 2
   simp only [qA, qZ, qS] at k2_
   go_wp2_with fail
   go_ret2
   exact ⟨rfl, v, (SepC.mb6 HC).tail⟩
  rw [hmb] at hM1
  simp only [if_true]
  clear e6
  generalize hmv : makeV d.s k = mv at *
  replace hmv := Lib.hid hmv; replace hmb := Lib.hid hmb; replace hp_ := Lib.hid hp_
  generalize hms : makeS n d.s k = ms at *
  replace hms := Lib.hid hms
  clear hFo
  obtain ⟨kg, kl, kr⟩ := k
  simp only at hr
  simp only [Ky.cs] at hF HB hM1 hL ⊢
  have hrb : (kr == 0) = false := by simpa using hr
  replace hr := Lib.hid hr
  go_enter Tryz.func157, Tryz.ntmps157
  go_upto_region 1 with fail
  generalize w.alloc (.cells #[.int .i64 kg, .int .i64 kl, .int .i64 kr] 85) = w1 at *
  generalize w.heap.size = kb at *
  clear H
  replace HB := HB.new (Chg.refl [] w1).drew
  refine wp_region_noPanic ?_
  refine wp_region_held_drew (S := (fun w' => Blk w' dd 144 (gdC gq mp q t v) ∧ Blk w' kb 85 #[.int .i64 kg, .int .i64 kl, .int .i64 kr])) (by kernel_rfl) ?_ (fun hHeld => ?_)
  ·exact ⟨HB.blk, (SepC.mb6 HB).blk⟩
  refine tq 0 11 _ ?_
  refine tq 1 12 _ ?_
  refine tq 2 13 _ ?_
  (refine tk 3 14 ?_ ?_ ?_; rotate_left; · (intro w hSw; (try dsimp only at hSw); have d_ := hSw.1.cell 2; unfold gdC at d_; simp only [qA, qZ, qS] at d_; go_simp; (try with_reducible rfl)))
  (try simp only [Act.put, qI, qO, qU])
  (refine tk 4 15 ?_ ?_ ?_; rotate_left; · (intro w hSw; (try dsimp only at hSw); have d0_ := hSw.2.cell 0; have d1_ := hSw.2.cell 1; have d2_ := hSw.2.cell 2; simp only [qA, qZ, qS] at d0_ d1_ d2_; go_simp; (try with_reducible rfl)))
  (try simp only [Act.put, qI, qO, qU])
  refine rdy 5 fun K hK => ?_
  go_simp
  (go_at_call 38; refine (hF HB.at2).mono ?_; rintro e u1 ⟨rfl, y1⟩)
  refine hK.out _ _ (by (try dsimp only); exact ⟨hHeld.1.chg_ y1 (by simp), hHeld.2.chg_ y1 (by simp)⟩) (fun hHeld => ?_)
  clear hK K
  (try simp only [Act.put, qI, qO, qU])
  refine tq 6 10 _ ?_
  refine tq 7 17 _ ?_
  refine tq 8 18 _ ?_
  refine tq 9 6 _ ?_
  (try simp only [Act.put, qI, qO, qU])
  refine tq 10 7 _ ?_
  (try simp only [Act.put, qI, qO, qU])
  refine wpAnyH_done (by kernel_rfl) ?_ _
  refine NoPanic.normal ?_
  replace HB := HB.new y1
  clear hF hHeld y1
  have k0_ := (SepC.mb6 HB).blk.cell 0; have k2_ := (SepC.mb6 HB).blk.cell 2
  simp only [qA, qZ, qS] at k0_ k2_
  clear hL
  go_upto_region 6 with fail
  clear k0_ k2_
  replace HB := HB.new (Chg.refl [] _).drew
  refine wp_region_noPanic ?_
  refine wp_region_held_drew (S := (fun w' => Blk w' dd 144 (gdC gq mp q t v) ∧ Blk w' kb 85 #[.int .i64 kg, .int .i64 kl, .int .i64 kr])) (by kernel_rfl) ?_ (fun hHeld => ?_)
  ·exact ⟨HB.blk, (SepC.mb6 HB).blk⟩
  refine tq 0 29 _ ?_
  refine tq 1 30 _ ?_
  refine tq 2 31 _ ?_
  (refine tk 3 32 ?_ ?_ ?_; rotate_left; · (intro w hSw; (try dsimp only at hSw); have d_ := hSw.1.cell 2; unfold gdC at d_; simp only [qA, qZ, qS] at d_; go_simp; (try with_reducible rfl)))
  (try simp only [Act.put, qI, qO, qU])
  (refine tk 4 33 ?_ ?_ ?_; rotate_left; · (intro w hSw; (try dsimp only at hSw); have d0_ := hSw.2.cell 0; have d1_ := hSw.2.cell 1; have d2_ := hSw.2.cell 2; simp only [qA, qZ, qS] at d0_ d1_ d2_; go_simp; (try with_reducible rfl)))
  (try simp only [Act.put, qI, qO, qU])
  refine rdy 5 fun K hK => ?_
  go_simp
  (go_at_call 45; refine (hM1 HB.at2).mono ?_; rintro e u2 ⟨rfl, H6⟩)
  refine hK.out _ _ (by (try dsimp only); exact ⟨H6.bk2.blk, (SepC.mb6 H6.bk2).blk⟩) (fun hHeld => ?_)
  clear hK K
  (try simp only [Act.put, qI, qO, qU])
  refine tq 6 28 _ ?_
  refine tq 7 35 _ ?_
  refine tq 8 36 _ ?_
  refine tq 9 8 _ ?_
  (try simp only [Act.put, qI, qO, qU])
  refine tq 10 9 _ ?_
  (try simp only [Act.put, qI, qO, qU])
  refine wpAnyH_done (by kernel_rfl) ?_ _
  refine NoPanic.normal ?_
  have HC := H6.bk2
  clear H6 HB hM1 hHeld
  have k2_ := (SepC.mb6 HC).blk.cell 2
  simp only [qA, qZ, qS] at k2_
  go_wp2_with fail
  go_ret2
  exact ⟨rfl, v, (SepC.mb6 HC).tail⟩
set_option maxRecDepth 100000 in
set_option maxHeartbeats 4000000 in
theorem SepC.gDrop (H : SepC w0 w (blkT dd 144 (gdC gq mp q t (v)) :: ownT (numE .i64) 3 (v) ((d).l) :: stT q hp hb n a m ((d).s) :: tlbT t most ((d).T) :: mapT mp L :: blkT gq 169 (guC mp hp) :: l)) (G : GdIn n a m L d) (p : Int) (hp' : i64B p) :
  Calls Tryz.prog 65 #[.pointer (some ⟨dd, 0, none⟩), .int .i64 p] w fun e w' => e = .returned (.bool (dropB d.s p)) ∧ ∃ v', SepC w0 w' (blkT dd 144 (gdC gq mp q t (v')) :: ownT (numE .i64) 3 (v') ((dropG d p).l) :: stT q hp hb n a m ((dropG d p).s) :: tlbT t most ((dropG d p).T) :: mapT mp L :: blkT gq 169 (guC mp hp) :: l) := by
 have hK := H.at2.sKey p hp'
 have hT := fun {z : World} {l' : List Th} (g : Int) (H' : SepC w0 z (blkT dd 144 (gdC gq mp q t (v)) :: ownT (numE .i64) 3 (v) ((d).l) :: stT q hp hb n a m ((d).s) :: tlbT t most ((d).T) :: mapT mp L :: blkT gq 169 (guC mp hp) :: l')) => H'.gTighten g G.rg
 have hD := fun {z : World} {l' : List Th} (H' : SepC w0 z (stT q hp hb n a m d.s :: l')) => H'.sDrop p hp'
 have e1 : dropG d p = match pgAt d.s.L p with | some q => ⟨dropS d.s p, [], if q.k.role = 0 then d.l.filter (fun x => decide (x ≠ q.k.g)) else d.l⟩ | none => d := rfl
 have e2 : dropB d.s p = (pgAt d.s.L p).isSome := rfl
 rw [e1]
 rw [e2] at hD ⊢
 clear e1 e2 G
 unfold keyV at hK
 have c2 := H.blk.cell 2
 unfold gdC at c2
 simp only [qA, qZ, qS] at c2
 cases hq_ : pgAt d.s.L p with
 | none =>
  simp only [hq_, Option.map_none, Option.getD_none, Option.isSome_none, Ky.cs] at hK ⊢
  clear hT hD hq_
  go_enter Tryz.func65, Tryz.ntmps65
  go_wp2_with fail
  refine hK.mono ?_; rintro e w1 ⟨rfl, y1⟩
  clear hK c2
  have H1 := (H.new y1).alloc #[.int .i64 0, .int .i64 0, .int .i64 0] 85
  go_wp2_with fail
  go_ret
  exact ⟨rfl, v, H1.tail⟩
 | some qq =>
  simp only [hq_, Option.map_some, Option.getD_some, Option.isSome_some] at hK hD ⊢
  clear hq_
  obtain ⟨qf, ⟨kg, kl, kr⟩, qs⟩ := qq
  simp only [Ky.cs] at hK ⊢
  generalize dropS d.s p = ds at *
  by_cases hr : kr = 0
  ·subst hr
   simp only [if_true]
   go_enter Tryz.func65, Tryz.ntmps65
   go_wp2_with fail
   refine hK.mono ?_; rintro e w1 ⟨rfl, y1⟩
   clear hK c2
   have H1 := (H.new y1).alloc #[.int .i64 kg, .int .i64 kl, .int .i64 0] 85
   have k0_ := H1.blk.cell 0; have k2_ := H1.blk.cell 2
   simp only [qA, qZ, qS] at k0_ k2_
   have H2 := SepC.mv6 H1
   clear H H1 y1
   go_wp2_with fail
   refine (hT kg H2).mono ?_; rintro e w3 ⟨rfl, v2, H3⟩
   clear hT k0_ k2_ H2
   have c2 := H3.blk.cell 2
   unfold gdC at c2
   simp only [qA, qZ, qS] at c2
   go_wp2_with fail
   refine (hD H3.at2).mono ?_; rintro e w4 ⟨rfl, H4⟩
   clear hD c2 H3
   replace H4 := H4.bk2
   have c3 := H4.blk.cell 3
   unfold gdC at c3
   simp only [qA, qZ, qS] at c3
   have hA := H4.at3.tAll
   go_wp2_with fail
   refine hA.mono ?_; rintro e w5 ⟨rfl, H5⟩
   clear hA c3 H4
   go_wp2_with fail
   go_ret
   exact ⟨rfl, v2, (SepC.mb6 H5.bk3).tail⟩
  simp only [if_neg hr]
  have hrb : (kr == 0) = false := by simpa using hr
  replace hr := Lib.hid hr
  go_enter Tryz.func65, Tryz.ntmps65
  go_wp2_with fail
  refine hK.mono ?_; rintro e w1 ⟨rfl, y1⟩
  clear hK c2
  have H1 := (H.new y1).alloc #[.int .i64 kg, .int .i64 kl, .int .i64 kr] 85
  have k0_ := H1.blk.cell 0; have k2_ := H1.blk.cell 2
  simp only [qA, qZ, qS] at k0_ k2_
  have H2 := SepC.mv6 H1
  clear H H1 y1
  clear k0_
  go_upto_region 6 with fail
  clear k2_ hT
  have H3 := H2
  clear H2
  have c2 := H3.blk.cell 2
  unfold gdC at c2
  simp only [qA, qZ, qS] at c2
  go_wp2_with fail
  refine (hD H3.at2).mono ?_; rintro e w4 ⟨rfl, H4⟩
  clear hD c2 H3
  replace H4 := H4.bk2
  have c3 := H4.blk.cell 3
  unfold gdC at c3
  simp only [qA, qZ, qS] at c3
  have hA := H4.at3.tAll
  go_wp2_with fail
  refine hA.mono ?_; rintro e w5 ⟨rfl, H5⟩
  clear hA c3 H4
  go_wp2_with fail
  go_ret
  exact ⟨rfl, v, (SepC.mb6 H5.bk3).tail⟩
end
end Go.Proofs.YtmbgepafpcbakaaGreatDoor
namespace Go.Proofs.YtmbgepafpcbakaaGreatDoor
open Go.RowKit Go.Maps
def gdL (dd gq mp q hp hb t n a m most : Nat) (L : List Int) (d : Gd) (v : Value) : List Th :=
 [blkT dd 144 (gdC gq mp q t v), ownT (numE .i64) 3 v d.l, stT q hp hb n a m d.s, tlbT t most d.T, mapT mp L, blkT gq 169 (guC mp hp)]
def gdT (dd gq mp q hp hb t n a m most : Nat) (L : List Int) (d : Gd) : Th := packT (GdIn n a m L d) (gdL dd gq mp q hp hb t n a m most L d)
section
variable {w0 w w' : World} {dd gq mp q hp hb t n a m most : Nat} {L : List Int} {v : Value} {s : Sr} {T : List Ht} {ll : List Int} {l : List Th} {d : Gd}
theorem SepC.gO (H : SepC w0 w (gdT dd gq mp q hp hb t n a m most L (d) :: l)) : GdIn n a m L d ∧ ∃ v, SepC w0 w (blkT dd 144 (gdC gq mp q t (v)) :: ownT (numE .i64) 3 (v) ((d).l) :: stT q hp hb n a m ((d).s) :: tlbT t most ((d).T) :: mapT mp L :: blkT gq 169 (guC mp hp) :: l) := H.open_
theorem SepC.gC (G : GdIn n a m L d) (H : SepC w0 w (blkT dd 144 (gdC gq mp q t (v)) :: ownT (numE .i64) 3 (v) ((d).l) :: stT q hp hb n a m ((d).s) :: tlbT t most ((d).T) :: mapT mp L :: blkT gq 169 (guC mp hp) :: l)) : SepC w0 w (gdT dd gq mp q hp hb t n a m most L (d) :: l) := H.shut (F := gdL dd gq mp q hp hb t n a m most L d) G v
theorem SepC.gIn (H : SepC w0 w (gdT dd gq mp q hp hb t n a m most L (d) :: l)) : GdIn n a m L d := H.open_.1
theorem SepC.kMake (H : SepC w0 w (gdT dd gq mp q hp hb t n a m most L (d) :: l)) (k : Ky) : Calls Tryz.prog 157 #[.pointer (some ⟨dd, 0, none⟩), .agg k.cs] w fun e w' => e = .returned (.tuple #[.int .i64 (makeGV n L d k), .bool (makeGB n L d k)]) ∧ SepC w0 w' (gdT dd gq mp q hp hb t n a m most L (makeG n L d k) :: l) := by
 obtain ⟨G, v, H1⟩ := H.gO
 exact (H1.gMake G k).mono fun _ _ ⟨he, _, H2⟩ => ⟨he, H2.gC (G.make k)⟩
theorem SepC.kDrop (H : SepC w0 w (gdT dd gq mp q hp hb t n a m most L (d) :: l)) (p : Int) (hp' : i64B p) : Calls Tryz.prog 65 #[.pointer (some ⟨dd, 0, none⟩), .int .i64 p] w fun e w' => e = .returned (.bool (dropB d.s p)) ∧ SepC w0 w' (gdT dd gq mp q hp hb t n a m most L (dropG d p) :: l) := by
 obtain ⟨G, v, H1⟩ := H.gO
 exact (H1.gDrop G p hp').mono fun _ _ ⟨he, _, H2⟩ => ⟨he, H2.gC (G.drop p)⟩
theorem SepC.kZap (H : SepC w0 w (gdT dd gq mp q hp hb t n a m most L (d) :: l)) (p i : Int) (hp' : i64B p) : Calls Tryz.prog 115 #[.pointer (some ⟨dd, 0, none⟩), .int .i64 p, .int .i64 i] w fun e w' => e = .returned (.bool (clearB d.s p i)) ∧ SepC w0 w' (gdT dd gq mp q hp hb t n a m most L (zapG n d p i) :: l) := by
 obtain ⟨G, v, H1⟩ := H.gO
 exact (H1.gZap p i hp').mono fun _ _ ⟨he, H2⟩ => ⟨he, H2.gC (G.zap p i)⟩
theorem SepC.kWord (H : SepC w0 w (gdT dd gq mp q hp hb t n a m most L (d) :: l)) (g i : Int) : Calls Tryz.prog 66 #[.pointer (some ⟨dd, 0, none⟩), .int .i64 g, .int .i64 i] w fun e w' => e = .returned (.tuple #[]) ∧ SepC w0 w' (gdT dd gq mp q hp hb t n a m most L (wordG n d g i) :: l) := by
 obtain ⟨G, v, H1⟩ := H.gO
 exact (H1.gWord G.ok.sr g i).mono fun _ _ ⟨he, H2⟩ => ⟨he, H2.gC (G.word g i)⟩
theorem SepC.kLoosen (H : SepC w0 w (gdT dd gq mp q hp hb t n a m most L (d) :: l)) (g : Int) (hg : i64B g) : Calls Tryz.prog 63 #[.pointer (some ⟨dd, 0, none⟩), .int .i64 g] w fun e w' => e = .returned (.bool (loosenB d g)) ∧ SepC w0 w' (gdT dd gq mp q hp hb t n a m most L (loosenG d g) :: l) := by
 obtain ⟨G, v, H1⟩ := H.gO
 exact (H1.gLoosen G g).mono fun _ _ ⟨he, _, H2⟩ => ⟨he, H2.gC (G.loosen hg)⟩
theorem SepC.kLook (H : SepC w0 w (gdT dd gq mp q hp hb t n a m most L (d) :: l)) (g : Int) : Calls Tryz.prog 67 #[.pointer (some ⟨dd, 0, none⟩), .int .i64 g] w fun e w' => e = .returned (.bool (looseB d g)) ∧ SepC w0 w' (gdT dd gq mp q hp hb t n a m most L (lookG n L d g) :: l) := by
 obtain ⟨G, v, H1⟩ := H.gO
 exact (H1.gLook G g).mono fun _ _ ⟨he, _, H2⟩ => ⟨he, H2.gC (G.look g)⟩
theorem SepC.kAll (H : SepC w0 w (gdT dd gq mp q hp hb t n a m most L (d) :: l))  : Calls Tryz.prog 64 #[.pointer (some ⟨dd, 0, none⟩)] w fun e w' => e = .returned (.tuple #[]) ∧ SepC w0 w' (gdT dd gq mp q hp hb t n a m most L (looksG n L d) :: l) := by
 obtain ⟨G, v, H1⟩ := H.gO
 exact (H1.gAll G).mono fun _ _ ⟨he, _, H2⟩ => ⟨he, H2.gC (GdIn.looks _ G)⟩
theorem SepC.kProt (H : SepC w0 w (gdT dd gq mp q hp hb t n a m most L (d) :: l)) (g : Int) : Calls Tryz.prog 40 #[.pointer (some ⟨dd, 0, none⟩), .int .i64 g] w fun e w' => e = .returned (.bool (protB d g)) ∧ SepC w0 w' (gdT dd gq mp q hp hb t n a m most L (d) :: l) := by
 obtain ⟨G, v, H1⟩ := H.gO
 exact (H1.gProt g).mono fun _ _ ⟨he, H2⟩ => ⟨he, H2.gC (G)⟩
theorem SepC.kReach (H : SepC w0 w (gdT dd gq mp q hp hb t n a m most L (d) :: l)) (root p i : Int) : Calls Tryz.prog 216 #[.pointer (some ⟨dd, 0, none⟩), .int .i64 root, .int .i64 p, .int .i64 i] w fun e w' => ∃ A c, e = .returned (.slice A (reachP d.s.L root p i).length c) ∧ SepC w0 w' (ownT (numE .i64) 3 (.slice A (reachP d.s.L root p i).length c) (reachP d.s.L root p i) :: gdT dd gq mp q hp hb t n a m most L (d) :: l) := by
 obtain ⟨G, v, H1⟩ := H.gO
 exact (H1.gReach root p i).mono fun _ _ ⟨A, c, he, H2⟩ => ⟨A, c, he, ((SepC.mv6 H2).gC G).swap⟩
theorem SepC.kChild (H : SepC w0 w (gdT dd gq mp q hp hb t n a m most L (d) :: l)) (p i c : Int) (r : Rg) (hp' : i64B p) (hc' : i64B c) : Calls Tryz.prog 162 #[.pointer (some ⟨q, 0, none⟩), .int .i64 p, .int .i64 i, .int .i64 c, .agg r.cs] w fun e w' => e = .returned (.bool (childB d.s p i c)) ∧ SepC w0 w' (gdT dd gq mp q hp hb t n a m most L (⟨childS n d.s p i c r, d.T, d.l⟩) :: l) := by
 obtain ⟨G, v, H1⟩ := H.gO
 exact (H1.at2.sChild p i c r hp' hc').mono fun _ _ ⟨he, H2⟩ => ⟨he, SepC.gC (d := ⟨childS n d.s p i c r, d.T, d.l⟩) (G.child p i c r) H2.bk2⟩
theorem SepC.kLeaf (H : SepC w0 w (gdT dd gq mp q hp hb t n a m most L (d) :: l)) (p i g x : Int) (r : Rg) (hp' : i64B p) : Calls Tryz.prog 165 #[.pointer (some ⟨q, 0, none⟩), .int .i64 p, .int .i64 i, .int .i64 g, .int .i64 x, .agg r.cs] w fun e w' => e = .returned (.bool (leafB n d.s p i x)) ∧ SepC w0 w' (gdT dd gq mp q hp hb t n a m most L (⟨leafS n d.s p i g x r, d.T, d.l⟩) :: l) := by
 obtain ⟨G, v, H1⟩ := H.gO
 exact (H1.at2.sLeaf p i g x r hp').mono fun _ _ ⟨he, H2⟩ => ⟨he, SepC.gC (d := ⟨leafS n d.s p i g x r, d.T, d.l⟩) (G.leaf p i g x r) H2.bk2⟩
theorem SepC.kSet (H : SepC w0 w (gdT dd gq mp q hp hb t n a m most L (d) :: l)) (g i x : Int) (hx : 0 ≤ x ∧ x < 18446744073709551616) : Calls Tryz.prog 52 #[.pointer (some ⟨gq, 0, none⟩), .int .i64 g, .int .i64 i, .int .u64 x] w fun e w' => e = .returned (.bool (hasG n L g i)) ∧ SepC w0 w' (gdT dd gq mp q hp hb t n a m most L (⟨setGd n L d.s g i x, d.T, d.l⟩) :: l) := by
 obtain ⟨G, v, H1⟩ := H.gO
 exact (H1.gSet G.ok.map G.ok.ap g i x).mono fun _ _ ⟨he, H2⟩ => ⟨he, SepC.gC (d := ⟨setGd n L d.s g i x, d.T, d.l⟩) (G.guest g i x hx) H2⟩
theorem SepC.kGet (H : SepC w0 w (gdT dd gq mp q hp hb t n a m most L (d) :: l)) (g i : Int) : Calls Tryz.prog 153 #[.pointer (some ⟨gq, 0, none⟩), .int .i64 g, .int .i64 i] w fun e w' => e = .returned (.tuple #[.int .u64 (getG n d.s.W L g i), .bool (hasG n L g i)]) ∧ w = w' := by
 obtain ⟨G, v, H1⟩ := H.gO
 exact H1.gGet G.ok.map g i
theorem SepC.kSlot (H : SepC w0 w (gdT dd gq mp q hp hb t n a m most L (d) :: l)) (p i : Int) (hp' : i64B p) : Calls Tryz.prog 44 #[.pointer (some ⟨q, 0, none⟩), .int .i64 p, .int .i64 i] w fun e w' => e = .returned (.tuple #[.agg (slotV d.s.L p i).cl.toArray, .bool (slotP d.s.L p i).isSome]) ∧ Chg [] w w' := by
 obtain ⟨G, v, H1⟩ := H.gO
 exact H1.at2.sSlot p i hp'
theorem SepC.kKey (H : SepC w0 w (gdT dd gq mp q hp hb t n a m most L (d) :: l)) (p : Int) (hp' : i64B p) : Calls Tryz.prog 43 #[.pointer (some ⟨q, 0, none⟩), .int .i64 p] w fun e w' => e = .returned (.tuple #[.agg (keyV d.s.L p).cs, .bool (pgAt d.s.L p).isSome]) ∧ Chg [] w w' := by
 obtain ⟨G, v, H1⟩ := H.gO
 exact H1.at2.sKey p hp'
theorem SepC.kFind (H : SepC w0 w (gdT dd gq mp q hp hb t n a m most L (d) :: l)) (k : Ky) : Calls Tryz.prog 38 #[.pointer (some ⟨q, 0, none⟩), .agg k.cs] w fun e w' => e = .returned (.tuple #[.int .i64 (findV d.s.L k), .bool (pgOf d.s.L k).isSome]) ∧ Chg [] w w' := by
 obtain ⟨G, v, H1⟩ := H.gO
 exact H1.at2.sFind k
theorem SepC.kPages (H : SepC w0 w (gdT dd gq mp q hp hb t n a m most L (d) :: l))  : Calls Tryz.prog 23 #[.pointer (some ⟨q, 0, none⟩)] w fun e w' => ∃ A c, e = .returned (.slice A (d.s.L.map Pg.f).length c) ∧ SepC w0 w' (ownT (numE .i64) 3 (.slice A (d.s.L.map Pg.f).length c) (d.s.L.map Pg.f) :: gdT dd gq mp q hp hb t n a m most L (d) :: l) := by
 obtain ⟨G, v, H1⟩ := H.gO
 exact (H1.at2.sAll).mono fun _ _ ⟨A, c, he, H2⟩ => ⟨A, c, he, ((SepC.mv6 (((H2.pick 3 rfl).pick 3 rfl).pick 2 rfl)).gC G).swap⟩
theorem SepC.kMem (H : SepC w0 w (gdT dd gq mp q hp hb t n a m most L (d) :: l)) : MemAt w hp hb n d.s.W := by
 obtain ⟨G, v, H1⟩ := H.gO
 exact H1.at2.smem
end
end Go.Proofs.YtmbgepafpcbakaaGreatDoor
