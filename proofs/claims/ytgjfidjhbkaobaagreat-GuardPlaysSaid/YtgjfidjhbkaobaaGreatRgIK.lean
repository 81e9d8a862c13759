/-
 The document's Loosen.
-/
import Derived.Test.YtgjfidjhbkaobaaGreatGRaK
import Derived.Test.YtgjfidjhbkaobaaGreatGD2K
import Derived.Deep.CutRange
namespace Go.Proofs.YtgjfidjhbkaobaaGreat
open Go.RowKit Go.Maps Go.Shelf
section
variable {w0 w w' : World} {dd gq mp q rp rb t n a m most : Nat} {L : List Int} {v : Value} {s : Sr} {T : List Ht} {ll : List Int} {l : List Th} {d : Gd}
set_option maxRecDepth 100000 in
set_option maxHeartbeats 8000000 in
theorem SepC.rgLoosen (H : SepC w0 w (blkT dd 99 (gdC gq mp q t (v)) :: ownT (numE .i64) 3 (v) ((d).l) :: rstT q rp rb n a m ((d).s) :: rtlbT t most ((d).T) :: rmapT mp L :: blkT gq 147 (rguC mp rp) :: l)) (G : GdIn n a m L d) (g : Int) : Calls Tryz.prog 58 #[.pointer (some ⟨dd, 0, none⟩), .int .i64 g] w fun e w' => e = .returned (.bool (loosenB d g)) ∧ ∃ v', SepC w0 w' (blkT dd 99 (gdC gq mp q t (v')) :: ownT (numE .i64) 3 (v') ((loosenG d g).l) :: rstT q rp rb n a m ((loosenG d g).s) :: rtlbT t most ((loosenG d g).T) :: rmapT mp L :: blkT gq 147 (rguC mp rp) :: l) := by
 have hOf := H.at2.rOf g
 have hLo := fun {z : World} {l' : List Th} (H' : SepC w0 z (blkT dd 99 (gdC gq mp q t (v)) :: ownT (numE .i64) 3 (v) ((d).l) :: rstT q rp rb n a m ((d).s) :: rtlbT t most ((d).T) :: rmapT mp L :: blkT gq 147 (rguC mp rp) :: l')) => H'.rgLoose g
 have hlen := G.len
 have hlg : loosenG d g = if loosenB d g then ⟨d.s, d.T, d.l ++ [g]⟩ else d := rfl
 rw [hlg]
 rw [loosen_is]
 clear hlg
 rw [show looseB d g = d.l.contains g from rfl]
 have c2 := H.blk.cell 2
 unfold gdC at c2
 simp only [qA, qZ, qS] at c2
 generalize ofP d.s.L g = P at *
 clear G
 obtain ⟨N, hN⟩ : ∃ N, P.length = N := ⟨_, rfl⟩
 rw [hN] at hOf
 generalize d.l.contains g = lo at *
 cases lo
 ·by_cases h1 : N = 1
  ·obtain ⟨p, rfl⟩ := List.length_eq_one_iff.1 (hN.trans h1)
   subst h1
   clear hN
   simp only [Bool.not_false, Bool.true_and, oneB]
   have cK := fun {z : World} {l' : List Th} (H' : SepC w0 z (rstT q rp rb n a m d.s :: l')) => H'.rKey p
   have cA := fun {z : World} {l' : List Th} (H' : SepC w0 z (rstT q rp rb n a m d.s :: l')) => H'.rParents p
   have cB := fun {z : World} {l' : List Th} (H' : SepC w0 z (rstT q rp rb n a m d.s :: l')) => H'.rParents (abV d.s.L p)
   unfold sgB
   have hb2 : abB d.s.L (abV d.s.L p) = decide ((toldP 1 (abV d.s.L p) d.s.L).length = 1) := rfl
   rw [hb2]
   clear hb2
   have hab : abV d.s.L p = oneV (toldP 1 p d.s.L) := rfl
   have hb1 : abB d.s.L p = decide ((toldP 1 p d.s.L).length = 1) := rfl
   rw [hb1]
   clear hb1
   generalize abV d.s.L p = v1 at *
   generalize toldP 1 v1 d.s.L = P2 at *
   generalize toldP 1 p d.s.L = P1 at *
   generalize keyV d.s.L p = k at *
   obtain ⟨kg, kl, kr⟩ := k
   simp only [Ky.cs] at cK ⊢
   generalize (pgAt d.s.L p).isSome = is_ at *
   replace hab := Lib.hid hab
   obtain ⟨N1, hN1⟩ : ∃ N1, P1.length = N1 := ⟨_, rfl⟩
   rw [hN1] at cA ⊢
   obtain ⟨N2, hN2⟩ : ∃ N2, P2.length = N2 := ⟨_, rfl⟩
   rw [hN2] at cB ⊢
   replace hN1 := Lib.hid hN1; replace hN2 := Lib.hid hN2
   obtain ⟨cnd, hcnd⟩ : ∃ cnd, (decide (kl = 1) && (decide (N1 = 1) && decide (N2 = 1))) = cnd := ⟨_, rfl⟩
   rw [hcnd]
   replace hcnd := Lib.hid hcnd
   go_enter Tryz.func58, Tryz.ntmps58
   go_wp2_with fail
   refine hOf.mono ?_; rintro e w1 ⟨A0, c0, rfl, H1⟩
   clear hOf c2 H
   replace H1 : SepC w0 w1 (ownT (numE .i64) 3 (.slice A0 1 c0) [p] :: blkT dd 99 (gdC gq mp q t (v)) :: ownT (numE .i64) 3 (v) ((d).l) :: rstT q rp rb n a m ((d).s) :: rtlbT t most ((d).T) :: rmapT mp L :: blkT gq 147 (rguC mp rp) :: l) := ((H1.pick 3 rfl).pick 3 rfl).pick 2 rfl
   go_wp2_with fail
   refine (hLo H1.tail).mono ?_; rintro e w2 ⟨rfl, rfl⟩
   clear hLo
   replace H1 : SepC w0 w2 (ownT (numE .i64) 3 (.slice A0 1 c0) [p] :: blkT dd 99 (gdC gq mp q t (v)) :: ownT (numE .i64) 3 (v) ((d).l) :: rstT q rp rb n a m ((d).s) :: rtlbT t most ((d).T) :: rmapT mp L :: blkT gq 147 (rguC mp rp) :: l) := H1
   obtain ⟨b_, off, x', e_, _, hx, hat⟩ := SlN.get (H1.own.slg) (i := 0) (by omega)
   subst e_
   clear hx hat
   have hld := fun (z : World) (l' : List Th) (H' : SepC w0 z (ownT (numE .i64) 3 (.slice (some ⟨b_, off, none⟩) 1 c0) [p] :: l')) => (show z.cell? ⟨b_, off, none⟩ = some (.int .i64 p) from by
    obtain ⟨b2_, o2_, x2_, e2_, _, h2_, t2_⟩ := SlN.get (H'.own.slg) (i := 0) (by omega)
    cases e2_
    simp only [qZ, Option.some.injEq] at h2_
    subst h2_
    exact t2_)
   go_upto_region 4 with fail
   go_cut [6, 7] from 23 to 33 (fun xv iv wx => ∃ kb : Nat, xv = .pointer (some ⟨kb, 0, none⟩) ∧ iv = .bool is_ ∧ SepC w0 wx (blkT kb 33 #[.int .i64 kg, .int .i64 kl, .int .i64 kr] :: ownT (numE .i64) 3 (.slice (some ⟨b_, off, none⟩) 1 c0) [p] :: blkT dd 99 (gdC gq mp q t (v)) :: ownT (numE .i64) 3 (v) ((d).l) :: rstT q rp rb n a m ((d).s) :: rtlbT t most ((d).T) :: rmapT mp L :: blkT gq 147 (rguC mp rp) :: l))
   case first =>
    have H := H1
    have HH := H.new (Chg.refl [] w2).drew
    refine wp_region_noPanic ?_
    refine wp_region_held_drew (S := (fun w' => Chg [] w2 w')) (by kernel_rfl) ?_ (fun hHeld => ?_)
    ·exact (Chg.refl [] w2).drew
    (refine tk 0 24 ?_ ?_ ?_; rotate_left; · (intro w hSw; (try dsimp only at hSw); go_simp; (try with_reducible rfl)))
    (try simp only [Act.put, qI, qO, qU])
    (refine tk 1 25 ?_ ?_ ?_; rotate_left; · (intro w hSw; (try dsimp only at hSw); go_simp; (try with_reducible rfl)))
    (try simp only [Act.put, qI, qO, qU])
    (refine tk 2 26 ?_ ?_ ?_; rotate_left; · (intro w hSw; (try dsimp only at hSw); go_simp; (try with_reducible rfl)))
    (try simp only [Act.put, qI, qO, qU])
    (refine tk 3 27 ?_ ?_ ?_; rotate_left; · (intro w hSw; (try dsimp only at hSw); have l1_ := hld _ _ (H1.new hSw); have l0_ := (H1.new hSw).at1.blk.cell 2; unfold gdC at l0_; simp only [qA, qZ, qS] at l0_; go_simp; (try with_reducible rfl)))
    (try simp only [Act.put, qI, qO, qU])
    (refine tk 4 28 ?_ ?_ ?_; rotate_left; · (intro w hSw; (try dsimp only at hSw); go_simp; (try with_reducible rfl)))
    (try simp only [Act.put, qI, qO, qU])
    (refine tk 5 29 ?_ ?_ ?_; rotate_left; · (intro w hSw; (try dsimp only at hSw); go_simp; (try with_reducible rfl)))
    (try simp only [Act.put, qI, qO, qU])
    (refine tk 6 30 ?_ ?_ ?_; rotate_left; · (intro w hSw; (try dsimp only at hSw); have l1_ := hld _ _ (H1.new hSw); have l0_ := (H1.new hSw).at1.blk.cell 2; unfold gdC at l0_; simp only [qA, qZ, qS] at l0_; go_simp; (try with_reducible rfl)))
    (try simp only [Act.put, qI, qO, qU])
    refine wpAnyH_ready (rs := [7, 11]) (by kernel_rfl) (by simp) ?_; refine AllReadyH.cons (o := _) rfl (fun K_ hK => ?_) (AllReadyH.cons (o := _) rfl (fun K_ hK => ?_) AllReadyH.nil)
    ·go_simp
     (go_at_call 103; refine (cK (HH.pick 3 rfl)).mono ?_; rintro e u1 ⟨rfl, y1⟩)
     refine hK.out _ _ (by (try dsimp only); exact hHeld.trans y1 (by simp)) (fun hHeld => ?_)
     clear hK K_
     (try simp only [Act.put, qI, qO, qU])
     replace HH := HH.new y1
     clear y1
     have hsb : w2.heap.size ≤ u1.heap.size := hHeld.size
     (refine tk 8 23 ?_ ?_ ?_; rotate_left; · (intro w hSw; go_simp; (try with_reducible rfl)))
     (try simp only [Act.put, qI, qO, qU])
     (refine tk 9 32 ?_ ?_ ?_; rotate_left; · (intro w hSw; go_simp; (try with_reducible rfl)))
     (try simp only [Act.put, qI, qO, qU])
     (refine tk 10 33 ?_ ?_ ?_; rotate_left; · (intro w hSw; go_simp; (try with_reducible rfl)))
     (try simp only [Act.put, qI, qO, qU])
     refine rdy 11 fun K_ hK => ?_
     go_simp
     refine hK.out _ _ (by (try dsimp only); exact hHeld.alloc _) (fun hHeld => ?_)
     clear hK K_
     (try simp only [Act.put, qI, qO, qU])
     replace HH := HH.alloc #[.int .i64 0, .int .i64 0, .int .i64 0] 33
     generalize u1.alloc (.cells #[.int .i64 0, .int .i64 0, .int .i64 0] 33) = u2 at *
     generalize u1.heap.size = sb at *
     have e0_ := HH.blk.cell 0; have f0_ := HH.blk.frozen 0
     have e1_ := HH.blk.cell 1; have f1_ := HH.blk.frozen 1
     have e2_ := HH.blk.cell 2; have f2_ := HH.blk.frozen 2
     simp only [qA, qZ, qS] at e0_ e1_ e2_
     have HH3 := (((HH).cellSet 0 (.int .i64 kg)).cellSet 1 (.int .i64 kl)).cellSet 2 (.int .i64 kr)
     simp only [qI, qO, qU] at HH3
     have hY : Chg [sb] u2 (((u2.setCell ⟨sb, 0, none⟩ (.int .i64 kg)).setCell ⟨sb, 1, none⟩ (.int .i64 kl)).setCell ⟨sb, 2, none⟩ (.int .i64 kr)) := ((((Chg.refl [sb] u2).setCell (p := ⟨sb, 0, none⟩) (by simp) _).setCell (p := ⟨sb, 1, none⟩) (by simp) _).setCell (p := ⟨sb, 2, none⟩) (by simp) _)
     refine rdy 12 fun K_ hK => ?_
     go_simp
     refine hK.out _ _ (by (try dsimp only); exact hHeld.trans hY (fun i hi hm => by simp at hm; omega)) (fun hHeld => ?_)
     clear hK K_
     (try simp only [Act.put, qI, qO, qU])
     clear e0_ f0_ e1_ f1_ e2_ f2_ hY HH hsb
     generalize (((u2.setCell ⟨sb, 0, none⟩ (.int .i64 kg)).setCell ⟨sb, 1, none⟩ (.int .i64 kl)).setCell ⟨sb, 2, none⟩ (.int .i64 kr)) = u3 at *
     (refine tk 13 7 ?_ ?_ ?_; rotate_left; · (intro w hSw; (try dsimp only at hSw); go_simp; (try with_reducible rfl)))
     (try simp only [Act.put, qI, qO, qU])
     refine wpAnyH_done (by kernel_rfl) ?_ _
     refine NoPanic.normal ?_
     clear hHeld H
     clear hld cK cA cB
     go_wp2_with fail
     go_meet
     exact ⟨sb, rfl, rfl, HH3⟩
    clear HH
    go_simp
    refine hK.out _ _ (by (try dsimp only); exact ((Chg.refl [] w2).alloc _).drew) (fun hHeld => ?_)
    clear hK K_
    (try simp only [Act.put, qI, qO, qU])
    have HH := (H.alloc #[.int .i64 0, .int .i64 0, .int .i64 0] 33).new (Chg.refl [] _).drew
    have hsb : w2.heap.size ≤ w2.heap.size := Nat.le_refl _
    generalize (w2.alloc (.cells #[.int .i64 0, .int .i64 0, .int .i64 0] 33)).drew = u1 at *
    generalize hsb_ : w2.heap.size = sb at hsb HH ⊢
    clear hsb
    have hsb : w2.heap.size ≤ sb := by omega
    refine rdy 7 fun K_ hK => ?_
    go_simp
    (go_at_call 103; refine (cK ((HH.tail).pick 3 rfl)).mono ?_; rintro e u2 ⟨rfl, y1⟩)
    refine hK.out _ _ (by (try dsimp only); exact hHeld.trans y1 (by simp)) (fun hHeld => ?_)
    clear hK K_
    (try simp only [Act.put, qI, qO, qU])
    replace HH := HH.new y1
    clear y1 hsb_
    (refine tk 8 23 ?_ ?_ ?_; rotate_left; · (intro w hSw; go_simp; (try with_reducible rfl)))
    (try simp only [Act.put, qI, qO, qU])
    (refine tk 9 32 ?_ ?_ ?_; rotate_left; · (intro w hSw; go_simp; (try with_reducible rfl)))
    (try simp only [Act.put, qI, qO, qU])
    (refine tk 10 33 ?_ ?_ ?_; rotate_left; · (intro w hSw; go_simp; (try with_reducible rfl)))
    (try simp only [Act.put, qI, qO, qU])
    have e0_ := HH.blk.cell 0; have f0_ := HH.blk.frozen 0
    have e1_ := HH.blk.cell 1; have f1_ := HH.blk.frozen 1
    have e2_ := HH.blk.cell 2; have f2_ := HH.blk.frozen 2
    simp only [qA, qZ, qS] at e0_ e1_ e2_
    have HH3 := (((HH).cellSet 0 (.int .i64 kg)).cellSet 1 (.int .i64 kl)).cellSet 2 (.int .i64 kr)
    simp only [qI, qO, qU] at HH3
    have hY : Chg [sb] u2 (((u2.setCell ⟨sb, 0, none⟩ (.int .i64 kg)).setCell ⟨sb, 1, none⟩ (.int .i64 kl)).setCell ⟨sb, 2, none⟩ (.int .i64 kr)) := ((((Chg.refl [sb] u2).setCell (p := ⟨sb, 0, none⟩) (by simp) _).setCell (p := ⟨sb, 1, none⟩) (by simp) _).setCell (p := ⟨sb, 2, none⟩) (by simp) _)
    refine rdy 12 fun K_ hK => ?_
    go_simp
    refine hK.out _ _ (by (try dsimp only); exact hHeld.trans hY (fun i hi hm => by simp at hm; omega)) (fun hHeld => ?_)
    clear hK K_
    (try simp only [Act.put, qI, qO, qU])
    clear e0_ f0_ e1_ f1_ e2_ f2_ hY HH hsb
    generalize (((u2.setCell ⟨sb, 0, none⟩ (.int .i64 kg)).setCell ⟨sb, 1, none⟩ (.int .i64 kl)).setCell ⟨sb, 2, none⟩ (.int .i64 kr)) = u3 at *
    (refine tk 13 7 ?_ ?_ ?_; rotate_left; · (intro w hSw; (try dsimp only at hSw); go_simp; (try with_reducible rfl)))
    (try simp only [Act.put, qI, qO, qU])
    refine wpAnyH_done (by kernel_rfl) ?_ _
    refine NoPanic.normal ?_
    clear hHeld H
    clear hld cK cA cB
    go_wp2_with fail
    go_meet
    exact ⟨sb, rfl, rfl, HH3⟩
   obtain ⟨kb, rfl, rfl, H3⟩ := hcut
   clear H1 cK
   go_upto_region 5 with fail
   have HH := H3.new (Chg.refl [] wc).drew
   clear H3
   refine wp_region_noPanic ?_
   refine wp_region_held_drew (S := (fun w' => w'.cell? ⟨dd, 2, none⟩ = some (.pointer (some ⟨q, 0, none⟩)) ∧ w'.cell? ⟨b_, off, none⟩ = some (.int .i64 p))) (by kernel_rfl) ?_ (fun hHeld => ?_)
   ·exact ⟨(by have l0_ := (HH.pick 2 rfl).blk.cell 2; unfold gdC at l0_; simpa only [qA, qZ, qS] using l0_), hld _ _ (HH.pick 1 rfl)⟩
   (refine tk 0 34 ?_ ?_ ?_; rotate_left; · (intro w hSw; go_simp; (try with_reducible rfl)))
   (try simp only [Act.put, qI, qO, qU])
   (refine tk 1 35 ?_ ?_ ?_; rotate_left; · (intro w hSw; go_simp; (try with_reducible rfl)))
   (try simp only [Act.put, qI, qO, qU])
   (refine tk 2 36 ?_ ?_ ?_; rotate_left; · (intro w hSw; go_simp; (try with_reducible rfl)))
   (try simp only [Act.put, qI, qO, qU])
   (refine tk 3 37 ?_ ?_ ?_; rotate_left; · (intro w hSw; (try dsimp only at hSw); obtain ⟨l0_, l1_⟩ := hSw; go_simp; (try with_reducible rfl)))
   (try simp only [Act.put, qI, qO, qU])
   (refine tk 4 38 ?_ ?_ ?_; rotate_left; · (intro w hSw; go_simp; (try with_reducible rfl)))
   (try simp only [Act.put, qI, qO, qU])
   (refine tk 5 39 ?_ ?_ ?_; rotate_left; · (intro w hSw; go_simp; (try with_reducible rfl)))
   (try simp only [Act.put, qI, qO, qU])
   (refine tk 6 40 ?_ ?_ ?_; rotate_left; · (intro w hSw; (try dsimp only at hSw); obtain ⟨l0_, l1_⟩ := hSw; go_simp; (try with_reducible rfl)))
   (try simp only [Act.put, qI, qO, qU])
   refine rdy 7 fun K hK => ?_
   go_simp
   (go_at_call 104; refine (cA (HH.pick 4 rfl)).mono ?_; rintro e u1 ⟨A1, c1, rfl, HH5⟩)
   refine hK.out _ _ (by (try dsimp only); exact ⟨(by have l0_ := (HH5.pick 4 rfl).blk.cell 2; unfold gdC at l0_; simpa only [qA, qZ, qS] using l0_), hld _ _ (HH5.pick 3 rfl)⟩) (fun hHeld => ?_)
   clear hK K
   (try simp only [Act.put, qI, qO, qU])
   (refine tk 8 8 ?_ ?_ ?_; rotate_left; · (intro w hSw; go_simp; (try with_reducible rfl)))
   (try simp only [Act.put, qI, qO, qU])
   refine wpAnyH_done (by kernel_rfl) ?_ _
   refine NoPanic.normal ?_
   clear cA hHeld HH hld
   go_upto_region 6 with fail
   by_cases hk1 : kl = 1
   rotate_left
   ·have ec : cnd = false := by rw [← hcnd.out, decide_eq_false hk1, Bool.false_and]
    subst ec
    have hkn : (kl != 1) = true := by simpa using hk1
    replace hk1 := Lib.hid hk1
    have HX := HH5.new (Chg.refl [] u1).drew
    refine wp_region_noPanic ?_
    refine wp_region_held_drew (S := (fun w' => w'.cell? ⟨kb, 1, none⟩ = some (.int .i64 kl))) (by kernel_rfl) ?_ (fun hHeld => ?_)
    ·exact (by have l0_ := (HX.pick 2 rfl).blk.cell 1; simpa only [qA, qZ, qS] using l0_)
    (refine tk 0 42 ?_ ?_ ?_; rotate_left; · (intro w hSw; go_simp; (try with_reducible rfl)))
    (try simp only [Act.put, qI, qO, qU])
    (refine tk 1 43 ?_ ?_ ?_; rotate_left; · (intro w hSw; (try dsimp only at hSw); go_simp; (try with_reducible rfl)))
    (try simp only [Act.put, qI, qO, qU])
    (refine tk 2 44 ?_ ?_ ?_; rotate_left; · (intro w hSw; go_simp; (try with_reducible rfl)))
    (try simp only [Act.put, qI, qO, qU])
    (refine tk 3 45 ?_ ?_ ?_; rotate_left; · (intro w hSw; go_simp; (try with_reducible rfl)))
    (try simp only [Act.put, qI, qO, qU])
    (refine tko 4 46 ?_)
    (try simp only [Act.put, qI, qO, qU])
    (refine tko 5 47 ?_)
    (try simp only [Act.put, qI, qO, qU])
    (refine tko 6 48 ?_)
    (try simp only [Act.put, qI, qO, qU])
    (refine tk 7 49 ?_ ?_ ?_; rotate_left; · (intro w hSw; go_simp; (try with_reducible rfl)))
    (try simp only [Act.put, qI, qO, qU])
    (refine tk 8 50 ?_ ?_ ?_; rotate_left; · (intro w hSw; go_simp; (try with_reducible rfl)))
    (try simp only [Act.put, qI, qO, qU])
    (refine tko 9 51 ?_)
    (try simp only [Act.put, qI, qO, qU])
    (refine tko 10 52 ?_)
    (try simp only [Act.put, qI, qO, qU])
    (refine tko 11 53 ?_)
    (try simp only [Act.put, qI, qO, qU])
    (refine tko 12 54 ?_)
    (try simp only [Act.put, qI, qO, qU])
    (refine tko 13 55 ?_)
    (try simp only [Act.put, qI, qO, qU])
    (refine tko 14 56 ?_)
    (try simp only [Act.put, qI, qO, qU])
    (refine tko 15 57 ?_)
    (try simp only [Act.put, qI, qO, qU])
    (refine tko 16 58 ?_)
    (try simp only [Act.put, qI, qO, qU])
    (refine tko 17 59 ?_)
    (try simp only [Act.put, qI, qO, qU])
    (refine tko 18 60 ?_)
    (try simp only [Act.put, qI, qO, qU])
    (refine tko 19 61 ?_)
    (try simp only [Act.put, qI, qO, qU])
    (refine tk 20 62 ?_ ?_ ?_; rotate_left; · (intro w hSw; go_simp; (try with_reducible rfl)))
    (try simp only [Act.put, qI, qO, qU])
    refine wpAnyH_done (by kernel_rfl) ?_ _
    refine NoPanic.normal ?_
    go_wp2_with fail
    go_ret
    exact ⟨rfl, v, ((((HX.tail).pick 1 rfl).tail.pick 1 rfl).tail).bk2⟩
   subst hk1
   have hkn : ((1 : Int) != 1) = false := rfl
   by_cases hn1 : N1 = 1
   rotate_left
   ·have ec : cnd = false := by rw [← hcnd.out, decide_eq_false hn1]; simp
    subst ec
    have hnn : ((N1 : Int) != 1) = true := by simp; omega
    replace hn1 := Lib.hid hn1
    have HX := HH5.new (Chg.refl [] u1).drew
    refine wp_region_noPanic ?_
    refine wp_region_held_drew (S := (fun w' => w'.cell? ⟨kb, 1, none⟩ = some (.int .i64 1))) (by kernel_rfl) ?_ (fun hHeld => ?_)
    ·exact (by have l0_ := (HX.pick 2 rfl).blk.cell 1; simpa only [qA, qZ, qS] using l0_)
    (refine tk 0 42 ?_ ?_ ?_; rotate_left; · (intro w hSw; go_simp; (try with_reducible rfl)))
    (try simp only [Act.put, qI, qO, qU])
    (refine tk 1 43 ?_ ?_ ?_; rotate_left; · (intro w hSw; (try dsimp only at hSw); go_simp; (try with_reducible rfl)))
    (try simp only [Act.put, qI, qO, qU])
    (refine tk 2 44 ?_ ?_ ?_; rotate_left; · (intro w hSw; go_simp; (try with_reducible rfl)))
    (try simp only [Act.put, qI, qO, qU])
    (refine tk 3 45 ?_ ?_ ?_; rotate_left; · (intro w hSw; go_simp; (try with_reducible rfl)))
    (try simp only [Act.put, qI, qO, qU])
    (refine tk 4 46 ?_ ?_ ?_; rotate_left; · (intro w hSw; go_simp; (try with_reducible rfl)))
    (try simp only [Act.put, qI, qO, qU])
    (refine tk 5 47 ?_ ?_ ?_; rotate_left; · (intro w hSw; go_simp; (try with_reducible rfl)))
    (try simp only [Act.put, qI, qO, qU])
    (refine tk 6 48 ?_ ?_ ?_; rotate_left; · (intro w hSw; go_simp; (try with_reducible rfl)))
    (try simp only [Act.put, qI, qO, qU])
    (refine tk 7 49 ?_ ?_ ?_; rotate_left; · (intro w hSw; go_simp; (try with_reducible rfl)))
    (try simp only [Act.put, qI, qO, qU])
    (refine tk 8 50 ?_ ?_ ?_; rotate_left; · (intro w hSw; go_simp; (try with_reducible rfl)))
    (try simp only [Act.put, qI, qO, qU])
    (refine tko 9 51 ?_)
    (try simp only [Act.put, qI, qO, qU])
    (refine tko 10 52 ?_)
    (try simp only [Act.put, qI, qO, qU])
    (refine tko 11 53 ?_)
    (try simp only [Act.put, qI, qO, qU])
    (refine tko 12 54 ?_)
    (try simp only [Act.put, qI, qO, qU])
    (refine tko 13 55 ?_)
    (try simp only [Act.put, qI, qO, qU])
    (refine tko 14 56 ?_)
    (try simp only [Act.put, qI, qO, qU])
    (refine tko 15 57 ?_)
    (try simp only [Act.put, qI, qO, qU])
    (refine tko 16 58 ?_)
    (try simp only [Act.put, qI, qO, qU])
    (refine tko 17 59 ?_)
    (try simp only [Act.put, qI, qO, qU])
    (refine tko 18 60 ?_)
    (try simp only [Act.put, qI, qO, qU])
    (refine tko 19 61 ?_)
    (try simp only [Act.put, qI, qO, qU])
    (refine tk 20 62 ?_ ?_ ?_; rotate_left; · (intro w hSw; go_simp; (try with_reducible rfl)))
    (try simp only [Act.put, qI, qO, qU])
    refine wpAnyH_done (by kernel_rfl) ?_ _
    refine NoPanic.normal ?_
    go_wp2_with fail
    go_ret
    exact ⟨rfl, v, ((((HX.tail).pick 1 rfl).tail.pick 1 rfl).tail).bk2⟩
   subst hn1
   obtain ⟨x, rfl⟩ := List.length_eq_one_iff.1 hN1.out
   have e1 : v1 = x.1 := hab.out
   subst e1
   clear hab hN1
   obtain ⟨b3, o3, x3, e3, _, hx3, hat3⟩ := HH5.own.slg.get (k := 0) (by omega)
   subst e3
   clear hx3 hat3
   have hl3 := fun (z : World) (l' : List Th) (H' : SepC w0 z (ownT atE 153 (.slice (some ⟨b3, o3, none⟩) 1 c1) [x] :: l')) => (show z.cell? ⟨b3, o3, none⟩ = some (.int .i64 x.1) from by
    obtain ⟨b2_, o2_, x2_, e2_, _, h2_, t2_⟩ := H'.own.slg.get (k := 0) (by omega)
    cases e2_
    simp only [qZ, Option.some.injEq] at h2_
    subst h2_
    obtain ⟨y0_, _⟩ := atE_cells t2_
    simpa only [Nat.zero_mul, Nat.add_zero] using y0_)
   have HX := HH5.new (Chg.refl [] u1).drew
   clear HH5
   obtain ⟨nb, hnb⟩ : ∃ nb, ((N2 : Int) != 1) = nb := ⟨_, rfl⟩
   refine wp_region_noPanic ?_
   refine wp_region_held_drew (S := (fun w' => (w'.cell? ⟨kb, 1, none⟩ = some (.int .i64 1)) ∧ w'.cell? ⟨dd, 2, none⟩ = some (.pointer (some ⟨q, 0, none⟩)) ∧ w'.cell? ⟨b3, o3, none⟩ = some (.int .i64 x.1))) (by kernel_rfl) ?_ (fun hHeld => ?_)
   ·exact ⟨(by have l0_ := (HX.pick 2 rfl).blk.cell 1; simpa only [qA, qZ, qS] using l0_), (by have l0_ := (HX.pick 4 rfl).blk.cell 2; unfold gdC at l0_; simpa only [qA, qZ, qS] using l0_), hl3 _ _ HX⟩
   (refine tk 0 42 ?_ ?_ ?_; rotate_left; · (intro w hSw; go_simp; (try with_reducible rfl)))
   (try simp only [Act.put, qI, qO, qU])
   (refine tk 1 43 ?_ ?_ ?_; rotate_left; · (intro w hSw; (try dsimp only at hSw); obtain ⟨l0_, l1_, l2_⟩ := hSw; go_simp; (try with_reducible rfl)))
   (try simp only [Act.put, qI, qO, qU])
   (refine tk 2 44 ?_ ?_ ?_; rotate_left; · (intro w hSw; go_simp; (try with_reducible rfl)))
   (try simp only [Act.put, qI, qO, qU])
   (refine tk 3 45 ?_ ?_ ?_; rotate_left; · (intro w hSw; go_simp; (try with_reducible rfl)))
   (try simp only [Act.put, qI, qO, qU])
   (refine tk 4 46 ?_ ?_ ?_; rotate_left; · (intro w hSw; go_simp; (try with_reducible rfl)))
   (try simp only [Act.put, qI, qO, qU])
   (refine tk 5 47 ?_ ?_ ?_; rotate_left; · (intro w hSw; go_simp; (try with_reducible rfl)))
   (try simp only [Act.put, qI, qO, qU])
   (refine tk 6 48 ?_ ?_ ?_; rotate_left; · (intro w hSw; go_simp; (try with_reducible rfl)))
   (try simp only [Act.put, qI, qO, qU])
   (refine tk 7 49 ?_ ?_ ?_; rotate_left; · (intro w hSw; go_simp; (try with_reducible rfl)))
   (try simp only [Act.put, qI, qO, qU])
   (refine tk 8 50 ?_ ?_ ?_; rotate_left; · (intro w hSw; go_simp; (try with_reducible rfl)))
   (try simp only [Act.put, qI, qO, qU])
   (refine tk 9 51 ?_ ?_ ?_; rotate_left; · (intro w hSw; go_simp; (try with_reducible rfl)))
   (try simp only [Act.put, qI, qO, qU])
   (refine tk 10 52 ?_ ?_ ?_; rotate_left; · (intro w hSw; go_simp; (try with_reducible rfl)))
   (try simp only [Act.put, qI, qO, qU])
   (refine tk 11 53 ?_ ?_ ?_; rotate_left; · (intro w hSw; go_simp; (try with_reducible rfl)))
   (try simp only [Act.put, qI, qO, qU])
   (refine tk 12 54 ?_ ?_ ?_; rotate_left; · (intro w hSw; (try dsimp only at hSw); obtain ⟨l0_, l1_, l2_⟩ := hSw; go_simp; (try with_reducible rfl)))
   (try simp only [Act.put, qI, qO, qU])
   (refine tk 13 55 ?_ ?_ ?_; rotate_left; · (intro w hSw; go_simp; (try with_reducible rfl)))
   (try simp only [Act.put, qI, qO, qU])
   (refine tk 14 56 ?_ ?_ ?_; rotate_left; · (intro w hSw; go_simp; (try with_reducible rfl)))
   (try simp only [Act.put, qI, qO, qU])
   (refine tk 15 57 ?_ ?_ ?_; rotate_left; · (intro w hSw; go_simp; (try with_reducible rfl)))
   (try simp only [Act.put, qI, qO, qU])
   (refine tk 16 58 ?_ ?_ ?_; rotate_left; · (intro w hSw; (try dsimp only at hSw); obtain ⟨l0_, l1_, l2_⟩ := hSw; go_simp; (try with_reducible rfl)))
   (try simp only [Act.put, qI, qO, qU])
   refine rdy 17 fun K hK => ?_
   go_simp
   (go_at_call 104; refine (cB (HX.pick 1 rfl)).mono ?_; rintro e u2 ⟨A2, c2, rfl, HY⟩)
   refine hK.out _ _ (by (try dsimp only); exact ⟨(by have l0_ := (HY.pick 3 rfl).blk.cell 1; simpa only [qA, qZ, qS] using l0_), (by have l0_ := (HY.pick 5 rfl).blk.cell 2; unfold gdC at l0_; simpa only [qA, qZ, qS] using l0_), hl3 _ _ (HY.pick 2 rfl)⟩) (fun hHeld => ?_)
   clear hK K
   (try simp only [Act.put, qI, qO, qU])
   (refine tk 18 60 ?_ ?_ ?_; rotate_left; · (intro w hSw; go_simp; (try with_reducible rfl)))
   (try simp only [Act.put, qI, qO, qU])
   (refine tk 19 61 ?_ ?_ ?_; rotate_left; · (intro w hSw; go_simp; (try with_reducible rfl)))
   (try simp only [Act.put, qI, qO, qU])
   (refine tk 20 62 ?_ ?_ ?_; rotate_left; · (intro w hSw; go_simp; (try with_reducible rfl)))
   (try simp only [Act.put, qI, qO, qU])
   refine wpAnyH_done (by kernel_rfl) ?_ _
   refine NoPanic.normal ?_
   clear hHeld HX hl3 cB
   have HZ : SepC w0 u2 (blkT dd 99 (gdC gq mp q t (v)) :: ownT (numE .i64) 3 (v) ((d).l) :: rstT q rp rb n a m ((d).s) :: rtlbT t most ((d).T) :: rmapT mp L :: blkT gq 147 (rguC mp rp) :: l) := by
    have h1 := (HY.tail.pick 1 rfl).tail
    have h2 := (h1.pick 1 rfl).tail
    have h3 := (h2.pick 1 rfl).tail
    exact h3.bk2
   clear HY
   by_cases hn2 : N2 = 1
   rotate_left
   ·have ec : cnd = false := by rw [← hcnd.out, decide_eq_false hn2]; simp
    subst ec
    have en : nb = true := by rw [← hnb]; simp; omega
    subst en
    replace hn2 := Lib.hid hn2
    replace hnb := Lib.hid hnb
    go_wp2_with fail
    go_ret
    exact ⟨rfl, v, HZ⟩
   have ec : cnd = true := by rw [← hcnd.out, hn2]; rfl
   subst ec
   have en : nb = false := by rw [← hnb, hn2]; rfl
   subst en
   replace hn2 := Lib.hid hn2
   replace hnb := Lib.hid hnb
   have ho := HZ.at1.own
   obtain ⟨A, c, ev, _, _⟩ := ho.form
   obtain ⟨k, hk⟩ : ∃ k, d.l.length = k := ⟨_, rfl⟩
   rw [hk] at ev hlen
   subst ev
   have ka := (Chg.refl [] u2).alloc (.cells #[] 3)
   have Ha : SepC w0 (u2.alloc (.cells #[] 3)) (ownT (numE .i64) 3 (.slice (some ⟨u2.heap.size, 0, none⟩) 0 0) [] :: blkT dd 99 (gdC gq mp q t (.slice A k c)) :: ownT (numE .i64) 3 (.slice A k c) ((d).l) :: rstT q rp rb n a m ((d).s) :: rtlbT t most ((d).T) :: rmapT mp L :: blkT gq 147 (rguC mp rp) :: l) := HZ.lay ka ⟨rfl, OwnG.lit (E := numE .i64) (L := []) (Blk.new u2 3 #[]) (by simp)⟩ (by simp [Value.ownBlock])
   have hown := Ha.own
   have c4 := (Ha.pick 1 rfl).blk.cell 4
   unfold gdC at c4
   simp only [qA, qZ, qS] at c4
   have hsrc : Src (u2.alloc (.cells #[] 3)) (numE .i64).k A k c ((numE .i64).all d.l) := (ho.new ka).src
   clear ho HZ
   replace hk := Lib.hid hk
   go_wp2_with (at_builtin; (first | ((refine wpList_append_G (E := numE .i64) rfl _ _ 56 rfl 3 (.int .i64 0) 8 Tryz.underlying56 int_info rfl (.slice (some ⟨u2.heap.size, 0, none⟩) 0 0) [] rfl hown A k c d.l rfl hsrc hk.out (by simp; omega) ?_); (intro v5 w5 ho5 hc5 hb5); (clear hown hsrc c4); (rw [List.nil_append] at ho5); (obtain ⟨A5, c5, rfl, _, _⟩ := ho5.form); (simp only [hk.out] at ho5 hb5 ⊢); (have H5 := Ha.app ho5 hc5 hb5); (clear Ha hc5 hb5); (have k5 := ((Chg.refl [] w5).alloc (.cells #[.int .i64 g] 3))); (have ho6 := ho5.new k5); (have H6 := H5.alloc #[.int .i64 g] 3); (have hsrc2 : Src (w5.alloc (.cells #[.int .i64 g] 3)) (numE .i64).k (some ⟨w5.heap.size, 0, none⟩) 1 1 ((numE .i64).all [g]) := (OwnG.lit (E := numE .i64) (L := [g]) (Blk.new w5 3 #[.int .i64 g]) (by simp)).src); (clear ho5 H5 k5)) | ((refine wpList_append_G (E := numE .i64) rfl _ _ 56 rfl 3 (.int .i64 0) 8 Tryz.underlying56 int_info rfl (.slice A5 k c5) d.l rfl ho6 (some ⟨w5.heap.size, 0, none⟩) 1 1 [g] rfl hsrc2 rfl (by rw [hk.out]; omega) ?_); (intro v7 w7 ho7 hc7 hb7); (have H7 := (H6.pick 1 rfl).app ho7 hc7 hb7); (clear ho6 hsrc2 H6); (obtain ⟨A7, c7, rfl, _, _⟩ := ho7.form); (have H8 := H7.pick 2 rfl); (have f4 := H8.blk.frozen 4); (have c4 := H8.blk.cell 4); (unfold gdC at c4); (simp only [qA, qZ, qS] at c4); (have H9 := H8.cellSet 4 (.slice A7 (d.l ++ [g]).length c7)); (clear H8 H7 ho7 hc7 hb7))))
   go_ret
   have el : (d.l ++ [g]).length = k + 1 := by rw [List.length_append, hk.out]; rfl
   rw [el] at H9
   rw [hk.out]
   exact ⟨rfl, .slice A7 (k + 1) c7, ((H9.pick 2 rfl).tail.pick 2 rfl).tail⟩
  rw [oneB_no (by omega)]
  simp only [Bool.and_false, Bool.false_eq_true, if_false]
  have hne : ((N : Int) != 1) = true := by simp; omega
  replace hN := Lib.hid hN; replace h1 := Lib.hid h1
  go_enter Tryz.func58, Tryz.ntmps58
  go_wp2_with fail
  refine hOf.mono ?_; rintro e w1 ⟨A0, c0, rfl, H1⟩
  clear hOf c2 H
  replace H1 : SepC w0 w1 (ownT (numE .i64) 3 (.slice A0 N c0) P :: blkT dd 99 (gdC gq mp q t (v)) :: ownT (numE .i64) 3 (v) ((d).l) :: rstT q rp rb n a m ((d).s) :: rtlbT t most ((d).T) :: rmapT mp L :: blkT gq 147 (rguC mp rp) :: l) := ((H1.pick 3 rfl).pick 3 rfl).pick 2 rfl
  go_wp2_with fail
  refine (hLo H1.tail).mono ?_; rintro e w2 ⟨rfl, rfl⟩
  clear hLo
  go_wp2_with fail
  go_ret
  exact ⟨rfl, v, H1.tail⟩
 simp only [Bool.not_true, Bool.false_and, Bool.false_eq_true, if_false]
 replace hN := Lib.hid hN
 go_enter Tryz.func58, Tryz.ntmps58
 go_wp2_with fail
 refine hOf.mono ?_; rintro e w1 ⟨A0, c0, rfl, H1⟩
 clear hOf c2 H
 replace H1 : SepC w0 w1 (ownT (numE .i64) 3 (.slice A0 N c0) P :: blkT dd 99 (gdC gq mp q t (v)) :: ownT (numE .i64) 3 (v) ((d).l) :: rstT q rp rb n a m ((d).s) :: rtlbT t most ((d).T) :: rmapT mp L :: blkT gq 147 (rguC mp rp) :: l) := ((H1.pick 3 rfl).pick 3 rfl).pick 2 rfl
 go_wp2_with fail
 refine (hLo H1.tail).mono ?_; rintro e w2 ⟨rfl, rfl⟩
 clear hLo
 go_wp2_with fail
 go_ret
 exact ⟨rfl, v, H1.tail⟩
end
end Go.Proofs.YtgjfidjhbkaobaaGreat
