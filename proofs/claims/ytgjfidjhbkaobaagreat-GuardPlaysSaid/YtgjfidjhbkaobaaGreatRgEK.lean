/-
 The document's Agrees, Look, All.
-/
import Derived.Test.YtgjfidjhbkaobaaGreatRgCK
import Derived.Test.YtgjfidjhbkaobaaGreatGRaK
import Derived.Deep.CutRange
namespace Go.Proofs.YtgjfidjhbkaobaaGreat
open Go.RowKit Go.Maps Go.Shelf
section
variable {w0 w w' : World} {dd gq mp q rp rb t n a m most : Nat} {L : List Int} {v : Value} {s : Sr} {T : List Ht} {ll : List Int} {l : List Th} {d : Gd}
set_option maxHeartbeats 4000000 in
theorem RAgr_any (x : Slt) (e : Ent) (w : World) : Calls Tryz.prog 107 #[.agg x.cl.toArray, .agg e.cs] w fun z w' => z = .returned (.bool (agreeB x e)) ∧ Chg [] w w' := by
 obtain ⟨xk, xt, ⟨xw, xu, xx⟩⟩ := x
 obtain ⟨ep, ew, eu, ea, ed, es, en, eb, ef⟩ := e
 unfold agreeB
 simp only [Slt.cl, Ent.cs]
 go_enter Tryz.func107, Tryz.ntmps107
 go_wp2_with fail
 all_goals (go_ret; refine ⟨?_, ((Chg.refl [] w).alloc _).alloc _⟩; simp_all; try (cases en <;> cases xx <;> simp_all))
set_option maxRecDepth 100000 in
set_option maxHeartbeats 8000000 in
theorem SepC.rgLook (H : SepC w0 w (blkT dd 99 (gdC gq mp q t (v)) :: ownT (numE .i64) 3 (v) ((d).l) :: rstT q rp rb n a m ((d).s) :: rtlbT t most ((d).T) :: rmapT mp L :: blkT gq 147 (rguC mp rp) :: l)) (G : GdIn n a m L d) (g : Int) : Calls Tryz.prog 59 #[.pointer (some ⟨dd, 0, none⟩), .int .i64 g] w fun e w' => e = .returned (.bool (looseB d g)) ∧ ∃ v', SepC w0 w' (blkT dd 99 (gdC gq mp q t (v')) :: ownT (numE .i64) 3 (v') ((lookG n L d g).l) :: rstT q rp rb n a m ((lookG n L d g).s) :: rtlbT t most ((lookG n L d g).T) :: rmapT mp L :: blkT gq 147 (rguC mp rp) :: l) := by
 have hLo := H.rgLoose g
 change Calls _ _ _ _ fun e w' => e = .returned (.bool (looseB d g)) ∧ w' = w at hLo
 cases hl : looseB d g
 ·rw [hl] at hLo
  have e : lookG n L d g = d := by unfold lookG; rw [hl]; rfl
  rw [e]
  clear e hl
  go_enter Tryz.func59, Tryz.ntmps59
  go_wp2_with fail
  refine hLo.mono ?_; rintro e w1 ⟨rfl, rfl⟩
  go_wp2_with fail
  go_ret
  exact ⟨rfl, v, H⟩
 rw [hl] at hLo
 have hT := H.rgTight g (by have := G.len; omega)
 have hLI := look_is G.ok hl
 have G1 := (G.tight g).forbid g
 have hok1 := G1.ok.sr
 have hof : ofP d.s.L g = ofP (forbidG L (tightG d g) g).s.L g := by unfold forbidG tightG; simp only [updS_L, of_upd]
 rw [hof] at hLI
 have hFo := fun {z : World} {v' : Value} (H' : SepC w0 z (blkT dd 99 (gdC gq mp q t (v')) :: ownT (numE .i64) 3 (v') ((tightG d g).l) :: rstT q rp rb n a m (d.s) :: rtlbT t most (d.T) :: rmapT mp L :: blkT gq 147 (rguC mp rp) :: l)) => H'.rgForbid G.ok.map G.ok.pos g
 have e1 : (⟨d.s, d.T, (tightG d g).l⟩ : Gd) = tightG d g := rfl
 rw [e1] at hFo
 change Calls _ _ _ _ fun e w' => e = .returned (.tuple #[]) ∧ ∃ v', SepC w0 w' (blkT dd 99 (gdC gq mp q t (v')) :: ownT (numE .i64) 3 (v') ((tightG d g).l) :: rstT q rp rb n a m (d.s) :: rtlbT t most (d.T) :: rmapT mp L :: blkT gq 147 (rguC mp rp) :: l) at hT
 rw [hLI]
 clear hLI e1 hof
 generalize (tightG d g).l = lt at *
 generalize forbidG L (tightG d g) g = D at *
 obtain ⟨K, hK0, hKe, hKs, hKw, _⟩ := prune_run (L := L) hok1 G1.wd g (ofP D.s.L g)
 have hmap := G.ok.map
 have hOf := fun {z : World} {l' : List Th} (H' : SepC w0 z (rstT q rp rb n a m D.s :: l')) => H'.rOf g
 generalize (ofP D.s.L g).foldl (pruneS n L g) D.s = E at *
 obtain ⟨P, hP⟩ : ∃ P, ofP D.s.L g = P := ⟨_, rfl⟩
 rw [hP] at hOf hKe hKs
 obtain ⟨N, hN⟩ : ∃ N, P.length = N := ⟨_, rfl⟩
 rw [hN] at hOf hKe
 clear hP hok1 G1 G hl
 generalize hT1 : D.T = T1 at *
 generalize hS1 : D.s = S1 at *
 clear hT1 hS1 D
 replace hK0 := Lib.hid hK0; replace hKe := Lib.hid hKe; replace hKs := Lib.hid hKs; replace hN := Lib.hid hN
 go_enter Tryz.func59, Tryz.ntmps59
 go_wp2_with fail
 refine hLo.mono ?_; rintro e w1 ⟨rfl, rfl⟩
 clear hLo
 go_wp2_with fail
 refine hT.mono ?_; rintro e w2 ⟨rfl, v', H2⟩
 clear hT H
 go_wp2_with fail
 refine (hFo H2).mono ?_; rintro e w3 ⟨rfl, H3⟩
 clear hFo H2
 have c2 := H3.blk.cell 2
 unfold gdC at c2
 simp only [qA, qZ, qS] at c2
 go_wp2_with fail
 refine (hOf H3.at2).mono ?_; rintro e w4 ⟨A0, c0, rfl, H4⟩
 clear hOf H3 c2
 replace H4 : SepC w0 w4 (ownT (numE .i64) 3 (.slice A0 N c0) P :: blkT dd 99 (gdC gq mp q t (v')) :: ownT (numE .i64) 3 (v') (lt) :: rstT q rp rb n a m (S1) :: rtlbT t most (T1) :: rmapT mp L :: blkT gq 147 (rguC mp rp) :: l) := ((H4.pick 3 rfl).pick 3 rfl).pick 2 rfl
 go_wp2_with fail
 go_loopw [6] (fun s6 wr => ∃ k : Nat, k ≤ N ∧ s6 = .int .i64 k ∧ SepC w0 wr (ownT (numE .i64) 3 (.slice A0 N c0) P :: blkT dd 99 (gdC gq mp q t (v')) :: ownT (numE .i64) 3 (v') (lt) :: rstT q rp rb n a m (K k) :: rtlbT t most (T1) :: rmapT mp L :: blkT gq 147 (rguC mp rp) :: l)) (fun s6 _ => N - (intOf s6).toNat)
 case atStart => exact ⟨0, Nat.zero_le _, rfl, by rw [hK0.out]; exact H4⟩
 obtain ⟨k, hk, rfl, H⟩ := hrel
 clear H4
 have hcp := H.own.cap
 have hN9 : N ≤ 9223372036854775807 := by omega
 clear hcp
 by_cases hlt : k < N
 ·have hltz : (k : Int) < (N : Int) := by omega
  obtain ⟨b_, off, x, rfl, _, hx, hat⟩ := SlN.get H.own.slg hlt
  clear hat
  have hst := hKs.out k x hx
  replace hst := Lib.hid hst; replace hx := Lib.hid hx
  have hw0 := hKw k
  generalize K k = s0 at *
  go_wp2_with fail
  go_loopw [7] (fun s7 wr => ∃ i : Nat, i ≤ 8 ∧ s7 = .int .i64 i ∧ SepC w0 wr (ownT (numE .i64) 3 (.slice (some ⟨b_, off, none⟩) N c0) P :: blkT dd 99 (gdC gq mp q t (v')) :: ownT (numE .i64) 3 (v') (lt) :: rstT q rp rb n a m (pruneK n L g s0 x i) :: rtlbT t most (T1) :: rmapT mp L :: blkT gq 147 (rguC mp rp) :: l)) (fun s7 _ => 8 - (intOf s7).toNat)
  case atStart => exact ⟨0, by omega, rfl, by rw [pruneK_zero]; exact H⟩
  clear H
  obtain ⟨i, hi8, rfl, H⟩ := hrel
  by_cases hi : i < 8
  ·have hiz : (i : Int) < 8 := by omega
   have hps := pruneK_succ (n := n) (L := L) (s := s0) g x i
   have hwd : WdW (pruneK n L g s0 x i).W := WdW.psteps g (eight x i) hw0
   generalize pruneK n L g s0 x i = s1 at *
   obtain ⟨V, hV, hV2⟩ : ∃ V : Nat, getG n s1.W L g (i : Int) = (V : Int) ∧ V < 18446744073709551616 := ⟨(getG n s1.W L g (i : Int)).toNat, by have := hwd.getG_ (n := n) (L := L) g (i : Int); omega, by have := hwd.getG_ (n := n) (L := L) g (i : Int); omega⟩
   have cG := fun {z : World} {l' : List Th} (H' : SepC w0 z (blkT dd 99 (gdC gq mp q t (v')) :: ownT (numE .i64) 3 (v') (lt) :: rstT q rp rb n a m (s1) :: rtlbT t most (T1) :: rmapT mp L :: blkT gq 147 (rguC mp rp) :: l')) => H'.rgGet hmap g (i : Int)
   rw [hV] at cG
   have cS := fun {z : World} {l' : List Th} (H' : SepC w0 z (rstT q rp rb n a m s1 :: l')) => H'.rSlot x (i : Int)
   rw [show slotV s1.L x (i : Int) = slV s1.L (x, (i : Int)) from rfl] at cS
   have cC := fun {z : World} {l' : List Th} (H' : SepC w0 z (rstT q rp rb n a m s1 :: l')) => H'.rClear x (i : Int)
   have hbad : badC n L s1 g (x, (i : Int)) = (((slV s1.L (x, (i : Int))).kind == 2) && !agreeB (slV s1.L (x, (i : Int))) (getE V)) := by unfold badC entG; rw [hV]; rfl
   have cP := fun z => RGet_any V z hV2
   have cQ := fun z => RAgr_any (slV s1.L (x, (i : Int))) (getE V) z
   unfold pstepS at hps
   rw [hbad] at hps
   simp only at hps
   clear hbad hV hwd
   generalize agreeB (slV s1.L (x, (i : Int))) (getE V) = ag at *
   generalize getE V = en at *
   obtain ⟨ep, ew, eu, ea, ed, es, ex, eb, ef⟩ := en
   generalize slV s1.L (x, (i : Int)) = yy at *
   obtain ⟨kd, to_, ⟨rw_, ru, rx⟩⟩ := yy
   simp only [Slt.cl, Ent.cs] at cS cP cQ
   simp only at hps
   generalize (slotP s1.L x (i : Int)).isSome = is_ at *
   generalize hasG n L g (i : Int) = hg_ at *
   obtain ⟨k2, hk2⟩ : ∃ k2, (kd == 2) = k2 := ⟨_, rfl⟩
   rw [hk2] at hps
   replace hps := Lib.hid hps
   generalize clearB s1 x (i : Int) = cb at *
   generalize clearS n s1 x (i : Int) = s2 at *
   have hld : ∀ z, Chg [] wr z → (z.cell? ⟨dd, 2, none⟩ = some (.pointer (some ⟨q, 0, none⟩)) ∧ z.cell? ⟨b_, off + k, none⟩ = some (.int .i64 x)) := fun z hz => by
    have H2 := H.new hz
    obtain ⟨b2_, o2_, x2_, e2_, _, h2_, t2_⟩ := SlN.get H2.own.slg hlt
    cases e2_; rw [hx.out] at h2_; cases h2_
    exact ⟨(H2.pick 1 rfl).blk.cell 2, t2_⟩
   go_upto_region 12 with fail
   go_cut [8, 9] from 38 to 50 (fun xv iv wx => ∃ sb : Nat, xv = .pointer (some ⟨sb, 0, none⟩) ∧ iv = .bool is_ ∧ SepC w0 wx (blkT sb 72 #[.int .i64 kd, .int .i64 to_, .bool rw_, .bool ru, .bool rx] :: ownT (numE .i64) 3 (.slice (some ⟨b_, off, none⟩) N c0) P :: blkT dd 99 (gdC gq mp q t (v')) :: ownT (numE .i64) 3 (v') (lt) :: rstT q rp rb n a m (s1) :: rtlbT t most (T1) :: rmapT mp L :: blkT gq 147 (rguC mp rp) :: l))
   case first =>
    have HH := H.new (Chg.refl [] wr).drew
    refine wp_region_noPanic ?_
    refine wp_region_held_drew (S := (fun w' => Chg [] wr w')) (by kernel_rfl) ?_ (fun hHeld => ?_)
    ·exact (Chg.refl [] wr).drew
    (refine tk 0 39 ?_ ?_ ?_; rotate_left; · (intro w hSw; (try dsimp only at hSw); go_simp; (try with_reducible rfl)))
    (try simp only [Act.put, qI, qO, qU])
    (refine tk 1 40 ?_ ?_ ?_; rotate_left; · (intro w hSw; (try dsimp only at hSw); go_simp; (try with_reducible rfl)))
    (try simp only [Act.put, qI, qO, qU])
    (refine tk 2 41 ?_ ?_ ?_; rotate_left; · (intro w hSw; (try dsimp only at hSw); go_simp; (try with_reducible rfl)))
    (try simp only [Act.put, qI, qO, qU])
    (refine tk 3 42 ?_ ?_ ?_; rotate_left; · (intro w hSw; (try dsimp only at hSw); obtain ⟨l0_, l1_⟩ := hld _ hSw; go_simp; (try with_reducible rfl)))
    (try simp only [Act.put, qI, qO, qU])
    (refine tk 4 43 ?_ ?_ ?_; rotate_left; · (intro w hSw; (try dsimp only at hSw); go_simp; (try with_reducible rfl)))
    (try simp only [Act.put, qI, qO, qU])
    (refine tk 5 44 ?_ ?_ ?_; rotate_left; · (intro w hSw; (try dsimp only at hSw); go_simp; (try with_reducible rfl)))
    (try simp only [Act.put, qI, qO, qU])
    (refine tk 6 45 ?_ ?_ ?_; rotate_left; · (intro w hSw; (try dsimp only at hSw); go_simp; (try with_reducible rfl)))
    (try simp only [Act.put, qI, qO, qU])
    (refine tk 7 46 ?_ ?_ ?_; rotate_left; · (intro w hSw; (try dsimp only at hSw); obtain ⟨l0_, l1_⟩ := hld _ hSw; go_simp; (try with_reducible rfl)))
    (try simp only [Act.put, qI, qO, qU])
    (refine tk 8 47 ?_ ?_ ?_; rotate_left; · (intro w hSw; (try dsimp only at hSw); go_simp; (try with_reducible rfl)))
    (try simp only [Act.put, qI, qO, qU])
    refine wpAnyH_ready (rs := [9, 13]) (by kernel_rfl) (by simp) ?_; refine AllReadyH.cons (o := _) rfl (fun K_ hK => ?_) (AllReadyH.cons (o := _) rfl (fun K_ hK => ?_) AllReadyH.nil)
    ·go_simp
     (go_at_call 75; refine (cS (HH.pick 3 rfl)).mono ?_; rintro e u1 ⟨rfl, y1⟩)
     refine hK.out _ _ (by (try dsimp only); exact hHeld.trans y1 (by simp)) (fun hHeld => ?_)
     clear hK K_
     (try simp only [Act.put, qI, qO, qU])
     replace HH := HH.new y1
     clear y1
     have hsb : wr.heap.size ≤ u1.heap.size := hHeld.size
     (refine tk 10 38 ?_ ?_ ?_; rotate_left; · (intro w hSw; go_simp; (try with_reducible rfl)))
     (try simp only [Act.put, qI, qO, qU])
     (refine tk 11 49 ?_ ?_ ?_; rotate_left; · (intro w hSw; go_simp; (try with_reducible rfl)))
     (try simp only [Act.put, qI, qO, qU])
     (refine tk 12 50 ?_ ?_ ?_; rotate_left; · (intro w hSw; go_simp; (try with_reducible rfl)))
     (try simp only [Act.put, qI, qO, qU])
     refine rdy 13 fun K_ hK => ?_
     go_simp
     refine hK.out _ _ (by (try dsimp only); exact hHeld.alloc _) (fun hHeld => ?_)
     clear hK K_
     (try simp only [Act.put, qI, qO, qU])
     replace HH := HH.alloc #[.int .i64 0, .int .i64 0, .bool false, .bool false, .bool false] 72
     generalize u1.alloc (.cells #[.int .i64 0, .int .i64 0, .bool false, .bool false, .bool false] 72) = u2 at *
     generalize u1.heap.size = sb at *
     have e0_ := HH.blk.cell 0; have f0_ := HH.blk.frozen 0
     have e1_ := HH.blk.cell 1; have f1_ := HH.blk.frozen 1
     have e2_ := HH.blk.cell 2; have f2_ := HH.blk.frozen 2
     have e3_ := HH.blk.cell 3; have f3_ := HH.blk.frozen 3
     have e4_ := HH.blk.cell 4; have f4_ := HH.blk.frozen 4
     simp only [qA, qZ, qS] at e0_ e1_ e2_ e3_ e4_
     have HH3 := (((((HH).cellSet 0 (.int .i64 kd)).cellSet 1 (.int .i64 to_)).cellSet 2 (.bool rw_)).cellSet 3 (.bool ru)).cellSet 4 (.bool rx)
     simp only [qI, qO, qU] at HH3
     have hY : Chg [sb] u2 (((((u2.setCell ⟨sb, 0, none⟩ (.int .i64 kd)).setCell ⟨sb, 1, none⟩ (.int .i64 to_)).setCell ⟨sb, 2, none⟩ (.bool rw_)).setCell ⟨sb, 3, none⟩ (.bool ru)).setCell ⟨sb, 4, none⟩ (.bool rx)) := ((((((Chg.refl [sb] u2).setCell (p := ⟨sb, 0, none⟩) (by simp) _).setCell (p := ⟨sb, 1, none⟩) (by simp) _).setCell (p := ⟨sb, 2, none⟩) (by simp) _).setCell (p := ⟨sb, 3, none⟩) (by simp) _).setCell (p := ⟨sb, 4, none⟩) (by simp) _)
     refine rdy 14 fun K_ hK => ?_
     go_simp
     refine hK.out _ _ (by (try dsimp only); exact hHeld.trans hY (fun i hi hm => by simp at hm; omega)) (fun hHeld => ?_)
     clear hK K_
     (try simp only [Act.put, qI, qO, qU])
     clear e0_ f0_ e1_ f1_ e2_ f2_ e3_ f3_ e4_ f4_ hY HH hsb
     generalize (((((u2.setCell ⟨sb, 0, none⟩ (.int .i64 kd)).setCell ⟨sb, 1, none⟩ (.int .i64 to_)).setCell ⟨sb, 2, none⟩ (.bool rw_)).setCell ⟨sb, 3, none⟩ (.bool ru)).setCell ⟨sb, 4, none⟩ (.bool rx)) = u3 at *
     (refine tk 15 9 ?_ ?_ ?_; rotate_left; · (intro w hSw; (try dsimp only at hSw); go_simp; (try with_reducible rfl)))
     (try simp only [Act.put, qI, qO, qU])
     refine wpAnyH_done (by kernel_rfl) ?_ _
     refine NoPanic.normal ?_
     clear hHeld H
     clear hld cS
     go_wp2_with fail
     go_meet
     exact ⟨sb, rfl, rfl, HH3⟩
    clear HH
    go_simp
    refine hK.out _ _ (by (try dsimp only); exact ((Chg.refl [] wr).alloc _).drew) (fun hHeld => ?_)
    clear hK K_
    (try simp only [Act.put, qI, qO, qU])
    have HH := (H.alloc #[.int .i64 0, .int .i64 0, .bool false, .bool false, .bool false] 72).new (Chg.refl [] _).drew
    have hsb : wr.heap.size ≤ wr.heap.size := Nat.le_refl _
    generalize (wr.alloc (.cells #[.int .i64 0, .int .i64 0, .bool false, .bool false, .bool false] 72)).drew = u1 at *
    generalize hsb_ : wr.heap.size = sb at hsb HH ⊢
    clear hsb
    have hsb : wr.heap.size ≤ sb := by omega
    refine rdy 9 fun K_ hK => ?_
    go_simp
    (go_at_call 75; refine (cS ((HH.tail).pick 3 rfl)).mono ?_; rintro e u2 ⟨rfl, y1⟩)
    refine hK.out _ _ (by (try dsimp only); exact hHeld.trans y1 (by simp)) (fun hHeld => ?_)
    clear hK K_
    (try simp only [Act.put, qI, qO, qU])
    replace HH := HH.new y1
    clear y1 hsb_
    (refine tk 10 38 ?_ ?_ ?_; rotate_left; · (intro w hSw; go_simp; (try with_reducible rfl)))
    (try simp only [Act.put, qI, qO, qU])
    (refine tk 11 49 ?_ ?_ ?_; rotate_left; · (intro w hSw; go_simp; (try with_reducible rfl)))
    (try simp only [Act.put, qI, qO, qU])
    (refine tk 12 50 ?_ ?_ ?_; rotate_left; · (intro w hSw; go_simp; (try with_reducible rfl)))
    (try simp only [Act.put, qI, qO, qU])
    have e0_ := HH.blk.cell 0; have f0_ := HH.blk.frozen 0
    have e1_ := HH.blk.cell 1; have f1_ := HH.blk.frozen 1
    have e2_ := HH.blk.cell 2; have f2_ := HH.blk.frozen 2
    have e3_ := HH.blk.cell 3; have f3_ := HH.blk.frozen 3
    have e4_ := HH.blk.cell 4; have f4_ := HH.blk.frozen 4
    simp only [qA, qZ, qS] at e0_ e1_ e2_ e3_ e4_
    have HH3 := (((((HH).cellSet 0 (.int .i64 kd)).cellSet 1 (.int .i64 to_)).cellSet 2 (.bool rw_)).cellSet 3 (.bool ru)).cellSet 4 (.bool rx)
    simp only [qI, qO, qU] at HH3
    have hY : Chg [sb] u2 (((((u2.setCell ⟨sb, 0, none⟩ (.int .i64 kd)).setCell ⟨sb, 1, none⟩ (.int .i64 to_)).setCell ⟨sb, 2, none⟩ (.bool rw_)).setCell ⟨sb, 3, none⟩ (.bool ru)).setCell ⟨sb, 4, none⟩ (.bool rx)) := ((((((Chg.refl [sb] u2).setCell (p := ⟨sb, 0, none⟩) (by simp) _).setCell (p := ⟨sb, 1, none⟩) (by simp) _).setCell (p := ⟨sb, 2, none⟩) (by simp) _).setCell (p := ⟨sb, 3, none⟩) (by simp) _).setCell (p := ⟨sb, 4, none⟩) (by simp) _)
    refine rdy 14 fun K_ hK => ?_
    go_simp
    refine hK.out _ _ (by (try dsimp only); exact hHeld.trans hY (fun i hi hm => by simp at hm; omega)) (fun hHeld => ?_)
    clear hK K_
    (try simp only [Act.put, qI, qO, qU])
    clear e0_ f0_ e1_ f1_ e2_ f2_ e3_ f3_ e4_ f4_ hY HH hsb
    generalize (((((u2.setCell ⟨sb, 0, none⟩ (.int .i64 kd)).setCell ⟨sb, 1, none⟩ (.int .i64 to_)).setCell ⟨sb, 2, none⟩ (.bool rw_)).setCell ⟨sb, 3, none⟩ (.bool ru)).setCell ⟨sb, 4, none⟩ (.bool rx)) = u3 at *
    (refine tk 15 9 ?_ ?_ ?_; rotate_left; · (intro w hSw; (try dsimp only at hSw); go_simp; (try with_reducible rfl)))
    (try simp only [Act.put, qI, qO, qU])
    refine wpAnyH_done (by kernel_rfl) ?_ _
    refine NoPanic.normal ?_
    clear hHeld H
    clear hld cS
    go_wp2_with fail
    go_meet
    exact ⟨sb, rfl, rfl, HH3⟩
   obtain ⟨sb, rfl, rfl, H3⟩ := hcut
   clear H hld cS
   have c0_ := (H3.pick 2 rfl).blk.cell 0
   unfold gdC at c0_
   simp only [qA, qZ] at c0_
   have HG := SepC.mv6 H3.tail
   go_wp2_with fail
   refine (cG HG).mono ?_; rintro e w5 ⟨rfl, hz_⟩
   subst hz_
   clear cG HG c0_
   go_upto_region 14 with fail
   go_cut [70] from 61 to 70 (fun cv wx => cv = .bool (k2 && !ag) ∧ SepC w0 wx (blkT sb 72 #[.int .i64 kd, .int .i64 to_, .bool rw_, .bool ru, .bool rx] :: ownT (numE .i64) 3 (.slice (some ⟨b_, off, none⟩) N c0) P :: blkT dd 99 (gdC gq mp q t (v')) :: ownT (numE .i64) 3 (v') (lt) :: rstT q rp rb n a m (s1) :: rtlbT t most (T1) :: rmapT mp L :: blkT gq 147 (rguC mp rp) :: l))
   case first =>
    cases k2
    ·refine wp_region_noPanic ?_
     refine wp_region_held_drew (S := (fun w' => Chg [] wc w')) (by kernel_rfl) ?_ (fun hHeld => ?_)
     ·exact (Chg.refl [] wc).drew
     (refine tk 0 61 ?_ ?_ ?_; rotate_left; · (intro w hSw; go_simp; (try with_reducible rfl)))
     (try simp only [Act.put, qI, qO, qU])
     (refine tk 1 62 ?_ ?_ ?_; rotate_left; · (intro w hSw; (try dsimp only at hSw); have n_ := (H3.new hSw).blk; have n0_ := n_.cell 0; have n1_ := n_.cell 1; have n2_ := n_.cell 2; have n3_ := n_.cell 3; have n4_ := n_.cell 4; simp only [qA, qZ, qS] at n0_ n1_ n2_ n3_ n4_; go_simp; (try with_reducible rfl)))
     (try simp only [Act.put, qI, qO, qU])
     (refine tk 2 63 ?_ ?_ ?_; rotate_left; · (intro w hSw; go_simp; (try with_reducible rfl)))
     (try simp only [Act.put, qI, qO, qU])
     (refine tk 3 64 ?_ ?_ ?_; rotate_left; · (intro w hSw; go_simp; (try with_reducible rfl)))
     (try simp only [Act.put, qI, qO, qU])
     (refine tko 4 65 ?_)
     (try simp only [Act.put, qI, qO, qU])
     (refine tko 5 66 ?_)
     (try simp only [Act.put, qI, qO, qU])
     (refine tko 6 67 ?_)
     (try simp only [Act.put, qI, qO, qU])
     (refine tko 7 68 ?_)
     (try simp only [Act.put, qI, qO, qU])
     (refine tko 8 69 ?_)
     (try simp only [Act.put, qI, qO, qU])
     (refine tk 9 70 ?_ ?_ ?_; rotate_left; · (intro w hSw; go_simp; (try with_reducible rfl)))
     (try simp only [Act.put, qI, qO, qU])
     refine wpAnyH_done (by kernel_rfl) ?_ _
     refine NoPanic.normal ?_
     have H5 := H3.new hHeld
     go_wp2_with fail
     go_meet
     exact ⟨rfl, H5⟩
    refine wp_region_noPanic ?_
    refine wp_region_held_drew (S := (fun w' => Chg [] wc w')) (by kernel_rfl) ?_ (fun hHeld => ?_)
    ·exact (Chg.refl [] wc).drew
    (refine tk 0 61 ?_ ?_ ?_; rotate_left; · (intro w hSw; go_simp; (try with_reducible rfl)))
    (try simp only [Act.put, qI, qO, qU])
    (refine tk 1 62 ?_ ?_ ?_; rotate_left; · (intro w hSw; (try dsimp only at hSw); have n_ := (H3.new hSw).blk; have n0_ := n_.cell 0; have n1_ := n_.cell 1; have n2_ := n_.cell 2; have n3_ := n_.cell 3; have n4_ := n_.cell 4; simp only [qA, qZ, qS] at n0_ n1_ n2_ n3_ n4_; go_simp; (try with_reducible rfl)))
    (try simp only [Act.put, qI, qO, qU])
    (refine tk 2 63 ?_ ?_ ?_; rotate_left; · (intro w hSw; go_simp; (try with_reducible rfl)))
    (try simp only [Act.put, qI, qO, qU])
    (refine tk 3 64 ?_ ?_ ?_; rotate_left; · (intro w hSw; go_simp; (try with_reducible rfl)))
    (try simp only [Act.put, qI, qO, qU])
    (refine tk 4 65 ?_ ?_ ?_; rotate_left; · (intro w hSw; (try dsimp only at hSw); have n_ := (H3.new hSw).blk; have n0_ := n_.cell 0; have n1_ := n_.cell 1; have n2_ := n_.cell 2; have n3_ := n_.cell 3; have n4_ := n_.cell 4; simp only [qA, qZ, qS] at n0_ n1_ n2_ n3_ n4_; go_simp; (try with_reducible rfl)))
    (try simp only [Act.put, qI, qO, qU])
    (refine tk 5 66 ?_ ?_ ?_; rotate_left; · (intro w hSw; go_simp; (try with_reducible rfl)))
    (try simp only [Act.put, qI, qO, qU])
    refine rdy 6 fun K hK => ?_
    go_simp
    go_at_call 108; refine (cP _).mono ?_; rintro e_0 w_0 ⟨rfl, y0⟩; first | exact hx_ | skip
    refine hK.out _ _ (by (try dsimp only); exact hHeld.trans y0 (by simp)) (fun hHeld => ?_)
    clear hK K
    (try simp only [Act.put, qI, qO, qU])
    refine rdy 7 fun K hK => ?_
    go_simp
    go_at_call 107; refine (cQ _).mono ?_; rintro e_1 w_1 ⟨rfl, y1⟩; first | exact hx_ | skip
    refine hK.out _ _ (by (try dsimp only); exact hHeld.trans y1 (by simp)) (fun hHeld => ?_)
    clear hK K
    (try simp only [Act.put, qI, qO, qU])
    (refine tk 8 69 ?_ ?_ ?_; rotate_left; · (intro w hSw; go_simp; (try with_reducible rfl)))
    (try simp only [Act.put, qI, qO, qU])
    (refine tk 9 70 ?_ ?_ ?_; rotate_left; · (intro w hSw; go_simp; (try with_reducible rfl)))
    (try simp only [Act.put, qI, qO, qU])
    refine wpAnyH_done (by kernel_rfl) ?_ _
    refine NoPanic.normal ?_
    have H5 := H3.new hHeld
    go_wp2_with fail
    go_meet
    exact ⟨rfl, H5⟩
   obtain ⟨rfl, H4⟩ := hcut
   clear H3 cP cQ hk2
   replace H4 := H4.tail
   obtain ⟨hit, hhit⟩ : ∃ hit, (k2 && !ag) = hit := ⟨_, rfl⟩
   rw [hhit]
   have hp2 := hps.out
   rw [hhit] at hp2
   clear hps hhit
   cases hit
   ·rw [if_neg (by simp)] at hp2
    replace hp2 := Lib.hid hp2
    go_wp2_with fail
    go_roundw
    case rel => exact ⟨i + 1, by omega, by go_num, by rw [hp2.out]; exact H4⟩
    case measure => simp [intOf]; omega
   rw [if_pos rfl] at hp2
   replace hp2 := Lib.hid hp2
   go_upto_region 15 with fail
   have H5 := H4.new (Chg.refl [] wc).drew
   have d2 := (H5.pick 1 rfl).blk.cell 2
   unfold gdC at d2
   simp only [qA, qZ, qS] at d2
   obtain ⟨b2_, o2_, x2_, e2_, _, h2_, t2_⟩ := SlN.get H5.own.slg hlt
   cases e2_; rw [hx.out] at h2_; cases h2_
   have cC2 := cC (H5.pick 3 rfl)
   refine wp_region_still_tail 9 (by kernel_rfl) (by kernel_rfl) ?_
   simp only [List.take_succ_cons, List.take_zero, List.drop_succ_cons, List.drop_zero]
   change wpStill _ _ (World.drew _) _ _ _
   iterate 9 still_step
   refine wpStill_nil ?_
   change wpList _ _ _ _ _ (World.drew wc)
   go_wp2_with fail
   refine cC2.mono ?_; rintro e w6 ⟨rfl, H6⟩
   clear cC cC2 d2 t2_ H5 H4
   replace H6 : SepC w0 w6 (ownT (numE .i64) 3 (.slice (some ⟨b_, off, none⟩) N c0) P :: blkT dd 99 (gdC gq mp q t (v')) :: ownT (numE .i64) 3 (v') (lt) :: rstT q rp rb n a m (s2) :: rtlbT t most (T1) :: rmapT mp L :: blkT gq 147 (rguC mp rp) :: l) := ((H6.pick 3 rfl).pick 3 rfl).pick 3 rfl
   go_wp2_with fail
   go_roundw
   case rel => exact ⟨i + 1, by omega, by go_num, by rw [hp2.out]; exact H6⟩
   case measure => simp [intOf]; omega
  have ei : i = 8 := by omega
  subst ei
  have hiz : ¬ ((8 : Nat) : Int) < 8 := by omega
  go_wp2_with fail
  go_roundw
  case rel => exact ⟨k + 1, by omega, by go_num, by rw [hst.out]; exact H⟩
  case measure => simp [intOf]; omega
 have ek : N = k := by omega
 subst ek
 have hltz : ¬ (N : Int) < (N : Int) := by omega
 rw [hKe.out] at H
 replace H := H.tail
 have c3 := H.blk.cell 3
 unfold gdC at c3
 simp only [qA, qZ, qS] at c3
 have hA := H.at3.rtAll
 go_wp2_with fail
 refine hA.mono ?_; rintro e w6 ⟨rfl, H6⟩
 clear hA c3
 go_wp2_with fail
 go_ret
 exact ⟨rfl, v', H6.bk3⟩
end
end Go.Proofs.YtgjfidjhbkaobaaGreat
