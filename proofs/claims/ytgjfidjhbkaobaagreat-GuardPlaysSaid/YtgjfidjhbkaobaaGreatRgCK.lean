/-
 The document's forbid: leaf by leaf.
-/
import Derived.Test.YtgjfidjhbkaobaaGreatGRaK
import Derived.Deep.CutRange
namespace Go.Proofs.YtgjfidjhbkaobaaGreat
open Go.RowKit Go.Maps Go.Shelf
section
variable {w0 w w' : World} {dd gq mp q rp rb t n a m most : Nat} {L : List Int} {v : Value} {s : Sr} {T : List Ht} {ll : List Int} {l : List Th} {d : Gd}
set_option maxRecDepth 100000 in
set_option maxHeartbeats 8000000 in
theorem SepC.rgForbid (H : SepC w0 w (blkT dd 99 (gdC gq mp q t (v)) :: ownT (numE .i64) 3 (v) (ll) :: rstT q rp rb n a m (s) :: rtlbT t most (T) :: rmapT mp L :: blkT gq 147 (rguC mp rp) :: l)) (hi : InH n L) (hp0 : 0 < n) (g : Int) : Calls Tryz.prog 98 #[.pointer (some ⟨dd, 0, none⟩), .int .i64 g] w fun e w' => e = .returned (.tuple #[]) ∧ SepC w0 w' (blkT dd 99 (gdC gq mp q t (v)) :: ownT (numE .i64) 3 (v) (ll) :: rstT q rp rb n a m ((forbidG L ⟨s, T, ll⟩ g).s) :: rtlbT t most ((forbidG L ⟨s, T, ll⟩ g).T) :: rmapT mp L :: blkT gq 147 (rguC mp rp) :: l) := by
 have hok := H.at2.rok
 have hN6 := hok.le256
 have hF := forbid_is (d := ⟨s, T, ll⟩) hok hi hp0 g
 simp only at hF
 obtain ⟨K, hK0, hKe, hKs, hKok⟩ : ∃ K : Nat → Gd, K 0 = ⟨s, T, ll⟩ ∧ K (toldP 2 g s.L).length = forbidG L ⟨s, T, ll⟩ g ∧ (∀ k x, (toldP 2 g s.L)[k]? = some x → K (k + 1) = fstepG n L g (K k) x) ∧ True := by
  refine ⟨fun k => ((toldP 2 g s.L).take k).foldl (fstepG n L g) ⟨s, T, ll⟩, rfl, ?_, fun k x hx => ?_, trivial⟩
  ·simp only [List.take_length]; exact hF
  have hk := (List.getElem?_eq_some_iff.1 hx).1
  simp only [List.take_succ_eq_append_getElem hk, List.foldl_append, (List.getElem?_eq_some_iff.1 hx).2]; rfl
 clear hF hKok
 generalize forbidG L ⟨s, T, ll⟩ g = E at *
 have hLv := H.at2.rLeaves g
 have hHo := H.at4.rmHost g
 obtain ⟨TT, hTT⟩ : ∃ TT, toldP 2 g s.L = TT := ⟨_, rfl⟩
 rw [hTT] at hLv hKe hKs
 obtain ⟨N, hN⟩ : ∃ N, TT.length = N := ⟨_, rfl⟩
 rw [hN] at hLv hKe
 replace hK0 := Lib.hid hK0; replace hKe := Lib.hid hKe; replace hKs := Lib.hid hKs; replace hN := Lib.hid hN
 obtain ⟨h, hh⟩ : ∃ h, atV L g = h := ⟨_, rfl⟩
 rw [hh] at hHo
 replace hh := Lib.hid hh
 generalize atB L.length g = hb_ at *
 clear hTT hok
 have c1 := H.blk.cell 1; have c2 := H.blk.cell 2
 unfold gdC at c1 c2
 simp only [qA, qZ, qS] at c1 c2
 go_enter Tryz.func98, Tryz.ntmps98
 go_wp2_with fail
 refine hHo.mono ?_; rintro e w1 ⟨rfl, rfl⟩
 clear hHo
 go_wp2_with fail
 refine hLv.mono ?_; rintro e w2 ⟨A0, c0, rfl, H2⟩
 clear hLv
 have H3 : SepC w0 w2 (ownT atE 153 (.slice A0 N c0) TT :: blkT dd 99 (gdC gq mp q t (v)) :: ownT (numE .i64) 3 (v) (ll) :: rstT q rp rb n a m (s) :: rtlbT t most (T) :: rmapT mp L :: blkT gq 147 (rguC mp rp) :: l) := ((H2.pick 3 rfl).pick 3 rfl).pick 2 rfl
 clear H2 H c1 c2
 go_wp2_with fail
 go_loopw [7] (fun s7 wr => ∃ k : Nat, k ≤ N ∧ s7 = .int .i64 k ∧ SepC w0 wr (ownT atE 153 (.slice A0 N c0) TT :: blkT dd 99 (gdC gq mp q t (v)) :: ownT (numE .i64) 3 (v) (ll) :: rstT q rp rb n a m ((K k).s) :: rtlbT t most ((K k).T) :: rmapT mp L :: blkT gq 147 (rguC mp rp) :: l)) (fun s7 _ => N - (intOf s7).toNat)
 case atStart => exact ⟨0, Nat.zero_le _, rfl, by rw [hK0.out]; exact H3⟩
 clear H3
 obtain ⟨k, hk, rfl, H⟩ := hrel
 by_cases hlt : k < N
 ·have hltz : (k : Int) < (N : Int) := by omega
  have hcp := H.own.cap
  have hN9 : N ≤ 9223372036854775807 := by omega
  clear hcp
  obtain ⟨b_, off, x, rfl, _, hx, hat⟩ := H.own.slg.get hlt
  clear hat
  have hst := hKs.out k x hx
  obtain ⟨xf, xi⟩ := x
  replace hst := Lib.hid hst; replace hx := Lib.hid hx
  have cS := fun {z : World} {l' : List Th} (H' : SepC w0 z (rstT q rp rb n a m (K k).s :: l')) => H'.rSlot xf xi
  rw [show slotV (K k).s.L xf xi = slV (K k).s.L (xf, xi) from rfl] at cS
  obtain ⟨y, hy⟩ : ∃ y, slV (K k).s.L (xf, xi) = y := ⟨_, rfl⟩
  rw [hy] at cS
  replace hy := Lib.hid hy
  obtain ⟨kd, to_, ⟨rw_, ru, rx⟩⟩ := y
  simp only [Slt.cl] at cS
  generalize (slotP (K k).s.L xf xi).isSome = is_ at *
  have hld : ∀ z, Chg [] wr z → (z.cell? ⟨dd, 2, none⟩ = some (.pointer (some ⟨q, 0, none⟩)) ∧ z.cell? ⟨b_, off + k * 2, none⟩ = some (.int .i64 xf) ∧ z.cell? ⟨b_, off + k * 2 + 1, none⟩ = some (.int .i64 xi)) := fun z hz => by
   have H2 := H.new hz
   obtain ⟨b2_, o2_, x2_, e2_, _, h2_, t2_⟩ := H2.own.slg.get hlt
   cases e2_; rw [hx.out] at h2_; cases h2_
   obtain ⟨t0_, t1_⟩ := atE_cells t2_
   exact ⟨(H2.pick 1 rfl).blk.cell 2, t0_, t1_⟩
  go_upto_region 5 with fail
  go_cut [8, 9] from 32 to 49 (fun xv iv wx => ∃ sb : Nat, xv = .pointer (some ⟨sb, 0, none⟩) ∧ iv = .bool is_ ∧ SepC w0 wx (blkT sb 72 #[.int .i64 kd, .int .i64 to_, .bool rw_, .bool ru, .bool rx] :: ownT atE 153 (.slice (some ⟨b_, off, none⟩) N c0) TT :: blkT dd 99 (gdC gq mp q t (v)) :: ownT (numE .i64) 3 (v) (ll) :: rstT q rp rb n a m ((K k).s) :: rtlbT t most ((K k).T) :: rmapT mp L :: blkT gq 147 (rguC mp rp) :: l))
  case first =>
   have HH := H.new (Chg.refl [] wr).drew
   refine wp_region_noPanic ?_
   refine wp_region_held_drew (S := (fun w' => Chg [] wr w')) (by kernel_rfl) ?_ (fun hHeld => ?_)
   ·exact (Chg.refl [] wr).drew
   (refine tk 0 33 ?_ ?_ ?_; rotate_left; · (intro w hSw; (try dsimp only at hSw); go_simp; (try with_reducible rfl)))
   (try simp only [Act.put, qI, qO, qU])
   (refine tk 1 34 ?_ ?_ ?_; rotate_left; · (intro w hSw; (try dsimp only at hSw); go_simp; (try with_reducible rfl)))
   (try simp only [Act.put, qI, qO, qU])
   (refine tk 2 35 ?_ ?_ ?_; rotate_left; · (intro w hSw; (try dsimp only at hSw); go_simp; (try with_reducible rfl)))
   (try simp only [Act.put, qI, qO, qU])
   (refine tk 3 36 ?_ ?_ ?_; rotate_left; · (intro w hSw; (try dsimp only at hSw); obtain ⟨l0_, l1_, l2_⟩ := hld _ hSw; go_simp; (try with_reducible rfl)))
   (try simp only [Act.put, qI, qO, qU])
   (refine tk 4 37 ?_ ?_ ?_; rotate_left; · (intro w hSw; (try dsimp only at hSw); go_simp; (try with_reducible rfl)))
   (try simp only [Act.put, qI, qO, qU])
   (refine tk 5 38 ?_ ?_ ?_; rotate_left; · (intro w hSw; (try dsimp only at hSw); go_simp; (try with_reducible rfl)))
   (try simp only [Act.put, qI, qO, qU])
   (refine tk 6 39 ?_ ?_ ?_; rotate_left; · (intro w hSw; (try dsimp only at hSw); go_simp; (try with_reducible rfl)))
   (try simp only [Act.put, qI, qO, qU])
   (refine tk 7 40 ?_ ?_ ?_; rotate_left; · (intro w hSw; (try dsimp only at hSw); go_simp; (try with_reducible rfl)))
   (try simp only [Act.put, qI, qO, qU])
   (refine tk 8 41 ?_ ?_ ?_; rotate_left; · (intro w hSw; (try dsimp only at hSw); obtain ⟨l0_, l1_, l2_⟩ := hld _ hSw; go_simp; (try with_reducible rfl)))
   (try simp only [Act.put, qI, qO, qU])
   (refine tk 9 42 ?_ ?_ ?_; rotate_left; · (intro w hSw; (try dsimp only at hSw); go_simp; (try with_reducible rfl)))
   (try simp only [Act.put, qI, qO, qU])
   (refine tk 10 43 ?_ ?_ ?_; rotate_left; · (intro w hSw; (try dsimp only at hSw); go_simp; (try with_reducible rfl)))
   (try simp only [Act.put, qI, qO, qU])
   (refine tk 11 44 ?_ ?_ ?_; rotate_left; · (intro w hSw; (try dsimp only at hSw); go_simp; (try with_reducible rfl)))
   (try simp only [Act.put, qI, qO, qU])
   (refine tk 12 45 ?_ ?_ ?_; rotate_left; · (intro w hSw; (try dsimp only at hSw); go_simp; (try with_reducible rfl)))
   (try simp only [Act.put, qI, qO, qU])
   (refine tk 13 46 ?_ ?_ ?_; rotate_left; · (intro w hSw; (try dsimp only at hSw); obtain ⟨l0_, l1_, l2_⟩ := hld _ hSw; go_simp; (try with_reducible rfl)))
   (try simp only [Act.put, qI, qO, qU])
   refine wpAnyH_ready (rs := [14, 18]) (by kernel_rfl) (by simp) ?_; refine AllReadyH.cons (o := _) rfl (fun K_ hK => ?_) (AllReadyH.cons (o := _) rfl (fun K_ hK => ?_) AllReadyH.nil)
   ·go_simp
    (go_at_call 75; refine (cS (HH.pick 3 rfl)).mono ?_; rintro e u1 ⟨rfl, y1⟩)
    refine hK.out _ _ (by (try dsimp only); exact hHeld.trans y1 (by simp)) (fun hHeld => ?_)
    clear hK K_
    (try simp only [Act.put, qI, qO, qU])
    replace HH := HH.new y1
    clear y1
    have hsb : wr.heap.size ≤ u1.heap.size := hHeld.size
    (refine tk 15 32 ?_ ?_ ?_; rotate_left; · (intro w hSw; go_simp; (try with_reducible rfl)))
    (try simp only [Act.put, qI, qO, qU])
    (refine tk 16 48 ?_ ?_ ?_; rotate_left; · (intro w hSw; go_simp; (try with_reducible rfl)))
    (try simp only [Act.put, qI, qO, qU])
    (refine tk 17 49 ?_ ?_ ?_; rotate_left; · (intro w hSw; go_simp; (try with_reducible rfl)))
    (try simp only [Act.put, qI, qO, qU])
    refine rdy 18 fun K_ hK => ?_
    go_simp
    refine hK.out _ _ (by (try dsimp only); exact hHeld.alloc _) (fun hHeld => ?_)
    clear hK K_
    (try simp only [Act.put, qI, qO, qU])
    replace HH := HH.alloc #[.int .i64 0, .int .i64 0, .bool false, .bool false, .bool false] 72
    generalize u1.alloc (.cells #[.int .i64 0, .int .i64 0, .bool false, .bool false, .bool false] 72) = u2 at *
    generalize u1.heap.size = sb at *
    have e0_ := HH.blk.cell 0; have f0_ := HH.blk.frozen 0
    have e1_ := HH.blk.cell 1; have f1_ := HH.blk.frozen 1
    have e2_ := HH.blk.cell 2; have f2_ := HH.blk.frozen 2
    have e3_ := HH.blk.cell 3; have f3_ := HH.blk.frozen 3
    have e4_ := HH.blk.cell 4; have f4_ := HH.blk.frozen 4
    simp only [qA, qZ, qS] at e0_ e1_ e2_ e3_ e4_
    have HH3 := (((((HH).cellSet 0 (.int .i64 kd)).cellSet 1 (.int .i64 to_)).cellSet 2 (.bool rw_)).cellSet 3 (.bool ru)).cellSet 4 (.bool rx)
    simp only [qI, qO, qU] at HH3
    have hY : Chg [sb] u2 (((((u2.setCell ⟨sb, 0, none⟩ (.int .i64 kd)).setCell ⟨sb, 1, none⟩ (.int .i64 to_)).setCell ⟨sb, 2, none⟩ (.bool rw_)).setCell ⟨sb, 3, none⟩ (.bool ru)).setCell ⟨sb, 4, none⟩ (.bool rx)) := ((((((Chg.refl [sb] u2).setCell (p := ⟨sb, 0, none⟩) (by simp) _).setCell (p := ⟨sb, 1, none⟩) (by simp) _).setCell (p := ⟨sb, 2, none⟩) (by simp) _).setCell (p := ⟨sb, 3, none⟩) (by simp) _).setCell (p := ⟨sb, 4, none⟩) (by simp) _)
    refine rdy 19 fun K_ hK => ?_
    go_simp
    refine hK.out _ _ (by (try dsimp only); exact hHeld.trans hY (fun i hi hm => by simp at hm; omega)) (fun hHeld => ?_)
    clear hK K_
    (try simp only [Act.put, qI, qO, qU])
    clear e0_ f0_ e1_ f1_ e2_ f2_ e3_ f3_ e4_ f4_ hY HH hsb
    generalize (((((u2.setCell ⟨sb, 0, none⟩ (.int .i64 kd)).setCell ⟨sb, 1, none⟩ (.int .i64 to_)).setCell ⟨sb, 2, none⟩ (.bool rw_)).setCell ⟨sb, 3, none⟩ (.bool ru)).setCell ⟨sb, 4, none⟩ (.bool rx)) = u3 at *
    (refine tk 20 9 ?_ ?_ ?_; rotate_left; · (intro w hSw; (try dsimp only at hSw); go_simp; (try with_reducible rfl)))
    (try simp only [Act.put, qI, qO, qU])
    refine wpAnyH_done (by kernel_rfl) ?_ _
    refine NoPanic.normal ?_
    clear hHeld H
    clear hld cS
    go_wp2_with fail
    go_meet
    exact ⟨sb, rfl, rfl, HH3⟩
   clear HH
   go_simp
   refine hK.out _ _ (by (try dsimp only); exact ((Chg.refl [] wr).alloc _).drew) (fun hHeld => ?_)
   clear hK K_
   (try simp only [Act.put, qI, qO, qU])
   have HH := (H.alloc #[.int .i64 0, .int .i64 0, .bool false, .bool false, .bool false] 72).new (Chg.refl [] _).drew
   have hsb : wr.heap.size ≤ wr.heap.size := Nat.le_refl _
   generalize (wr.alloc (.cells #[.int .i64 0, .int .i64 0, .bool false, .bool false, .bool false] 72)).drew = u1 at *
   generalize hsb_ : wr.heap.size = sb at hsb HH ⊢
   clear hsb
   have hsb : wr.heap.size ≤ sb := by omega
   refine rdy 14 fun K_ hK => ?_
   go_simp
   (go_at_call 75; refine (cS ((HH.tail).pick 3 rfl)).mono ?_; rintro e u2 ⟨rfl, y1⟩)
   refine hK.out _ _ (by (try dsimp only); exact hHeld.trans y1 (by simp)) (fun hHeld => ?_)
   clear hK K_
   (try simp only [Act.put, qI, qO, qU])
   replace HH := HH.new y1
   clear y1 hsb_
   (refine tk 15 32 ?_ ?_ ?_; rotate_left; · (intro w hSw; go_simp; (try with_reducible rfl)))
   (try simp only [Act.put, qI, qO, qU])
   (refine tk 16 48 ?_ ?_ ?_; rotate_left; · (intro w hSw; go_simp; (try with_reducible rfl)))
   (try simp only [Act.put, qI, qO, qU])
   (refine tk 17 49 ?_ ?_ ?_; rotate_left; · (intro w hSw; go_simp; (try with_reducible rfl)))
   (try simp only [Act.put, qI, qO, qU])
   have e0_ := HH.blk.cell 0; have f0_ := HH.blk.frozen 0
   have e1_ := HH.blk.cell 1; have f1_ := HH.blk.frozen 1
   have e2_ := HH.blk.cell 2; have f2_ := HH.blk.frozen 2
   have e3_ := HH.blk.cell 3; have f3_ := HH.blk.frozen 3
   have e4_ := HH.blk.cell 4; have f4_ := HH.blk.frozen 4
   simp only [qA, qZ, qS] at e0_ e1_ e2_ e3_ e4_
   have HH3 := (((((HH).cellSet 0 (.int .i64 kd)).cellSet 1 (.int .i64 to_)).cellSet 2 (.bool rw_)).cellSet 3 (.bool ru)).cellSet 4 (.bool rx)
   simp only [qI, qO, qU] at HH3
   have hY : Chg [sb] u2 (((((u2.setCell ⟨sb, 0, none⟩ (.int .i64 kd)).setCell ⟨sb, 1, none⟩ (.int .i64 to_)).setCell ⟨sb, 2, none⟩ (.bool rw_)).setCell ⟨sb, 3, none⟩ (.bool ru)).setCell ⟨sb, 4, none⟩ (.bool rx)) := ((((((Chg.refl [sb] u2).setCell (p := ⟨sb, 0, none⟩) (by simp) _).setCell (p := ⟨sb, 1, none⟩) (by simp) _).setCell (p := ⟨sb, 2, none⟩) (by simp) _).setCell (p := ⟨sb, 3, none⟩) (by simp) _).setCell (p := ⟨sb, 4, none⟩) (by simp) _)
   refine rdy 19 fun K_ hK => ?_
   go_simp
   refine hK.out _ _ (by (try dsimp only); exact hHeld.trans hY (fun i hi hm => by simp at hm; omega)) (fun hHeld => ?_)
   clear hK K_
   (try simp only [Act.put, qI, qO, qU])
   clear e0_ f0_ e1_ f1_ e2_ f2_ e3_ f3_ e4_ f4_ hY HH hsb
   generalize (((((u2.setCell ⟨sb, 0, none⟩ (.int .i64 kd)).setCell ⟨sb, 1, none⟩ (.int .i64 to_)).setCell ⟨sb, 2, none⟩ (.bool rw_)).setCell ⟨sb, 3, none⟩ (.bool ru)).setCell ⟨sb, 4, none⟩ (.bool rx)) = u3 at *
   (refine tk 20 9 ?_ ?_ ?_; rotate_left; · (intro w hSw; (try dsimp only at hSw); go_simp; (try with_reducible rfl)))
   (try simp only [Act.put, qI, qO, qU])
   refine wpAnyH_done (by kernel_rfl) ?_ _
   refine NoPanic.normal ?_
   clear hHeld H
   clear hld cS
   go_wp2_with fail
   go_meet
   exact ⟨sb, rfl, rfl, HH3⟩
  obtain ⟨sb, rfl, rfl, H3⟩ := hcut
  clear H hld cS
  have e0 := H3.blk.cell 0; have e1 := H3.blk.cell 1; have e2 := H3.blk.cell 2; have e3 := H3.blk.cell 3; have e4 := H3.blk.cell 4
  simp only [qA, qZ, qS] at e0 e1 e2 e3 e4
  cases rw_
  ·have hK1 : K (k + 1) = K k := by rw [hst.out]; unfold fstepG; rw [hy.out]; rfl
   replace hK1 := Lib.hid hK1
   go_wp2_with fail
   go_roundw
   case rel => exact ⟨k + 1, by omega, by go_num, by rw [hK1.out]; exact H3.tail⟩
   case measure => simp [intOf]; omega
  have hK1 : K (k + 1) = ⟨leafS n (K k).s xf xi g h ⟨false, ru, rx⟩, [], (K k).l⟩ := by rw [hst.out]; unfold fstepG; rw [hy.out]; simp only [if_true, hh.out]; rfl
  replace hK1 := Lib.hid hK1
  go_upto_region 8 with fail
  have H4 := H3.alloc #[.bool true, .bool ru, .bool rx] 35
  clear H3 e0 e1 e2 e3 e4
  generalize wc.alloc (.cells #[.bool true, .bool ru, .bool rx] 35) = u3 at *
  generalize wc.heap.size = rk at *
  have e0 := H4.blk.cell 0; have f0 := H4.blk.frozen 0
  simp only [qA, qZ] at e0
  go_upto_region 9 with fail
  have H5 := H4.cellSet 0 (.bool false)
  simp only [qI, qO] at H5
  generalize u3.setCell ⟨rk, 0, none⟩ (.bool false) = u4 at *
  clear H4 e0 f0
  replace H5 := H5.new (Chg.refl [] u4).drew
  have d2 := (H5.pick 3 rfl).blk.cell 2
  unfold gdC at d2
  simp only [qA, qZ, qS] at d2
  obtain ⟨b2_, o2_, x2_, e2_, _, h2_, t2_⟩ := (H5.pick 2 rfl).own.slg.get hlt
  cases e2_; rw [hx.out] at h2_; cases h2_
  obtain ⟨x0, x1⟩ := atE_cells t2_
  simp only [show atE.k = 2 from rfl] at x0 x1
  clear t2_
  have hrn : (World.drew u4).rangeAt rk 0 [.bool false, .bool ru, .bool rx] := fun j v_ hv => by
   rw [H5.blk.cell]
   match j, hv with
   | 0, hv => simpa using hv
   | 1, hv => simpa using hv
   | 2, hv => simpa using hv
  have cL := (H5.pick 5 rfl).rLeaf xf xi g h ⟨false, ru, rx⟩
  simp only [Rg.cs] at cL
  clear H5
  refine wp_region_still_tail 17 (by kernel_rfl) (by kernel_rfl) ?_
  simp only [List.take_succ_cons, List.take_zero, List.drop_succ_cons, List.drop_zero]
  change wpStill _ _ (World.drew _) _ _ _
  iterate 16 still_step
  refine wpStill_plain rfl (fun K_ hK => ?_)
  refine still_load_mid 35 _ rfl rk 0 rfl [.bool false, .bool ru, .bool rx] _ hrn Tryz.underlying35 rfl (by kernel_rfl) (hK _ ?_)
  clear hK K_
  refine wpStill_nil ?_
  change wpList _ _ _ _ _ (World.drew u4)
  go_wp2_with fail
  refine cL.mono ?_; rintro e u5 ⟨rfl, H6⟩
  clear cL d2 x0 x1 hrn
  have H7 : SepC w0 u5 (ownT atE 153 (.slice (some ⟨b_, off, none⟩) N c0) TT :: blkT dd 99 (gdC gq mp q t (v)) :: ownT (numE .i64) 3 (v) (ll) :: rstT q rp rb n a m ((leafS n (K k).s xf xi g h ⟨false, ru, rx⟩)) :: rtlbT t most ((K k).T) :: rmapT mp L :: blkT gq 147 (rguC mp rp) :: l) := by
   have h1 := (H6.pick 1 rfl).tail
   have h2 := (h1.pick 1 rfl).tail
   exact h2.bk3
  clear H6
  have d3 := (H7.pick 1 rfl).blk.cell 3
  unfold gdC at d3
  simp only [qA, qZ, qS] at d3
  have cA := (H7.pick 4 rfl).rtAll
  go_wp2_with fail
  refine cA.mono ?_; rintro e u6 ⟨rfl, H8⟩
  clear cA d3 H7
  replace H8 : SepC w0 u6 (ownT atE 153 (.slice (some ⟨b_, off, none⟩) N c0) TT :: blkT dd 99 (gdC gq mp q t (v)) :: ownT (numE .i64) 3 (v) (ll) :: rstT q rp rb n a m ((leafS n (K k).s xf xi g h ⟨false, ru, rx⟩)) :: rtlbT t most ([]) :: rmapT mp L :: blkT gq 147 (rguC mp rp) :: l) := (((H8.pick 4 rfl).pick 4 rfl).pick 4 rfl).pick 4 rfl
  go_wp2_with fail
  go_roundw
  case rel => exact ⟨k + 1, by omega, by go_num, by rw [hK1.out]; exact H8⟩
  case measure => simp [intOf]; omega
 have ek : N = k := by omega
 subst ek
 have hltz : ¬ (N : Int) < (N : Int) := by omega
 rw [hKe.out] at H
 go_wp2_with fail
 go_end0
 exact ⟨rfl, H.tail⟩
end
end Go.Proofs.YtgjfidjhbkaobaaGreat
