/-
  Does a leaf tell a frame with W?
-/
import Derived.Test.YtgjfidjhbkaobaaGuardW
import Derived.Deep.CutRange
namespace Go.Proofs.Ytgjfidjhbkaobaa
open Go.RowKit Go.Maps

theorem writ_told {n a m : Nat} {s : Sr} (h : SrOk n a m s) (g : Int) : writB s g = true ↔ ∃ x ∈ toldP 2 g s.L, (slV s.L x).r.w = true := by
  rw [writB_iff h]
  constructor
  · rintro ⟨f, i, y, hy, h1, h2, hw⟩
    exact ⟨(f, i), (told_slot h).2 ⟨y, hy, h1, h2⟩, by rw [slV_at hy]; exact hw⟩
  · rintro ⟨x, hx, hw⟩
    obtain ⟨y, hy, h1, h2⟩ := (told_slot h).1 hx
    rw [slV_at hy] at hw
    exact ⟨x.1, x.2, y, hy, h1, h2, hw⟩
section
variable {w0 w : World} {dd gq mp q hp hb t wb : Nat} {d : Gd} {l : List Th}
set_option maxRecDepth 100000 in
set_option maxHeartbeats 8000000 in
theorem SepC.wWritable (H : SepC w0 w (gdT dd gq mp q hp hb t 40 4 8 8 gl16 (d) :: blkT wb 43 (wdC hp gq q t dd) :: l)) (g : Int) : Calls Try.prog 15 #[.pointer (some ⟨wb, 0, none⟩), .int .i64 g] w fun e w' => e = .returned (.bool (writB d.s g)) ∧ SepC w0 w' (gdT dd gq mp q hp hb t 40 4 8 8 gl16 (d) :: blkT wb 43 (wdC hp gq q t dd) :: l) := by
  have G := H.gIn
  have hok := G.ok.sr
  have hwt := writ_told hok g
  have hrg : ∀ x ∈ toldP 2 g d.s.L, i64B x.1 := fun x hx => by
    obtain ⟨y, hy, _⟩ := (told_slot hok).1 hx
    obtain ⟨p_, hp_, _⟩ := slotP_has hy
    obtain ⟨h1, h2⟩ := pgAt_mem hp_
    have h3 := hok.inL h1; have := hok.le; have := hok.n256
    unfold i64B; omega
  have cL := H.kLeaves g
  generalize toldP 2 g d.s.L = TT at *
  obtain ⟨N, hN⟩ : ∃ N, TT.length = N := ⟨_, rfl⟩
  rw [hN] at cL
  replace hN := Lib.hid hN
  generalize writB d.s g = wr_ at *
  clear G hok
  obtain ⟨w0_, w1_, w2_, w3_, w4_⟩ := wdC_cells (H.pick 1 rfl).blk
  go_enter Try.func15, Try.ntmps15
  go_wp2_with fail
  refine cL.mono ?_; rintro e z1 ⟨A1, c1, rfl, H_⟩
  clear cL H w0_ w1_ w2_ w3_ w4_
  have H := (H_.pick 2 rfl).pick 2 rfl
  clear H_
  go_wp2_with fail
  go_loopw [6] (fun s6 wr => ∃ k : Nat, k ≤ N ∧ s6 = .int .i64 k ∧ SepC w0 wr (gdT dd gq mp q hp hb t 40 4 8 8 gl16 (d) :: blkT wb 43 (wdC hp gq q t dd) :: ownT atE 101 (.slice A1 N c1) TT :: l) ∧ Aside (∀ j x, j < k → TT[j]? = some x → (slV d.s.L x).r.w = false)) (fun s6 _ => N - (intOf s6).toNat)
  case atStart => exact ⟨0, Nat.zero_le _, rfl, H, (show Aside _ from fun j _ hj => absurd hj (Nat.not_lt_zero _))⟩
  case round =>
    clear H
    obtain ⟨k, hk, rfl, H, hno⟩ := hrel
    have hcp := (H.pick 2 rfl).own.cap
    have hN9 : N ≤ 9223372036854775807 := by omega
    clear hcp
    by_cases hlt : k < N
    · have hltz : (k : Int) < (N : Int) := by omega
      obtain ⟨b_, off, x, rfl, _, hx, hat⟩ := (H.pick 2 rfl).own.slg.get hlt
      clear hat
      have hxr := hrg x (List.mem_of_getElem? hx)
      obtain ⟨xf, xi⟩ := x
      simp only at hxr
      replace hx := Lib.hid hx
      have cS := fun {z : World} {l_ : List Th} (H' : SepC w0 z (gdT dd gq mp q hp hb t 40 4 8 8 gl16 (d) :: l_)) => H'.kSlot xf xi hxr
      rw [show slotV d.s.L xf xi = slV d.s.L (xf, xi) from rfl] at cS
      obtain ⟨y, hy⟩ : ∃ y, slV d.s.L (xf, xi) = y := ⟨_, rfl⟩
      rw [hy] at cS
      replace hy := Lib.hid hy
      obtain ⟨kd, to_, ⟨rw_, ru, rx⟩⟩ := y
      simp only [Slt.cl] at cS
      generalize (slotP d.s.L xf xi).isSome = is_ at *
      go_upto_region 5 with fail
      have hld : ∀ z, Chg [] wr z → (z.cell? ⟨wb, 2, none⟩ = some (.pointer (some ⟨q, 0, none⟩)) ∧ z.cell? ⟨b_, off + k * 2, none⟩ = some (.int .i64 xf) ∧ z.cell? ⟨b_, off + k * 2 + 1, none⟩ = some (.int .i64 xi)) := fun z hz => by
        have H2 := H.new hz
        obtain ⟨b2_, o2_, x2_, e2_, _, h2_, t2_⟩ := (H2.pick 2 rfl).own.slg.get hlt
        cases e2_; rw [hx.out] at h2_; cases h2_
        obtain ⟨t0_, t1_⟩ := atE_cells t2_
        exact ⟨(wdC_cells (H2.pick 1 rfl).blk).2.2.1, t0_, t1_⟩
      go_cut [7, 8] from 21 to 38 (fun xv iv wx => ∃ sb : Nat, xv = .pointer (some ⟨sb, 0, none⟩) ∧ iv = .bool is_ ∧ SepC w0 wx (blkT sb 60 #[.int .i64 kd, .int .i64 to_, .bool rw_, .bool ru, .bool rx] :: gdT dd gq mp q hp hb t 40 4 8 8 gl16 (d) :: blkT wb 43 (wdC hp gq q t dd) :: ownT atE 101 (.slice (some ⟨b_, off, none⟩) N c1) TT :: l))
      case first =>
        have HH := H.new (Chg.refl [] wr).drew
        refine wp_region_noPanic ?_
        refine wp_region_held_drew (S := (fun w' => Chg [] wr w')) (by kernel_rfl) ?_ (fun hHeld => ?_)
        · exact (Chg.refl [] wr).drew
        (refine take_on 0 (some 22) (v := ?_) rfl rfl (by kernel_rfl) (by kernel_rfl) (by kernel_rfl) (fun _ _ _ h => h) (by rfl) (by assumption) ?_ ?_; rotate_left; · (intro w hSw; (try dsimp only at hSw); go_simp; (try with_reducible rfl)))
        (try simp only [Act.put, List.setIfInBounds_toArray, List.set_cons_zero, List.set_cons_succ])
        (refine take_on 1 (some 23) (v := ?_) rfl rfl (by kernel_rfl) (by kernel_rfl) (by kernel_rfl) (fun _ _ _ h => h) (by rfl) (by assumption) ?_ ?_; rotate_left; · (intro w hSw; (try dsimp only at hSw); go_simp; (try with_reducible rfl)))
        (try simp only [Act.put, List.setIfInBounds_toArray, List.set_cons_zero, List.set_cons_succ])
        (refine take_on 2 (some 24) (v := ?_) rfl rfl (by kernel_rfl) (by kernel_rfl) (by kernel_rfl) (fun _ _ _ h => h) (by rfl) (by assumption) ?_ ?_; rotate_left; · (intro w hSw; (try dsimp only at hSw); go_simp; (try with_reducible rfl)))
        (try simp only [Act.put, List.setIfInBounds_toArray, List.set_cons_zero, List.set_cons_succ])
        (refine take_on 3 (some 25) (v := ?_) rfl rfl (by kernel_rfl) (by kernel_rfl) (by kernel_rfl) (fun _ _ _ h => h) (by rfl) (by assumption) ?_ ?_; rotate_left; · (intro w hSw; (try dsimp only at hSw); obtain ⟨l0_, l1_, l2_⟩ := hld _ hSw; go_simp; (try with_reducible rfl)))
        (try simp only [Act.put, List.setIfInBounds_toArray, List.set_cons_zero, List.set_cons_succ])
        (refine take_on 4 (some 26) (v := ?_) rfl rfl (by kernel_rfl) (by kernel_rfl) (by kernel_rfl) (fun _ _ _ h => h) (by rfl) (by assumption) ?_ ?_; rotate_left; · (intro w hSw; (try dsimp only at hSw); go_simp; (try with_reducible rfl)))
        (try simp only [Act.put, List.setIfInBounds_toArray, List.set_cons_zero, List.set_cons_succ])
        (refine take_on 5 (some 27) (v := ?_) rfl rfl (by kernel_rfl) (by kernel_rfl) (by kernel_rfl) (fun _ _ _ h => h) (by rfl) (by assumption) ?_ ?_; rotate_left; · (intro w hSw; (try dsimp only at hSw); go_simp; (try with_reducible rfl)))
        (try simp only [Act.put, List.setIfInBounds_toArray, List.set_cons_zero, List.set_cons_succ])
        (refine take_on 6 (some 28) (v := ?_) rfl rfl (by kernel_rfl) (by kernel_rfl) (by kernel_rfl) (fun _ _ _ h => h) (by rfl) (by assumption) ?_ ?_; rotate_left; · (intro w hSw; (try dsimp only at hSw); go_simp; (try with_reducible rfl)))
        (try simp only [Act.put, List.setIfInBounds_toArray, List.set_cons_zero, List.set_cons_succ])
        (refine take_on 7 (some 29) (v := ?_) rfl rfl (by kernel_rfl) (by kernel_rfl) (by kernel_rfl) (fun _ _ _ h => h) (by rfl) (by assumption) ?_ ?_; rotate_left; · (intro w hSw; (try dsimp only at hSw); go_simp; (try with_reducible rfl)))
        (try simp only [Act.put, List.setIfInBounds_toArray, List.set_cons_zero, List.set_cons_succ])
        (refine take_on 8 (some 30) (v := ?_) rfl rfl (by kernel_rfl) (by kernel_rfl) (by kernel_rfl) (fun _ _ _ h => h) (by rfl) (by assumption) ?_ ?_; rotate_left; · (intro w hSw; (try dsimp only at hSw); obtain ⟨l0_, l1_, l2_⟩ := hld _ hSw; go_simp; (try with_reducible rfl)))
        (try simp only [Act.put, List.setIfInBounds_toArray, List.set_cons_zero, List.set_cons_succ])
        (refine take_on 9 (some 31) (v := ?_) rfl rfl (by kernel_rfl) (by kernel_rfl) (by kernel_rfl) (fun _ _ _ h => h) (by rfl) (by assumption) ?_ ?_; rotate_left; · (intro w hSw; (try dsimp only at hSw); go_simp; (try with_reducible rfl)))
        (try simp only [Act.put, List.setIfInBounds_toArray, List.set_cons_zero, List.set_cons_succ])
        (refine take_on 10 (some 32) (v := ?_) rfl rfl (by kernel_rfl) (by kernel_rfl) (by kernel_rfl) (fun _ _ _ h => h) (by rfl) (by assumption) ?_ ?_; rotate_left; · (intro w hSw; (try dsimp only at hSw); go_simp; (try with_reducible rfl)))
        (try simp only [Act.put, List.setIfInBounds_toArray, List.set_cons_zero, List.set_cons_succ])
        (refine take_on 11 (some 33) (v := ?_) rfl rfl (by kernel_rfl) (by kernel_rfl) (by kernel_rfl) (fun _ _ _ h => h) (by rfl) (by assumption) ?_ ?_; rotate_left; · (intro w hSw; (try dsimp only at hSw); go_simp; (try with_reducible rfl)))
        (try simp only [Act.put, List.setIfInBounds_toArray, List.set_cons_zero, List.set_cons_succ])
        (refine take_on 12 (some 34) (v := ?_) rfl rfl (by kernel_rfl) (by kernel_rfl) (by kernel_rfl) (fun _ _ _ h => h) (by rfl) (by assumption) ?_ ?_; rotate_left; · (intro w hSw; (try dsimp only at hSw); go_simp; (try with_reducible rfl)))
        (try simp only [Act.put, List.setIfInBounds_toArray, List.set_cons_zero, List.set_cons_succ])
        (refine take_on 13 (some 35) (v := ?_) rfl rfl (by kernel_rfl) (by kernel_rfl) (by kernel_rfl) (fun _ _ _ h => h) (by rfl) (by assumption) ?_ ?_; rotate_left; · (intro w hSw; (try dsimp only at hSw); obtain ⟨l0_, l1_, l2_⟩ := hld _ hSw; go_simp; (try with_reducible rfl)))
        (try simp only [Act.put, List.setIfInBounds_toArray, List.set_cons_zero, List.set_cons_succ])
        refine wpAnyH_ready (rs := [14, 18]) (by kernel_rfl) (by simp) ?_; refine AllReadyH.cons (o := _) rfl (fun K_ hK => ?_) (AllReadyH.cons (o := _) rfl (fun K_ hK => ?_) AllReadyH.nil)
        · go_simp
          (go_at_call 25; refine (cS HH).mono ?_; rintro e u1 ⟨rfl, y1⟩)
          refine hK.out _ _ (by (try dsimp only); exact hHeld.trans y1 (by simp)) (fun hHeld => ?_)
          clear hK K_
          (try simp only [Act.put, List.setIfInBounds_toArray, List.set_cons_zero, List.set_cons_succ])
          replace HH := HH.new y1
          clear y1
          have hsb : wr.heap.size ≤ u1.heap.size := hHeld.size
          (refine take_on 15 (some 21) (v := ?_) rfl rfl (by kernel_rfl) (by kernel_rfl) (by kernel_rfl) (fun _ _ _ h => h) (by rfl) (by assumption) ?_ ?_; rotate_left; · (intro w hSw; go_simp; (try with_reducible rfl)))
          (try simp only [Act.put, List.setIfInBounds_toArray, List.set_cons_zero, List.set_cons_succ])
          (refine take_on 16 (some 37) (v := ?_) rfl rfl (by kernel_rfl) (by kernel_rfl) (by kernel_rfl) (fun _ _ _ h => h) (by rfl) (by assumption) ?_ ?_; rotate_left; · (intro w hSw; go_simp; (try with_reducible rfl)))
          (try simp only [Act.put, List.setIfInBounds_toArray, List.set_cons_zero, List.set_cons_succ])
          (refine take_on 17 (some 38) (v := ?_) rfl rfl (by kernel_rfl) (by kernel_rfl) (by kernel_rfl) (fun _ _ _ h => h) (by rfl) (by assumption) ?_ ?_; rotate_left; · (intro w hSw; go_simp; (try with_reducible rfl)))
          (try simp only [Act.put, List.setIfInBounds_toArray, List.set_cons_zero, List.set_cons_succ])
          refine wpAnyH_ready (rs := [18]) (by kernel_rfl) (by simp) ?_; refine AllReadyH.cons (o := _) rfl (fun K_ hK => ?_) AllReadyH.nil
          go_simp
          refine hK.out _ _ (by (try dsimp only); exact hHeld.alloc _) (fun hHeld => ?_)
          clear hK K_
          (try simp only [Act.put, List.setIfInBounds_toArray, List.set_cons_zero, List.set_cons_succ])
          replace HH := HH.alloc #[.int .i64 0, .int .i64 0, .bool false, .bool false, .bool false] 60
          generalize u1.alloc (.cells #[.int .i64 0, .int .i64 0, .bool false, .bool false, .bool false] 60) = u2 at *
          generalize u1.heap.size = sb at *
          have e0_ := HH.blk.cell 0; have f0_ := HH.blk.frozen 0
          have e1_ := HH.blk.cell 1; have f1_ := HH.blk.frozen 1
          have e2_ := HH.blk.cell 2; have f2_ := HH.blk.frozen 2
          have e3_ := HH.blk.cell 3; have f3_ := HH.blk.frozen 3
          have e4_ := HH.blk.cell 4; have f4_ := HH.blk.frozen 4
          simp only [List.getElem?_toArray, List.getElem?_cons_zero, List.getElem?_cons_succ] at e0_ e1_ e2_ e3_ e4_
          have HH3 := (((((HH).cellSet 0 (.int .i64 kd)).cellSet 1 (.int .i64 to_)).cellSet 2 (.bool rw_)).cellSet 3 (.bool ru)).cellSet 4 (.bool rx)
          simp only [List.setIfInBounds_toArray, List.set_cons_zero, List.set_cons_succ] at HH3
          have hY : Chg [sb] u2 (((((u2.setCell ⟨sb, 0, none⟩ (.int .i64 kd)).setCell ⟨sb, 1, none⟩ (.int .i64 to_)).setCell ⟨sb, 2, none⟩ (.bool rw_)).setCell ⟨sb, 3, none⟩ (.bool ru)).setCell ⟨sb, 4, none⟩ (.bool rx)) := ((((((Chg.refl [sb] u2).setCell (p := ⟨sb, 0, none⟩) (by simp) _).setCell (p := ⟨sb, 1, none⟩) (by simp) _).setCell (p := ⟨sb, 2, none⟩) (by simp) _).setCell (p := ⟨sb, 3, none⟩) (by simp) _).setCell (p := ⟨sb, 4, none⟩) (by simp) _)
          refine wpAnyH_ready (rs := [19]) (by kernel_rfl) (by simp) ?_; refine AllReadyH.cons (o := _) rfl (fun K_ hK => ?_) AllReadyH.nil
          go_simp
          refine hK.out _ _ (by (try dsimp only); exact hHeld.trans hY (fun i hi hm => by simp at hm; omega)) (fun hHeld => ?_)
          clear hK K_
          (try simp only [Act.put, List.setIfInBounds_toArray, List.set_cons_zero, List.set_cons_succ])
          clear e0_ f0_ e1_ f1_ e2_ f2_ e3_ f3_ e4_ f4_ hY HH hsb
          generalize (((((u2.setCell ⟨sb, 0, none⟩ (.int .i64 kd)).setCell ⟨sb, 1, none⟩ (.int .i64 to_)).setCell ⟨sb, 2, none⟩ (.bool rw_)).setCell ⟨sb, 3, none⟩ (.bool ru)).setCell ⟨sb, 4, none⟩ (.bool rx)) = u3 at *
          (refine take_on 20 (some 8) (v := ?_) rfl rfl (by kernel_rfl) (by kernel_rfl) (by kernel_rfl) (fun _ _ _ h => h) (by rfl) (by assumption) ?_ ?_; rotate_left; · (intro w hSw; (try dsimp only at hSw); go_simp; (try with_reducible rfl)))
          (try simp only [Act.put, List.setIfInBounds_toArray, List.set_cons_zero, List.set_cons_succ])
          refine wpAnyH_done (by kernel_rfl) ?_ _
          refine NoPanic.normal ?_
          clear hHeld H
          clear hld cS
          go_wp2_with fail
          go_meet
          exact ⟨sb, rfl, rfl, HH3⟩
        · clear HH
          go_simp
          refine hK.out _ _ (by (try dsimp only); exact ((Chg.refl [] wr).alloc _).drew) (fun hHeld => ?_)
          clear hK K_
          (try simp only [Act.put, List.setIfInBounds_toArray, List.set_cons_zero, List.set_cons_succ])
          have HH := (H.alloc #[.int .i64 0, .int .i64 0, .bool false, .bool false, .bool false] 60).new (Chg.refl [] _).drew
          have hsb : wr.heap.size ≤ wr.heap.size := Nat.le_refl _
          generalize (wr.alloc (.cells #[.int .i64 0, .int .i64 0, .bool false, .bool false, .bool false] 60)).drew = u1 at *
          generalize hsb_ : wr.heap.size = sb at hsb HH ⊢
          clear hsb
          have hsb : wr.heap.size ≤ sb := by omega
          refine wpAnyH_ready (rs := [14]) (by kernel_rfl) (by simp) ?_; refine AllReadyH.cons (o := _) rfl (fun K_ hK => ?_) AllReadyH.nil
          go_simp
          (go_at_call 25; refine (cS (HH.tail)).mono ?_; rintro e u2 ⟨rfl, y1⟩)
          refine hK.out _ _ (by (try dsimp only); exact hHeld.trans y1 (by simp)) (fun hHeld => ?_)
          clear hK K_
          (try simp only [Act.put, List.setIfInBounds_toArray, List.set_cons_zero, List.set_cons_succ])
          replace HH := HH.new y1
          clear y1 hsb_
          (refine take_on 15 (some 21) (v := ?_) rfl rfl (by kernel_rfl) (by kernel_rfl) (by kernel_rfl) (fun _ _ _ h => h) (by rfl) (by assumption) ?_ ?_; rotate_left; · (intro w hSw; go_simp; (try with_reducible rfl)))
          (try simp only [Act.put, List.setIfInBounds_toArray, List.set_cons_zero, List.set_cons_succ])
          (refine take_on 16 (some 37) (v := ?_) rfl rfl (by kernel_rfl) (by kernel_rfl) (by kernel_rfl) (fun _ _ _ h => h) (by rfl) (by assumption) ?_ ?_; rotate_left; · (intro w hSw; go_simp; (try with_reducible rfl)))
          (try simp only [Act.put, List.setIfInBounds_toArray, List.set_cons_zero, List.set_cons_succ])
          (refine take_on 17 (some 38) (v := ?_) rfl rfl (by kernel_rfl) (by kernel_rfl) (by kernel_rfl) (fun _ _ _ h => h) (by rfl) (by assumption) ?_ ?_; rotate_left; · (intro w hSw; go_simp; (try with_reducible rfl)))
          (try simp only [Act.put, List.setIfInBounds_toArray, List.set_cons_zero, List.set_cons_succ])
          have e0_ := HH.blk.cell 0; have f0_ := HH.blk.frozen 0
          have e1_ := HH.blk.cell 1; have f1_ := HH.blk.frozen 1
          have e2_ := HH.blk.cell 2; have f2_ := HH.blk.frozen 2
          have e3_ := HH.blk.cell 3; have f3_ := HH.blk.frozen 3
          have e4_ := HH.blk.cell 4; have f4_ := HH.blk.frozen 4
          simp only [List.getElem?_toArray, List.getElem?_cons_zero, List.getElem?_cons_succ] at e0_ e1_ e2_ e3_ e4_
          have HH3 := (((((HH).cellSet 0 (.int .i64 kd)).cellSet 1 (.int .i64 to_)).cellSet 2 (.bool rw_)).cellSet 3 (.bool ru)).cellSet 4 (.bool rx)
          simp only [List.setIfInBounds_toArray, List.set_cons_zero, List.set_cons_succ] at HH3
          have hY : Chg [sb] u2 (((((u2.setCell ⟨sb, 0, none⟩ (.int .i64 kd)).setCell ⟨sb, 1, none⟩ (.int .i64 to_)).setCell ⟨sb, 2, none⟩ (.bool rw_)).setCell ⟨sb, 3, none⟩ (.bool ru)).setCell ⟨sb, 4, none⟩ (.bool rx)) := ((((((Chg.refl [sb] u2).setCell (p := ⟨sb, 0, none⟩) (by simp) _).setCell (p := ⟨sb, 1, none⟩) (by simp) _).setCell (p := ⟨sb, 2, none⟩) (by simp) _).setCell (p := ⟨sb, 3, none⟩) (by simp) _).setCell (p := ⟨sb, 4, none⟩) (by simp) _)
          refine wpAnyH_ready (rs := [19]) (by kernel_rfl) (by simp) ?_; refine AllReadyH.cons (o := _) rfl (fun K_ hK => ?_) AllReadyH.nil
          go_simp
          refine hK.out _ _ (by (try dsimp only); exact hHeld.trans hY (fun i hi hm => by simp at hm; omega)) (fun hHeld => ?_)
          clear hK K_
          (try simp only [Act.put, List.setIfInBounds_toArray, List.set_cons_zero, List.set_cons_succ])
          clear e0_ f0_ e1_ f1_ e2_ f2_ e3_ f3_ e4_ f4_ hY HH hsb
          generalize (((((u2.setCell ⟨sb, 0, none⟩ (.int .i64 kd)).setCell ⟨sb, 1, none⟩ (.int .i64 to_)).setCell ⟨sb, 2, none⟩ (.bool rw_)).setCell ⟨sb, 3, none⟩ (.bool ru)).setCell ⟨sb, 4, none⟩ (.bool rx)) = u3 at *
          (refine take_on 20 (some 8) (v := ?_) rfl rfl (by kernel_rfl) (by kernel_rfl) (by kernel_rfl) (fun _ _ _ h => h) (by rfl) (by assumption) ?_ ?_; rotate_left; · (intro w hSw; (try dsimp only at hSw); go_simp; (try with_reducible rfl)))
          (try simp only [Act.put, List.setIfInBounds_toArray, List.set_cons_zero, List.set_cons_succ])
          refine wpAnyH_done (by kernel_rfl) ?_ _
          refine NoPanic.normal ?_
          clear hHeld H
          clear hld cS
          go_wp2_with fail
          go_meet
          exact ⟨sb, rfl, rfl, HH3⟩
      case rest =>
        obtain ⟨sb, rfl, rfl, H3⟩ := hcut
        clear H hld cS
        have e2_ := H3.blk.cell 2
        simp only [List.getElem?_toArray, List.getElem?_cons_zero, List.getElem?_cons_succ] at e2_
        cases rw_
        · go_wp2_with fail
          go_roundw
          case rel =>
            refine ⟨k + 1, by omega, by go_num, H3.tail, (show Aside _ from fun j x hj hx' => ?_)⟩
            by_cases ej : j = k
            · subst ej; rw [hx.out] at hx'; cases hx'; rw [hy.out]
            · exact hno.out j x (by omega) hx'
          case measure => simp [intOf]; omega
        · have e5_ : wr_ = true := by rw [hwt]; exact ⟨(xf, xi), List.mem_of_getElem? hx.out, by rw [hy.out]⟩
          subst e5_
          go_wp2_with fail
          go_ret
          exact ⟨rfl, ((H3.tail.pick 2 rfl).tail)⟩
    · have ek : k = N := by omega
      subst ek
      have hltz : ¬ (k : Int) < (k : Int) := by omega
      have e5_ : wr_ = false := by
        cases wr_
        · rfl
        · obtain ⟨x, hx, hw⟩ := hwt.1 rfl
          obtain ⟨j, hj, rfl⟩ := List.getElem_of_mem hx
          have := hno.out j _ (by have := hN.out; omega) (List.getElem?_eq_getElem hj)
          rw [hw] at this; cases this
      subst e5_
      go_wp2_with fail
      go_ret
      exact ⟨rfl, (H.pick 2 rfl).tail⟩
end

end Go.Proofs.Ytgjfidjhbkaobaa
