/-
 The document's Reach.
-/
import Derived.Test.YtgjfidjhbkaobaaGreatGRaK
import Derived.Deep.CutRange
namespace Go.Proofs.YtgjfidjhbkaobaaGreat
open Go.RowKit Go.Maps Go.Shelf
theorem pass_doc {P : List Pg} {root p i : Int} {t : Pg} (ht : pgOf P ⟨root, 3, 0⟩ = some t) (N : Nat) : passB P root p i N = ((p == t.f && ((N / 64 : Nat) : Int) == i) || (((slotV P t.f ((N / 64 : Nat) : Int)).kind == 1) && ((p == (slotV P t.f ((N / 64 : Nat) : Int)).to_ && ((N / 8 % 8 : Nat) : Int) == i) || (((slotV P (slotV P t.f ((N / 64 : Nat) : Int)).to_ ((N / 8 % 8 : Nat) : Int)).kind == 1) && (p == (slotV P (slotV P t.f ((N / 64 : Nat) : Int)).to_ ((N / 8 % 8 : Nat) : Int)).to_ && ((N % 8 : Nat) : Int) == i))))) := by
 have hd : ∀ a b c d : Int, decide (a = b ∧ c = d) = (a == b && c == d) := fun a b c d => Bool.eq_iff_iff.2 (by simp)
 have hk : ∀ a : Int, decide (a = 1) = (a == 1) := fun a => Bool.eq_iff_iff.2 (by simp)
 unfold passB
 rw [ht]
 simp only [hd, hk]
 congr 1
 unfold slotV
 cases e1 : slotP P t.f ((N / 64 : Nat) : Int) with
 | none => rfl
 | some x =>
  simp only [Option.getD_some]
  congr 1
  congr 1
  cases e2 : slotP P x.to_ ((N / 8 % 8 : Nat) : Int) with
  | none => rfl
  | some y => rfl
section
variable {w0 w w' : World} {dd gq mp q rp rb t n a m most : Nat} {L : List Int} {v : Value} {s : Sr} {T : List Ht} {ll : List Int} {l : List Th} {d : Gd}
set_option maxRecDepth 100000 in
set_option maxHeartbeats 8000000 in
theorem SepC.rgReach (H : SepC w0 w (blkT dd 99 (gdC gq mp q t (v)) :: ownT (numE .i64) 3 (v) (ll) :: rstT q rp rb n a m (s) :: rtlbT t most (T) :: rmapT mp L :: blkT gq 147 (rguC mp rp) :: l)) (root p i : Int) : Calls Tryz.prog 26 #[.pointer (some ⟨dd, 0, none⟩), .int .i64 root, .int .i64 p, .int .i64 i] w fun e w' => ∃ A c, e = .returned (.slice A (reachP s.L root p i).length c) ∧ SepC w0 w' (ownT (numE .i64) 3 (.slice A (reachP s.L root p i).length c) (reachP s.L root p i) :: blkT dd 99 (gdC gq mp q t (v)) :: ownT (numE .i64) 3 (v) (ll) :: rstT q rp rb n a m (s) :: rtlbT t most (T) :: rmapT mp L :: blkT gq 147 (rguC mp rp) :: l) := by
 have hF := H.at2.rFind ⟨root, 3, 0⟩
 simp only [Ky.cs] at hF
 have c2 := H.blk.cell 2
 unfold gdC at c2
 simp only [qA, qZ, qS] at c2
 have hnn := fun h => reach_none (P := s.L) (root := root) (p := p) (i := i) h
 cases hp_ : pgOf s.L ⟨root, 3, 0⟩ with
 | none =>
  rw [hnn (.inl hp_)]
  rw [hp_] at hF
  simp only [Option.isSome_none] at hF
  clear hp_
  clear hnn
  skip
  go_enter Tryz.func26, Tryz.ntmps26
  go_wp2_with fail
  refine hF.mono ?_; rintro e w1 ⟨rfl, y1⟩
  clear hF c2
  have H1 := (H.new y1).ownNil (numE .i64) 3
  clear H y1
  go_wp2_with fail
  go_loopw [11, 12] (fun s11 s12 wr => s11 = .slice none 0 0 ∧ s12 = .int .i64 0 ∧ SepC w0 wr (ownT (numE .i64) 3 (.slice none 0 0) [] :: blkT dd 99 (gdC gq mp q t (v)) :: ownT (numE .i64) 3 (v) (ll) :: rstT q rp rb n a m (s) :: rtlbT t most (T) :: rmapT mp L :: blkT gq 147 (rguC mp rp) :: l)) (fun _ _ _ => 0)
  case atStart => exact ⟨rfl, rfl, H1⟩
  obtain ⟨rfl, rfl, H⟩ := hrel
  clear H1
  go_wp2_with fail
  go_ret
  exact ⟨none, 0, rfl, H⟩
 | some tp =>
  by_cases hi1 : i < 0
  ·rw [hnn (.inr (by omega))]
   have hd1 : decide (i ≥ 0) = false := decide_eq_false (by omega)
   have hd2 : ¬ i ≥ 0 := by omega
   unfold findV at hF
   rw [hp_] at hF
   simp only [Option.isSome_some, Option.map_some, Option.getD_some] at hF
   clear hp_ hi1
   clear hnn
   skip
   go_enter Tryz.func26, Tryz.ntmps26
   go_wp2_with fail
   refine hF.mono ?_; rintro e w1 ⟨rfl, y1⟩
   clear hF c2
   have H1 := (H.new y1).ownNil (numE .i64) 3
   clear H y1
   go_wp2_with fail
   go_loopw [11, 12] (fun s11 s12 wr => s11 = .slice none 0 0 ∧ s12 = .int .i64 0 ∧ SepC w0 wr (ownT (numE .i64) 3 (.slice none 0 0) [] :: blkT dd 99 (gdC gq mp q t (v)) :: ownT (numE .i64) 3 (v) (ll) :: rstT q rp rb n a m (s) :: rtlbT t most (T) :: rmapT mp L :: blkT gq 147 (rguC mp rp) :: l)) (fun _ _ _ => 0)
   case atStart => exact ⟨rfl, rfl, H1⟩
   obtain ⟨rfl, rfl, H⟩ := hrel
   clear H1
   go_wp2_with fail
   go_ret
   exact ⟨none, 0, rfl, H⟩
  by_cases hi2 : 8 ≤ i
  ·rw [hnn (.inr (by omega))]
   have hd1 : decide (i ≥ 0) = true := decide_eq_true (by omega)
   have hd2 : i ≥ 0 := by omega
   have hd3 : decide (i < 8) = false := decide_eq_false (by omega)
   have hd4 : ¬ i < 8 := by omega
   unfold findV at hF
   rw [hp_] at hF
   simp only [Option.isSome_some, Option.map_some, Option.getD_some] at hF
   clear hp_ hi1 hi2
   clear hnn
   skip
   go_enter Tryz.func26, Tryz.ntmps26
   go_wp2_with fail
   refine hF.mono ?_; rintro e w1 ⟨rfl, y1⟩
   clear hF c2
   have H1 := (H.new y1).ownNil (numE .i64) 3
   clear H y1
   go_wp2_with fail
   go_loopw [11, 12] (fun s11 s12 wr => s11 = .slice none 0 0 ∧ s12 = .int .i64 0 ∧ SepC w0 wr (ownT (numE .i64) 3 (.slice none 0 0) [] :: blkT dd 99 (gdC gq mp q t (v)) :: ownT (numE .i64) 3 (v) (ll) :: rstT q rp rb n a m (s) :: rtlbT t most (T) :: rmapT mp L :: blkT gq 147 (rguC mp rp) :: l)) (fun _ _ _ => 0)
   case atStart => exact ⟨rfl, rfl, H1⟩
   obtain ⟨rfl, rfl, H⟩ := hrel
   clear H1
   go_wp2_with fail
   go_ret
   exact ⟨none, 0, rfl, H⟩
  obtain ⟨I, rfl⟩ := Int.eq_ofNat_of_zero_le (show 0 ≤ i by omega)
  have hI : I < 8 := by omega
  clear hnn hi1 hi2
  have hps := fun N => pass_doc (p := p) (i := (I : Int)) hp_ N
  unfold findV at hF
  rw [hp_] at hF
  simp only [Option.isSome_some, Option.map_some, Option.getD_some] at hF
  clear hp_
  obtain ⟨K, hK0, hKe, hKs, hKl⟩ : ∃ K : Nat → List Int, K 0 = [] ∧ K 512 = reachP s.L root p (I : Int) ∧ (∀ j, K (j + 1) = if passB s.L root p (I : Int) j = true then K j ++ [(j : Int)] else K j) ∧ ∀ j, (K j).length ≤ j := by
   refine ⟨fun j => ((List.range j).filter fun k => passB s.L root p (I : Int) k).map fun k : Nat => (k : Int), rfl, ?_, fun j => ?_, fun j => ?_⟩
   ·unfold reachP
    show List.map _ (List.filter _ (List.range 512)) = List.map _ (List.filter _ (List.range 512))
    congr 1
    apply List.filter_congr
    intro k _
    rw [decide_eq_true (by omega), Bool.true_and]
   ·show List.map _ (List.filter _ (List.range (j + 1))) = _
    rw [List.range_succ, List.filter_append, List.map_append]
    cases hb : passB s.L root p (I : Int) j <;> simp [hb]
   rw [List.length_map]
   exact Nat.le_trans (List.length_filter_le _ _) (by simp)
  rw [← hKe]
  replace hK0 := Lib.hid hK0; replace hKe := Lib.hid hKe; replace hKs := Lib.hid hKs; replace hKl := Lib.hid hKl
  obtain ⟨tf, htf⟩ : ∃ tf, tp.f = tf := ⟨_, rfl⟩
  rw [htf] at hF hps
  clear htf
  replace hps := Lib.hid hps
  have hd1 : decide ((I : Int) ≥ 0) = true := decide_eq_true (by omega)
  have hd2 : (I : Int) ≥ 0 := by omega
  have hd3 : decide ((I : Int) < 8) = true := decide_eq_true (by omega)
  have hd4 : (I : Int) < 8 := by omega
  go_enter Tryz.func26, Tryz.ntmps26
  go_wp2_with fail
  refine hF.mono ?_; rintro e w1 ⟨rfl, y1⟩
  clear hF c2
  have H1 := (H.new y1).ownNil (numE .i64) 3
  clear H y1
  go_wp2_with fail
  go_loopw [11, 12] (fun s11 s12 wr => ∃ (j : Nat) (A0 : Option Addr) (c0 : Nat), j ≤ 512 ∧ s12 = .int .i64 j ∧ s11 = .slice A0 (K j).length c0 ∧ SepC w0 wr (ownT (numE .i64) 3 (.slice A0 (K j).length c0) (K j) :: blkT dd 99 (gdC gq mp q t (v)) :: ownT (numE .i64) 3 (v) (ll) :: rstT q rp rb n a m (s) :: rtlbT t most (T) :: rmapT mp L :: blkT gq 147 (rguC mp rp) :: l)) (fun _ s12 _ => 512 - (intOf s12).toNat)
  case atStart => exact ⟨0, none, 0, by omega, rfl, by rw [hK0.out]; rfl, by rw [hK0.out]; exact H1⟩
  clear H1
  obtain ⟨j, A0, c0, hj, rfl, rfl, H⟩ := hrel
  by_cases hlt : j < 512
  ·have hltz : (j : Int) < 512 := by omega
   have hst := hKs.out j
   have hl := hKl.out j
   rw [hps.out j] at hst
   obtain ⟨a1, ha, ha8⟩ : ∃ a1 : Nat, j / 64 = a1 ∧ a1 < 8 := ⟨_, rfl, by omega⟩
   obtain ⟨b, hb, hb8⟩ : ∃ b : Nat, j / 8 % 8 = b ∧ b < 8 := ⟨_, rfl, by omega⟩
   obtain ⟨c, hc, hc8⟩ : ∃ c : Nat, j % 8 = c ∧ c < 8 := ⟨_, rfl, by omega⟩
   rw [ha, hb, hc] at hst
   have za : (j : Int) / 64 = (a1 : Int) := by omega
   have zb : (j : Int) / 8 % 8 = (b : Int) := by omega
   have zc : (j : Int) % 8 = (c : Int) := by omega
   have ta : Int.tdiv (j : Int) 64 = (a1 : Int) := by rw [Int.tdiv_eq_ediv_of_nonneg (by omega)]; exact za
   have tb0 : Int.tdiv (j : Int) 8 = (j : Int) / 8 := Int.tdiv_eq_ediv_of_nonneg (by omega)
   have tb : Int.tmod ((j : Int) / 8) 8 = (b : Int) := by rw [Int.tmod_eq_emod_of_nonneg (by omega)]; exact zb
   have tc : Int.tmod (j : Int) 8 = (c : Int) := by rw [Int.tmod_eq_emod_of_nonneg (by omega)]; exact zc
   clear ha hb hc
   have cS1 := fun {z : World} {l' : List Th} (H' : SepC w0 z (rstT q rp rb n a m s :: l')) => H'.rSlot tf (a1 : Int)
   have cS2 := fun {z : World} {l' : List Th} (H' : SepC w0 z (rstT q rp rb n a m s :: l')) => H'.rSlot (slotV s.L tf (a1 : Int)).to_ (b : Int)
   generalize (slotP s.L tf (a1 : Int)).isSome = is1 at *
   generalize (slotP s.L (slotV s.L tf (a1 : Int)).to_ (b : Int)).isSome = is2 at *
   generalize slotV s.L (slotV s.L tf (a1 : Int)).to_ (b : Int) = y at *
   generalize slotV s.L tf (a1 : Int) = x at *
   obtain ⟨xk, xt, ⟨xw, xu, xx⟩⟩ := x
   obtain ⟨yk, yt, ⟨yw, yu, yx⟩⟩ := y
   simp only [Slt.cl] at cS1 cS2
   simp only at hst cS2
   obtain ⟨e1, h_e1⟩ : ∃ b_, (p == tf) = b_ := ⟨_, rfl⟩
   rw [h_e1] at hst
   obtain ⟨m1, h_m1⟩ : ∃ b_, ((a1 : Int) == (I : Int)) = b_ := ⟨_, rfl⟩
   rw [h_m1] at hst
   obtain ⟨x1, h_x1⟩ : ∃ b_, (xk == 1) = b_ := ⟨_, rfl⟩
   rw [h_x1] at hst
   obtain ⟨e2, h_e2⟩ : ∃ b_, (p == xt) = b_ := ⟨_, rfl⟩
   rw [h_e2] at hst
   obtain ⟨m2, h_m2⟩ : ∃ b_, ((b : Int) == (I : Int)) = b_ := ⟨_, rfl⟩
   rw [h_m2] at hst
   obtain ⟨y1, h_y1⟩ : ∃ b_, (yk == 1) = b_ := ⟨_, rfl⟩
   rw [h_y1] at hst
   obtain ⟨e3, h_e3⟩ : ∃ b_, (p == yt) = b_ := ⟨_, rfl⟩
   rw [h_e3] at hst
   obtain ⟨m3, h_m3⟩ : ∃ b_, ((c : Int) == (I : Int)) = b_ := ⟨_, rfl⟩
   rw [h_m3] at hst
   obtain ⟨mn, hmn⟩ : ∃ mn, (e1 && m1 || x1 && (e2 && m2 || y1 && (e3 && m3))) = mn := ⟨_, rfl⟩
   rw [hmn] at hst
   replace hst := Lib.hid hst; replace hmn := Lib.hid hmn
   obtain ⟨M, hM⟩ : ∃ M, (K j).length = M := ⟨_, rfl⟩
   rw [hM] at H hl
   rw [hM]
   replace hM := Lib.hid hM
   have d2 := (H.pick 1 rfl).blk.cell 2
   unfold gdC at d2
   simp only [qA, qZ, qS] at d2
   go_wp2_with fail
   refine (cS1 (H.pick 3 rfl)).mono ?_; rintro e u1 ⟨rfl, y_⟩
   have HX := (H.new y_).alloc #[.int .i64 xk, .int .i64 xt, .bool xw, .bool xu, .bool xx] 72
   clear cS1 d2 H y_
   go_upto_region 10 with fail
   generalize u1.alloc (.cells #[.int .i64 xk, .int .i64 xt, .bool xw, .bool xu, .bool xx] 72) = u2 at *
   generalize u1.heap.size = xb at *
   have H := HX
   clear HX
   go_cut [18, 19] from 63 to 73 (fun xv iv wx => ∃ yb : Nat, xv = .pointer (some ⟨yb, 0, none⟩) ∧ iv = .bool is2 ∧ SepC w0 wx (blkT yb 72 #[.int .i64 yk, .int .i64 yt, .bool yw, .bool yu, .bool yx] :: blkT xb 72 #[.int .i64 xk, .int .i64 xt, .bool xw, .bool xu, .bool xx] :: ownT (numE .i64) 3 (.slice A0 M c0) (K j) :: blkT dd 99 (gdC gq mp q t (v)) :: ownT (numE .i64) 3 (v) (ll) :: rstT q rp rb n a m (s) :: rtlbT t most (T) :: rmapT mp L :: blkT gq 147 (rguC mp rp) :: l))
   case first =>
    have HH := H.new (Chg.refl [] u2).drew
    refine wp_region_noPanic ?_
    refine wp_region_held_drew (S := (fun w' => Chg [] u2 w')) (by kernel_rfl) ?_ (fun hHeld => ?_)
    ·exact (Chg.refl [] u2).drew
    (refine tk 0 64 ?_ ?_ ?_; rotate_left; · (intro w hSw; (try dsimp only at hSw); go_simp; (try with_reducible rfl)))
    (try simp only [Act.put, qI, qO, qU])
    (refine tk 1 65 ?_ ?_ ?_; rotate_left; · (intro w hSw; (try dsimp only at hSw); go_simp; (try with_reducible rfl)))
    (try simp only [Act.put, qI, qO, qU])
    (refine tk 2 66 ?_ ?_ ?_; rotate_left; · (intro w hSw; (try dsimp only at hSw); go_simp; (try with_reducible rfl)))
    (try simp only [Act.put, qI, qO, qU])
    (refine tk 3 67 ?_ ?_ ?_; rotate_left; · (intro w hSw; (try dsimp only at hSw); have l1_ := (H.new hSw).blk.cell 1; have l0_ := ((H.new hSw).pick 2 rfl).blk.cell 2; unfold gdC at l0_; simp only [qA, qZ, qS] at l0_ l1_; go_simp; (try with_reducible rfl)))
    (try simp only [Act.put, qI, qO, qU])
    (refine tk 4 68 ?_ ?_ ?_; rotate_left; · (intro w hSw; (try dsimp only at hSw); go_simp; (try with_reducible rfl)))
    (try simp only [Act.put, qI, qO, qU])
    (refine tk 5 69 ?_ ?_ ?_; rotate_left; · (intro w hSw; (try dsimp only at hSw); have l1_ := (H.new hSw).blk.cell 1; have l0_ := ((H.new hSw).pick 2 rfl).blk.cell 2; unfold gdC at l0_; simp only [qA, qZ, qS] at l0_ l1_; go_simp; (try with_reducible rfl)))
    (try simp only [Act.put, qI, qO, qU])
    (refine tk 6 70 ?_ ?_ ?_; rotate_left; · (intro w hSw; (try dsimp only at hSw); go_simp; (try with_reducible rfl)))
    (try simp only [Act.put, qI, qO, qU])
    refine wpAnyH_ready (rs := [7, 11]) (by kernel_rfl) (by simp) ?_; refine AllReadyH.cons (o := _) rfl (fun K_ hK => ?_) (AllReadyH.cons (o := _) rfl (fun K_ hK => ?_) AllReadyH.nil)
    ·go_simp
     (go_at_call 75; refine (cS2 (HH.pick 4 rfl)).mono ?_; rintro e u1 ⟨rfl, y1⟩)
     refine hK.out _ _ (by (try dsimp only); exact hHeld.trans y1 (by simp)) (fun hHeld => ?_)
     clear hK K_
     (try simp only [Act.put, qI, qO, qU])
     replace HH := HH.new y1
     clear y1
     have hsb : u2.heap.size ≤ u1.heap.size := hHeld.size
     (refine tk 8 63 ?_ ?_ ?_; rotate_left; · (intro w hSw; go_simp; (try with_reducible rfl)))
     (try simp only [Act.put, qI, qO, qU])
     (refine tk 9 72 ?_ ?_ ?_; rotate_left; · (intro w hSw; go_simp; (try with_reducible rfl)))
     (try simp only [Act.put, qI, qO, qU])
     (refine tk 10 73 ?_ ?_ ?_; rotate_left; · (intro w hSw; go_simp; (try with_reducible rfl)))
     (try simp only [Act.put, qI, qO, qU])
     refine rdy 11 fun K_ hK => ?_
     go_simp
     refine hK.out _ _ (by (try dsimp only); exact hHeld.alloc _) (fun hHeld => ?_)
     clear hK K_
     (try simp only [Act.put, qI, qO, qU])
     replace HH := HH.alloc #[.int .i64 0, .int .i64 0, .bool false, .bool false, .bool false] 72
     generalize u1.alloc (.cells #[.int .i64 0, .int .i64 0, .bool false, .bool false, .bool false] 72) = u2 at *
     generalize u1.heap.size = sb at *
     have e0_ := HH.blk.cell 0; have f0_ := HH.blk.frozen 0
     have e1_ := HH.blk.cell 1; have f1_ := HH.blk.frozen 1
     have e2_ := HH.blk.cell 2; have f2_ := HH.blk.frozen 2
     have e3_ := HH.blk.cell 3; have f3_ := HH.blk.frozen 3
     have e4_ := HH.blk.cell 4; have f4_ := HH.blk.frozen 4
     simp only [qA, qZ, qS] at e0_ e1_ e2_ e3_ e4_
     have HH3 := (((((HH).cellSet 0 (.int .i64 yk)).cellSet 1 (.int .i64 yt)).cellSet 2 (.bool yw)).cellSet 3 (.bool yu)).cellSet 4 (.bool yx)
     simp only [qI, qO, qU] at HH3
     have hY : Chg [sb] u2 (((((u2.setCell ⟨sb, 0, none⟩ (.int .i64 yk)).setCell ⟨sb, 1, none⟩ (.int .i64 yt)).setCell ⟨sb, 2, none⟩ (.bool yw)).setCell ⟨sb, 3, none⟩ (.bool yu)).setCell ⟨sb, 4, none⟩ (.bool yx)) := ((((((Chg.refl [sb] u2).setCell (p := ⟨sb, 0, none⟩) (by simp) _).setCell (p := ⟨sb, 1, none⟩) (by simp) _).setCell (p := ⟨sb, 2, none⟩) (by simp) _).setCell (p := ⟨sb, 3, none⟩) (by simp) _).setCell (p := ⟨sb, 4, none⟩) (by simp) _)
     refine rdy 12 fun K_ hK => ?_
     go_simp
     refine hK.out _ _ (by (try dsimp only); exact hHeld.trans hY (fun i hi hm => by simp at hm; omega)) (fun hHeld => ?_)
     clear hK K_
     (try simp only [Act.put, qI, qO, qU])
     clear e0_ f0_ e1_ f1_ e2_ f2_ e3_ f3_ e4_ f4_ hY HH hsb
     generalize (((((u2.setCell ⟨sb, 0, none⟩ (.int .i64 yk)).setCell ⟨sb, 1, none⟩ (.int .i64 yt)).setCell ⟨sb, 2, none⟩ (.bool yw)).setCell ⟨sb, 3, none⟩ (.bool yu)).setCell ⟨sb, 4, none⟩ (.bool yx)) = u3 at *
     (refine tk 13 19 ?_ ?_ ?_; rotate_left; · (intro w hSw; (try dsimp only at hSw); go_simp; (try with_reducible rfl)))
     (try simp only [Act.put, qI, qO, qU])
     refine wpAnyH_done (by kernel_rfl) ?_ _
     refine NoPanic.normal ?_
     clear hHeld H
     clear cS2
     go_wp2_with fail
     go_meet
     exact ⟨sb, rfl, rfl, HH3⟩
    clear HH
    go_simp
    refine hK.out _ _ (by (try dsimp only); exact ((Chg.refl [] u2).alloc _).drew) (fun hHeld => ?_)
    clear hK K_
    (try simp only [Act.put, qI, qO, qU])
    have HH := (H.alloc #[.int .i64 0, .int .i64 0, .bool false, .bool false, .bool false] 72).new (Chg.refl [] _).drew
    have hsb : u2.heap.size ≤ u2.heap.size := Nat.le_refl _
    generalize (u2.alloc (.cells #[.int .i64 0, .int .i64 0, .bool false, .bool false, .bool false] 72)).drew = u1 at *
    generalize hsb_ : u2.heap.size = sb at hsb HH ⊢
    clear hsb
    have hsb : u2.heap.size ≤ sb := by omega
    refine rdy 7 fun K_ hK => ?_
    go_simp
    (go_at_call 75; refine (cS2 ((HH.tail).pick 4 rfl)).mono ?_; rintro e u2 ⟨rfl, y1⟩)
    refine hK.out _ _ (by (try dsimp only); exact hHeld.trans y1 (by simp)) (fun hHeld => ?_)
    clear hK K_
    (try simp only [Act.put, qI, qO, qU])
    replace HH := HH.new y1
    clear y1 hsb_
    (refine tk 8 63 ?_ ?_ ?_; rotate_left; · (intro w hSw; go_simp; (try with_reducible rfl)))
    (try simp only [Act.put, qI, qO, qU])
    (refine tk 9 72 ?_ ?_ ?_; rotate_left; · (intro w hSw; go_simp; (try with_reducible rfl)))
    (try simp only [Act.put, qI, qO, qU])
    (refine tk 10 73 ?_ ?_ ?_; rotate_left; · (intro w hSw; go_simp; (try with_reducible rfl)))
    (try simp only [Act.put, qI, qO, qU])
    have e0_ := HH.blk.cell 0; have f0_ := HH.blk.frozen 0
    have e1_ := HH.blk.cell 1; have f1_ := HH.blk.frozen 1
    have e2_ := HH.blk.cell 2; have f2_ := HH.blk.frozen 2
    have e3_ := HH.blk.cell 3; have f3_ := HH.blk.frozen 3
    have e4_ := HH.blk.cell 4; have f4_ := HH.blk.frozen 4
    simp only [qA, qZ, qS] at e0_ e1_ e2_ e3_ e4_
    have HH3 := (((((HH).cellSet 0 (.int .i64 yk)).cellSet 1 (.int .i64 yt)).cellSet 2 (.bool yw)).cellSet 3 (.bool yu)).cellSet 4 (.bool yx)
    simp only [qI, qO, qU] at HH3
    have hY : Chg [sb] u2 (((((u2.setCell ⟨sb, 0, none⟩ (.int .i64 yk)).setCell ⟨sb, 1, none⟩ (.int .i64 yt)).setCell ⟨sb, 2, none⟩ (.bool yw)).setCell ⟨sb, 3, none⟩ (.bool yu)).setCell ⟨sb, 4, none⟩ (.bool yx)) := ((((((Chg.refl [sb] u2).setCell (p := ⟨sb, 0, none⟩) (by simp) _).setCell (p := ⟨sb, 1, none⟩) (by simp) _).setCell (p := ⟨sb, 2, none⟩) (by simp) _).setCell (p := ⟨sb, 3, none⟩) (by simp) _).setCell (p := ⟨sb, 4, none⟩) (by simp) _)
    refine rdy 12 fun K_ hK => ?_
    go_simp
    refine hK.out _ _ (by (try dsimp only); exact hHeld.trans hY (fun i hi hm => by simp at hm; omega)) (fun hHeld => ?_)
    clear hK K_
    (try simp only [Act.put, qI, qO, qU])
    clear e0_ f0_ e1_ f1_ e2_ f2_ e3_ f3_ e4_ f4_ hY HH hsb
    generalize (((((u2.setCell ⟨sb, 0, none⟩ (.int .i64 yk)).setCell ⟨sb, 1, none⟩ (.int .i64 yt)).setCell ⟨sb, 2, none⟩ (.bool yw)).setCell ⟨sb, 3, none⟩ (.bool yu)).setCell ⟨sb, 4, none⟩ (.bool yx)) = u3 at *
    (refine tk 13 19 ?_ ?_ ?_; rotate_left; · (intro w hSw; (try dsimp only at hSw); go_simp; (try with_reducible rfl)))
    (try simp only [Act.put, qI, qO, qU])
    refine wpAnyH_done (by kernel_rfl) ?_ _
    refine NoPanic.normal ?_
    clear hHeld H
    clear cS2
    go_wp2_with fail
    go_meet
    exact ⟨sb, rfl, rfl, HH3⟩
   obtain ⟨yb, rfl, rfl, H3⟩ := hcut
   clear H cS2
   have x_0 := (H3.pick 1 rfl).blk.cell 0; have x_1 := (H3.pick 1 rfl).blk.cell 1; have y_0 := H3.blk.cell 0; have y_1 := H3.blk.cell 1
   simp only [qA, qZ, qS] at x_0 x_1 y_0 y_1
   go_upto_region 11 with fail
   go_cut [20] from 74 to 81 (fun cv wx => cv = .bool (e1 && m1) ∧ wx = wc)
   case first => cases e1 <;> (go_wp2_with fail; go_meet; exact ⟨rfl, rfl⟩)
   obtain ⟨rfl, rfl⟩ := hcut
   obtain ⟨k1, hk1⟩ : ∃ k1, (e1 && m1) = k1 := ⟨_, rfl⟩
   rw [hk1]
   skip
   go_upto_if 84 with fail
   go_cut [20] from 82 to 111 (fun cv wx => cv = .bool (k1 || x1 && (e2 && m2 || y1 && (e3 && m3))) ∧ wx = wc)
   case first =>
    cases x1
    ·go_wp2_with fail
     go_meet
     exact ⟨by cases k1 <;> rfl, rfl⟩
    cases k1
    ·cases e2
     ·cases y1
      ·go_wp2_with fail
       go_meet
       exact ⟨by first | rfl | simp, rfl⟩
      cases e3
      ·go_wp2_with fail
       go_meet
       exact ⟨by first | rfl | simp, rfl⟩
      go_wp2_with fail
      go_meet
      exact ⟨by first | rfl | simp, rfl⟩
     cases m2
     ·cases y1
      ·go_wp2_with fail
       go_meet
       exact ⟨by first | rfl | simp, rfl⟩
      cases e3
      ·go_wp2_with fail
       go_meet
       exact ⟨by first | rfl | simp, rfl⟩
      go_wp2_with fail
      go_meet
      exact ⟨by first | rfl | simp, rfl⟩
     cases y1
     ·go_wp2_with fail
      go_meet
      exact ⟨by first | rfl | simp, rfl⟩
     go_wp2_with fail
     go_meet
     exact ⟨by first | rfl | simp, rfl⟩
    cases y1
    ·go_wp2_with fail
     go_meet
     exact ⟨by first | rfl | simp, rfl⟩
    go_wp2_with fail
    go_meet
    exact ⟨by first | rfl | simp, rfl⟩
   obtain ⟨rfl, rfl⟩ := hcut
   have hm2 : (k1 || x1 && (e2 && m2 || y1 && (e3 && m3))) = mn := by rw [← hk1]; exact hmn.out
   rw [hm2]
   clear hm2 hk1 hmn h_e1 h_m1 h_x1 h_e2 h_m2 h_y1 h_e3 h_m3 x_0 x_1 y_0 y_1
   have H := H3.tail.tail
   clear H3
   cases mn
   ·have e_ : K (j + 1) = K j := by rw [hst.out]; rfl
    replace e_ := Lib.hid e_
    go_wp2_with fail
    go_roundw
    case rel => exact ⟨j + 1, A0, c0, by omega, by go_num, by rw [e_.out, hM.out], by rw [e_.out, hM.out]; exact H⟩
    case measure => simp [intOf]; omega
   have e_ : K (j + 1) = K j ++ [(j : Int)] := by rw [hst.out]; rfl
   replace e_ := Lib.hid e_
   have hown := H.own
   have k4 := ((Chg.refl [] wc).alloc (.cells #[.int .i64 (j : Int)] 3))
   have hown4 := hown.new k4
   have hsrc4 : Src (wc.alloc (.cells #[.int .i64 (j : Int)] 3)) (numE .i64).k (some ⟨wc.heap.size, 0, none⟩) 1 1 ((numE .i64).all [(j : Int)]) := (OwnG.lit (E := numE .i64) (L := [(j : Int)]) (Blk.new wc 3 #[.int .i64 (j : Int)]) (by simp)).src
   go_wp2_with (at_builtin; refine wpList_append_G (E := numE .i64) rfl _ _ 56 rfl 3 (.int .i64 0) 8 Tryz.underlying56 int_info rfl (.slice A0 M c0) (K j) rfl hown4 (some ⟨wc.heap.size, 0, none⟩) 1 1 [(j : Int)] rfl hsrc4 rfl (by have := hM.out; omega) ?_; intro v5 w5 ho5 hc5 hb5; obtain ⟨A5, c5, rfl, _, _⟩ := ho5.form; rw [← e_.out] at ho5 hb5)
   have H6 := (H.new k4).app ho5 hc5 hb5
   clear H hown hown4 hsrc4 ho5 hc5 hb5 k4
   go_roundw
   case rel => exact ⟨j + 1, A5, c5, by omega, by go_num, by (rw [e_.out, List.length_append, hM.out]; rfl), by rw [e_.out] at H6 ⊢; exact H6⟩
   case measure => simp [intOf]; omega
  have ej : j = 512 := by omega
  subst ej
  have hltz : ¬ ((512 : Nat) : Int) < 512 := by omega
  go_wp2_with fail
  go_ret
  exact ⟨A0, c0, rfl, H⟩
end
end Go.Proofs.YtgjfidjhbkaobaaGreat
