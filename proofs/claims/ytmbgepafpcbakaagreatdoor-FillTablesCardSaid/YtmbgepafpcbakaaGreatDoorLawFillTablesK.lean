/-
 FillTables: the law, walked from contracts.
-/
import Derived.Test.YtmbgepafpcbakaaGreatDoorFlNK
import Derived.Deep.CutRange
namespace Go.Proofs.YtmbgepafpcbakaaGreatDoor
open Go.RowKit Go.Maps
set_option maxRecDepth 100000 in
set_option maxHeartbeats 20000000 in
theorem lawFillTables_any (A : Option Addr) (n c : Nat) (P : List Pu) (B : Option Addr) (m e0 : Nat) (L : List Fst) (w : World) (hP : SlP w A n P) (hl : FopsIn w B m L) (hE : ErrIn w) :
  Calls Tryz.prog 7 #[.slice A n c, .slice B m e0] w fun e w' => e = .returned (.bool true) ∧ Chg [] w w' := by
 have hHd := fun w' (h : ErrIn w') => FHead_any w' h
 have hGr := fun z => Great17_any A n c B m e0 z
 have hmm := hl.sl.len
 have hm9 := hl.sl.le
 replace hmm := Lib.hid hmm
 have H0 := SepC.nil w
 cases hg_ : (decide (n > 600) || decide (m > 60))
 rotate_left
 ·rw [hg_] at hGr
  go_enter Tryz.func7, Tryz.ntmps7
  go_wp2_with fail
  refine (hHd _ (hE.new H0.1)).mono ?_; rintro e z1 ⟨rfl, y1⟩
  have H1 := H0.new y1
  clear H0 y1 hHd
  go_wp2_with fail
  refine (Made16_at (hP.self H1.1)).mono ?_; intro e z2 hMP
  unfold MadeP16 at hMP
  obtain ⟨wb, dd, gq, mp, q, hp, hb, t, rfl, HM⟩ := hMP
  have H := H1.merge HM
  clear H1 HM hP
  go_wp2_with fail
  refine (hGr _).mono ?_; rintro e z3 ⟨rfl, rfl⟩
  clear hGr
  go_wp2_with fail
  go_ret
  exact ⟨rfl, H.1⟩
 rw [hg_] at hGr
 clear hg_
 go_enter Tryz.func7, Tryz.ntmps7
 go_wp2_with fail
 refine (hHd _ (hE.new H0.1)).mono ?_; rintro e z1 ⟨rfl, y1⟩
 have H1 := H0.new y1
 clear H0 y1 hHd
 go_wp2_with fail
 refine (Made16_at (hP.self H1.1)).mono ?_; intro e z2 hMP
 unfold MadeP16 at hMP
 obtain ⟨wb, dd, gq, mp, q, hp, hb, t, rfl, HM⟩ := hMP
 have H := H1.merge HM
 clear H1 HM hP
 go_wp2_with fail
 refine (hGr _).mono ?_; rintro e z3 ⟨rfl, rfl⟩
 clear hGr
 go_wp2_with fail
 refine H.fMade.mono ?_; rintro e z4 ⟨fq, mq, rfl, H_⟩
 clear H
 have H := H_
 clear H_
 go_wp2_with fail
 replace H : SepC w _ (gdT dd gq mp q hp hb t 40 4 8 8 gl16 (opsF (gd0 (madeG P)) (L.take 0)) :: blkT wb 51 (wdC hp gq q t dd) :: blkT fq 202 (flC gq mq q dd) :: mapT mq gl16 :: []) := H
 go_loopw [8] (fun s_ wr => ∃ k : Nat, k ≤ m ∧ s_ = .int .i64 k ∧ SepC w wr (gdT dd gq mp q hp hb t 40 4 8 8 gl16 (opsF (gd0 (madeG P)) (L.take k)) :: blkT wb 51 (wdC hp gq q t dd) :: blkT fq 202 (flC gq mq q dd) :: mapT mq gl16 :: [])) (fun s_ _ => m - (intOf s_).toNat)
 case atStart => exact ⟨0, Nat.zero_le _, rfl, H⟩
 clear H
 obtain ⟨k, hk, rfl, H⟩ := hrel
 by_cases hlt : k < m
 ·have hltz : (k : Int) < (m : Int) := by omega
  obtain ⟨b, off, o, rfl, ho, c0, c1, c2, c3, c4, c5, c6, c7, c8⟩ := fopE_cells (hl.new H.1).sl hlt
  have hD := H.fDo o (hl.at_ ho) (FdO.take L k (FdO.made P)) (hE.new H.1)
  rw [← opsF_take ho] at hD
  simp only [Fst.cs] at hD
  have hF : FdO (opsF (gd0 (madeG P)) (L.take (k + 1))) := FdO.take L (k + 1) (FdO.made P)
  generalize (doF (opsF (gd0 (madeG P)) (L.take k)) o).2 = R_ at hD
  obtain ⟨D, hDk⟩ : ∃ D, opsF (gd0 (madeG P)) (L.take (k + 1)) = D := ⟨_, rfl⟩
  rw [hDk] at hD hF
  replace hDk := Lib.hid hDk
  clear H
  go_wp2_with fail
  refine hD.mono ?_; rintro e w2 ⟨A9, c9, rfl, H2⟩
  clear hD c0 c1 c2 c3 c4 c5 c6 c7 c8
  have H := H2.tail
  clear H2 ho
  have cA := fun {z : World} {l' : List Th} (H' : SepC w z (gdT dd gq mp q hp hb t 40 4 8 8 gl16 (D) :: l')) => H'.kPages
  simp only [List.length_map] at cA
  have hpl := fun j (hj : j < D.s.L.length) => hF.gd.sr.pageAt hj
  have hts := fun j i (hi : i < 8) q_ (hq : D.s.L[j]? = some q_) => tables_slot hF (j := j) hi hq
  have hcnt_ : D.s.L.length ≤ 8 := by have := hF.gd.sr.cnt; omega
  clear hF
  obtain ⟨N7, hN7⟩ : ∃ N7, D.s.L.length = N7 := ⟨_, rfl⟩
  have hn7 := hcnt_
  rw [hN7] at cA hpl hn7
  clear hN7 hcnt_
  obtain ⟨F7, hF7⟩ : ∃ F7, D.s.L.map Pg.f = F7 := ⟨_, rfl⟩
  rw [hF7] at cA hpl
  clear hF7
  have w_ := wdC_cells (H.pick 1 rfl).blk
  go_wp2_with fail
  refine (cA H).mono ?_; rintro e z5 ⟨A7, c7, rfl, H_⟩
  clear cA H w_
  have H9 : SepC w z5 (gdT dd gq mp q hp hb t 40 4 8 8 gl16 (D) :: blkT wb 51 (wdC hp gq q t dd) :: blkT fq 202 (flC gq mq q dd) :: mapT mq gl16 :: ownT (numE .i64) 3 (.slice A7 N7 c7) F7 :: []) := (((((H_.pick 0 rfl).pick 4 rfl).pick 4 rfl).pick 4 rfl).pick 4 rfl)
  clear H_
  go_wp2_with fail
  go_loopw [10] (fun s10 wr => ∃ j : Nat, j ≤ N7 ∧ s10 = .int .i64 j ∧ SepC w wr (gdT dd gq mp q hp hb t 40 4 8 8 gl16 (D) :: blkT wb 51 (wdC hp gq q t dd) :: blkT fq 202 (flC gq mq q dd) :: mapT mq gl16 :: ownT (numE .i64) 3 (.slice A7 N7 c7) F7 :: [])) (fun s10 _ => N7 - (intOf s10).toNat)
  case atStart => exact ⟨0, Nat.zero_le _, rfl, H9⟩
  clear H9
  obtain ⟨j, hj, rfl, H⟩ := hrel
  by_cases hjl : j < N7
  ·have hjz : (j : Int) < (N7 : Int) := by omega
   obtain ⟨qj, hq0, hqm, hqa, hqk, hqr, hqF⟩ := hpl j hjl
   have hsq := fun i hi => hts j i hi qj hq0
   obtain ⟨ab, aoff, ax, rfl, _, hax, hac⟩ := SlN.get (H.pick 4 rfl).own.slg hjl
   clear hac hax hq0 hqm hpl hts
   replace hqF := Lib.hid hqF
   have cK := fun {z : World} {l_ : List Th} (H' : SepC w z (gdT dd gq mp q hp hb t 40 4 8 8 gl16 (D) :: l_)) => H'.kKey qj.f hqr
   simp only [hqk, hqa, Option.isSome_some] at cK
   clear hqa hqk
   generalize qj.k = kj at *
   obtain ⟨kg, kl, kr⟩ := kj
   simp only [Ky.cs] at cK
   simp only at hsq
   have hld : ∀ z, Chg [] wr z → (z.cell? ⟨wb, 2, none⟩ = some (.pointer (some ⟨q, 0, none⟩)) ∧ z.cell? ⟨ab, aoff + j, none⟩ = some (.int .i64 qj.f)) := fun z hz => by
    have H2 := H.new hz
    obtain ⟨b_, o_, x_, e_, _, h_, t2_⟩ := SlN.get (H2.pick 4 rfl).own.slg hjl
    cases e_; rw [hqF.out] at h_; cases h_
    exact ⟨(wdC_cells (H2.pick 1 rfl).blk).2.2.1, t2_⟩
   go_upto_region 16 with fail
   go_cut [11, 12] from 61 to 72 (fun xv iv wx => ∃ sb : Nat, xv = .pointer (some ⟨sb, 0, none⟩) ∧ iv = .bool true ∧ SepC w wx (blkT sb 85 #[.int .i64 kg, .int .i64 kl, .int .i64 kr] :: gdT dd gq mp q hp hb t 40 4 8 8 gl16 (D) :: blkT wb 51 (wdC hp gq q t dd) :: blkT fq 202 (flC gq mq q dd) :: mapT mq gl16 :: ownT (numE .i64) 3 (.slice (some ⟨ab, aoff, none⟩) N7 c7) F7 :: []))
   case first =>
    have HH := H.new (Chg.refl [] wr).drew
    refine wp_region_noPanic ?_
    refine wp_region_held_drew (S := (fun w' => Chg [] wr w')) (by kernel_rfl) ?_ (fun hHeld => ?_)
    ·exact (Chg.refl [] wr).drew
    refine tq 0 62 _ ?_
    refine tq 1 63 _ ?_
    refine tq 2 64 _ ?_
    (refine tk 3 65 ?_ ?_ ?_; rotate_left; · (intro w hSw; (try dsimp only at hSw); obtain ⟨l0_, l1_⟩ := hld _ hSw; go_simp; (try with_reducible rfl)))
    (try simp only [Act.put, qI, qO, qU])
    refine tq 4 66 _ ?_
    refine tq 5 67 _ ?_
    refine tq 6 68 _ ?_
    (refine tk 7 69 ?_ ?_ ?_; rotate_left; · (intro w hSw; (try dsimp only at hSw); obtain ⟨l0_, l1_⟩ := hld _ hSw; go_simp; (try with_reducible rfl)))
    (try simp only [Act.put, qI, qO, qU])
    refine wpAnyH_ready (rs := [8, 12]) (by kernel_rfl) (by simp) ?_; refine AllReadyH.cons (o := _) rfl (fun K_ hK => ?_) (AllReadyH.cons (o := _) rfl (fun K_ hK => ?_) AllReadyH.nil)
    ·go_simp
     (go_at_call 43; refine (cK HH).mono ?_; rintro e u1 ⟨rfl, y1⟩)
     refine hK.out _ _ (by (try dsimp only); exact hHeld.trans y1 (by simp)) (fun hHeld => ?_)
     clear hK K_
     (try simp only [Act.put, qI, qO, qU])
     replace HH := HH.new y1
     clear y1
     have hsb : wr.heap.size ≤ u1.heap.size := hHeld.size
     refine tq 9 61 _ ?_
     (try simp only [Act.put, qI, qO, qU])
     refine tq 10 71 _ ?_
     refine tq 11 72 _ ?_
     (try simp only [Act.put, qI, qO, qU])
     refine rdy 12 fun K_ hK => ?_
     go_simp
     refine hK.out _ _ (by (try dsimp only); exact hHeld.alloc _) (fun hHeld => ?_)
     clear hK K_
     (try simp only [Act.put, qI, qO, qU])
     replace HH := HH.alloc #[.int .i64 0, .int .i64 0, .int .i64 0] 85
     generalize u1.alloc (.cells #[.int .i64 0, .int .i64 0, .int .i64 0] 85) = u2 at *
     generalize u1.heap.size = sb at *
     have e0_ := HH.blk.cell 0; have f0_ := HH.blk.frozen 0
     have e1_ := HH.blk.cell 1; have f1_ := HH.blk.frozen 1
     have e2_ := HH.blk.cell 2; have f2_ := HH.blk.frozen 2
     simp only [qA, qZ, qS] at e0_ e1_ e2_
     have HH3 := (((HH).cellSet 0 (.int .i64 kg)).cellSet 1 (.int .i64 kl)).cellSet 2 (.int .i64 kr)
     simp only [qI, qO, qU] at HH3
     have hY : Chg [sb] u2 (((u2.setCell ⟨sb, 0, none⟩ (.int .i64 kg)).setCell ⟨sb, 1, none⟩ (.int .i64 kl)).setCell ⟨sb, 2, none⟩ (.int .i64 kr)) := ((((Chg.refl [sb] u2).setCell (p := ⟨sb, 0, none⟩) (by simp) _).setCell (p := ⟨sb, 1, none⟩) (by simp) _).setCell (p := ⟨sb, 2, none⟩) (by simp) _)
     refine rdy 13 fun K_ hK => ?_
     go_simp
     refine hK.out _ _ (by (try dsimp only); exact hHeld.trans hY (fun i hi hm => by simp at hm; omega)) (fun hHeld => ?_)
     clear hK K_
     (try simp only [Act.put, qI, qO, qU])
     clear e0_ f0_ e1_ f1_ e2_ f2_ hY HH hsb
     generalize (((u2.setCell ⟨sb, 0, none⟩ (.int .i64 kg)).setCell ⟨sb, 1, none⟩ (.int .i64 kl)).setCell ⟨sb, 2, none⟩ (.int .i64 kr)) = u3 at *
     refine tq 14 12 _ ?_
     (try simp only [Act.put, qI, qO, qU])
     refine wpAnyH_done (by kernel_rfl) ?_ _
     refine NoPanic.normal ?_
     clear hHeld H
     clear hld cK
     go_wp2_with fail
     go_meet
     exact ⟨sb, rfl, rfl, HH3⟩
    clear HH
    go_simp
    refine hK.out _ _ (by (try dsimp only); exact ((Chg.refl [] wr).alloc _).drew) (fun hHeld => ?_)
    clear hK K_
    (try simp only [Act.put, qI, qO, qU])
    have HH := (H.alloc #[.int .i64 0, .int .i64 0, .int .i64 0] 85).new (Chg.refl [] _).drew
    have hsb : wr.heap.size ≤ wr.heap.size := Nat.le_refl _
    generalize (wr.alloc (.cells #[.int .i64 0, .int .i64 0, .int .i64 0] 85)).drew = u1 at *
    generalize hsb_ : wr.heap.size = sb at hsb HH ⊢
    clear hsb
    have hsb : wr.heap.size ≤ sb := by omega
    refine rdy 8 fun K_ hK => ?_
    go_simp
    (go_at_call 43; refine (cK (HH.tail)).mono ?_; rintro e u2 ⟨rfl, y1⟩)
    refine hK.out _ _ (by (try dsimp only); exact hHeld.trans y1 (by simp)) (fun hHeld => ?_)
    clear hK K_
    (try simp only [Act.put, qI, qO, qU])
    replace HH := HH.new y1
    clear y1 hsb_
    refine tq 9 61 _ ?_
    refine tq 10 71 _ ?_
    refine tq 11 72 _ ?_
    (try simp only [Act.put, qI, qO, qU])
    have e0_ := HH.blk.cell 0; have f0_ := HH.blk.frozen 0
    have e1_ := HH.blk.cell 1; have f1_ := HH.blk.frozen 1
    have e2_ := HH.blk.cell 2; have f2_ := HH.blk.frozen 2
    simp only [qA, qZ, qS] at e0_ e1_ e2_
    have HH3 := (((HH).cellSet 0 (.int .i64 kg)).cellSet 1 (.int .i64 kl)).cellSet 2 (.int .i64 kr)
    simp only [qI, qO, qU] at HH3
    have hY : Chg [sb] u2 (((u2.setCell ⟨sb, 0, none⟩ (.int .i64 kg)).setCell ⟨sb, 1, none⟩ (.int .i64 kl)).setCell ⟨sb, 2, none⟩ (.int .i64 kr)) := ((((Chg.refl [sb] u2).setCell (p := ⟨sb, 0, none⟩) (by simp) _).setCell (p := ⟨sb, 1, none⟩) (by simp) _).setCell (p := ⟨sb, 2, none⟩) (by simp) _)
    refine rdy 13 fun K_ hK => ?_
    go_simp
    refine hK.out _ _ (by (try dsimp only); exact hHeld.trans hY (fun i hi hm => by simp at hm; omega)) (fun hHeld => ?_)
    clear hK K_
    (try simp only [Act.put, qI, qO, qU])
    clear e0_ f0_ e1_ f1_ e2_ f2_ hY HH hsb
    generalize (((u2.setCell ⟨sb, 0, none⟩ (.int .i64 kg)).setCell ⟨sb, 1, none⟩ (.int .i64 kl)).setCell ⟨sb, 2, none⟩ (.int .i64 kr)) = u3 at *
    refine tq 14 12 _ ?_
    (try simp only [Act.put, qI, qO, qU])
    refine wpAnyH_done (by kernel_rfl) ?_ _
    refine NoPanic.normal ?_
    clear hHeld H
    clear hld cK
    go_wp2_with fail
    go_meet
    exact ⟨sb, rfl, rfl, HH3⟩
   obtain ⟨kb, rfl, rfl, H11⟩ := hcut
   clear H hld cK
   have H9 : SepC w wc (gdT dd gq mp q hp hb t 40 4 8 8 gl16 (D) :: blkT wb 51 (wdC hp gq q t dd) :: blkT fq 202 (flC gq mq q dd) :: mapT mq gl16 :: ownT (numE .i64) 3 (.slice (some ⟨ab, aoff, none⟩) N7 c7) F7 :: blkT kb 85 #[.int .i64 kg, .int .i64 kl, .int .i64 kr] :: []) := ((((((H11.pick 0 rfl).pick 5 rfl).pick 5 rfl).pick 5 rfl).pick 5 rfl).pick 5 rfl)
   clear H11
   go_wp2_with fail
   go_loopw [13] (fun s13 wr => ∃ i : Nat, i ≤ 8 ∧ s13 = .int .i64 i ∧ SepC w wr (gdT dd gq mp q hp hb t 40 4 8 8 gl16 (D) :: blkT wb 51 (wdC hp gq q t dd) :: blkT fq 202 (flC gq mq q dd) :: mapT mq gl16 :: ownT (numE .i64) 3 (.slice (some ⟨ab, aoff, none⟩) N7 c7) F7 :: blkT kb 85 #[.int .i64 kg, .int .i64 kl, .int .i64 kr] :: [])) (fun s13 _ => 8 - (intOf s13).toNat)
   case atStart => exact ⟨0, by omega, rfl, H9⟩
   obtain ⟨i, hi, rfl, H⟩ := hrel
   clear H9
   by_cases hi8 : i < 8
   ·have hiz : (i : Int) < 8 := by omega
    obtain ⟨x, hx0, hx1, hx2, hx3, hl1, hl3, hkd, hpr, hch⟩ := hsq i hi8
    have cS := fun {z : World} {l_ : List Th} (H' : SepC w z (gdT dd gq mp q hp hb t 40 4 8 8 gl16 (D) :: l_)) => H'.kSlot qj.f (i : Int) hqr
    simp only [hx1, hx2] at cS
    clear hx0 hx1 hx2 hsq
    obtain ⟨kd, t_, ⟨rw_, ru, rx⟩⟩ := x
    simp only [Slt.cl] at cS
    simp only at hx3 hkd hpr hch
    have hld : ∀ z, Chg [] wr z → (z.cell? ⟨wb, 2, none⟩ = some (.pointer (some ⟨q, 0, none⟩)) ∧ z.cell? ⟨ab, aoff + j, none⟩ = some (.int .i64 qj.f)) := fun z hz => by
     have H2 := H.new hz
     obtain ⟨b_, o_, x_, e_, _, h_, t2_⟩ := SlN.get (H2.pick 4 rfl).own.slg hjl
     cases e_; rw [hqF.out] at h_; cases h_
     exact ⟨(wdC_cells (H2.pick 1 rfl).blk).2.2.1, t2_⟩
    go_upto_region 20 with fail
    go_cut [14, 15] from 77 to 89 (fun xv iv wx => ∃ sb : Nat, xv = .pointer (some ⟨sb, 0, none⟩) ∧ iv = .bool true ∧ SepC w wx (blkT sb 99 #[.int .i64 kd, .int .i64 t_, .bool rw_, .bool ru, .bool rx] :: gdT dd gq mp q hp hb t 40 4 8 8 gl16 (D) :: blkT wb 51 (wdC hp gq q t dd) :: blkT fq 202 (flC gq mq q dd) :: mapT mq gl16 :: ownT (numE .i64) 3 (.slice (some ⟨ab, aoff, none⟩) N7 c7) F7 :: blkT kb 85 #[.int .i64 kg, .int .i64 kl, .int .i64 kr] :: []))
    case first =>
     have HH := H.new (Chg.refl [] wr).drew
     refine wp_region_noPanic ?_
     refine wp_region_held_drew (S := (fun w' => Chg [] wr w')) (by kernel_rfl) ?_ (fun hHeld => ?_)
     ·exact (Chg.refl [] wr).drew
     refine tq 0 78 _ ?_
     (try simp only [Act.put, qI, qO, qU])
     refine tq 1 79 _ ?_
     refine tq 2 80 _ ?_
     (refine tk 3 81 ?_ ?_ ?_; rotate_left; · (intro w hSw; (try dsimp only at hSw); obtain ⟨l0_, l1_⟩ := hld _ hSw; go_simp; (try with_reducible rfl)))
     refine tq 4 82 _ ?_
     (try simp only [Act.put, qI, qO, qU])
     refine tq 5 83 _ ?_
     refine tq 6 84 _ ?_
     (refine tk 7 85 ?_ ?_ ?_; rotate_left; · (intro w hSw; (try dsimp only at hSw); obtain ⟨l0_, l1_⟩ := hld _ hSw; go_simp; (try with_reducible rfl)))
     refine tq 8 86 _ ?_
     (try simp only [Act.put, qI, qO, qU])
     refine wpAnyH_ready (rs := [9, 13]) (by kernel_rfl) (by simp) ?_; refine AllReadyH.cons (o := _) rfl (fun K_ hK => ?_) (AllReadyH.cons (o := _) rfl (fun K_ hK => ?_) AllReadyH.nil)
     ·go_simp
      (go_at_call 44; refine (cS HH).mono ?_; rintro e u1 ⟨rfl, y1⟩)
      refine hK.out _ _ (by (try dsimp only); exact hHeld.trans y1 (by simp)) (fun hHeld => ?_)
      clear hK K_
      (try simp only [Act.put, qI, qO, qU])
      replace HH := HH.new y1
      clear y1
      have hsb : wr.heap.size ≤ u1.heap.size := hHeld.size
      refine tq 10 77 _ ?_
      (try simp only [Act.put, qI, qO, qU])
      refine tq 11 88 _ ?_
      refine tq 12 89 _ ?_
      (try simp only [Act.put, qI, qO, qU])
      refine rdy 13 fun K_ hK => ?_
      go_simp
      refine hK.out _ _ (by (try dsimp only); exact hHeld.alloc _) (fun hHeld => ?_)
      clear hK K_
      (try simp only [Act.put, qI, qO, qU])
      replace HH := HH.alloc #[.int .i64 0, .int .i64 0, .bool false, .bool false, .bool false] 99
      generalize u1.alloc (.cells #[.int .i64 0, .int .i64 0, .bool false, .bool false, .bool false] 99) = u2 at *
      generalize u1.heap.size = sb at *
      have e0_ := HH.blk.cell 0; have f0_ := HH.blk.frozen 0
      have e1_ := HH.blk.cell 1; have f1_ := HH.blk.frozen 1
      have e2_ := HH.blk.cell 2; have f2_ := HH.blk.frozen 2
      have e3_ := HH.blk.cell 3; have f3_ := HH.blk.frozen 3
      have e4_ := HH.blk.cell 4; have f4_ := HH.blk.frozen 4
      simp only [qA, qZ, qS] at e0_ e1_ e2_ e3_ e4_
      have HH3 := (((((HH).cellSet 0 (.int .i64 kd)).cellSet 1 (.int .i64 t_)).cellSet 2 (.bool rw_)).cellSet 3 (.bool ru)).cellSet 4 (.bool rx)
      simp only [qI, qO, qU] at HH3
      have hY : Chg [sb] u2 (((((u2.setCell ⟨sb, 0, none⟩ (.int .i64 kd)).setCell ⟨sb, 1, none⟩ (.int .i64 t_)).setCell ⟨sb, 2, none⟩ (.bool rw_)).setCell ⟨sb, 3, none⟩ (.bool ru)).setCell ⟨sb, 4, none⟩ (.bool rx)) := ((((((Chg.refl [sb] u2).setCell (p := ⟨sb, 0, none⟩) (by simp) _).setCell (p := ⟨sb, 1, none⟩) (by simp) _).setCell (p := ⟨sb, 2, none⟩) (by simp) _).setCell (p := ⟨sb, 3, none⟩) (by simp) _).setCell (p := ⟨sb, 4, none⟩) (by simp) _)
      refine rdy 14 fun K_ hK => ?_
      go_simp
      refine hK.out _ _ (by (try dsimp only); exact hHeld.trans hY (fun i hi hm => by simp at hm; omega)) (fun hHeld => ?_)
      clear hK K_
      (try simp only [Act.put, qI, qO, qU])
      clear e0_ f0_ e1_ f1_ e2_ f2_ e3_ f3_ e4_ f4_ hY HH hsb
      generalize (((((u2.setCell ⟨sb, 0, none⟩ (.int .i64 kd)).setCell ⟨sb, 1, none⟩ (.int .i64 t_)).setCell ⟨sb, 2, none⟩ (.bool rw_)).setCell ⟨sb, 3, none⟩ (.bool ru)).setCell ⟨sb, 4, none⟩ (.bool rx)) = u3 at *
      refine tq 15 15 _ ?_
      (try simp only [Act.put, qI, qO, qU])
      refine wpAnyH_done (by kernel_rfl) ?_ _
      refine NoPanic.normal ?_
      clear hHeld H
      clear hld cS
      go_wp2_with fail
      go_meet
      exact ⟨sb, rfl, rfl, HH3⟩
     clear HH
     go_simp
     refine hK.out _ _ (by (try dsimp only); exact ((Chg.refl [] wr).alloc _).drew) (fun hHeld => ?_)
     clear hK K_
     (try simp only [Act.put, qI, qO, qU])
     have HH := (H.alloc #[.int .i64 0, .int .i64 0, .bool false, .bool false, .bool false] 99).new (Chg.refl [] _).drew
     have hsb : wr.heap.size ≤ wr.heap.size := Nat.le_refl _
     generalize (wr.alloc (.cells #[.int .i64 0, .int .i64 0, .bool false, .bool false, .bool false] 99)).drew = u1 at *
     generalize hsb_ : wr.heap.size = sb at hsb HH ⊢
     clear hsb
     have hsb : wr.heap.size ≤ sb := by omega
     refine rdy 9 fun K_ hK => ?_
     go_simp
     (go_at_call 44; refine (cS (HH.tail)).mono ?_; rintro e u2 ⟨rfl, y1⟩)
     refine hK.out _ _ (by (try dsimp only); exact hHeld.trans y1 (by simp)) (fun hHeld => ?_)
     clear hK K_
     (try simp only [Act.put, qI, qO, qU])
     replace HH := HH.new y1
     clear y1 hsb_
     refine tq 10 77 _ ?_
     refine tq 11 88 _ ?_
     refine tq 12 89 _ ?_
     (try simp only [Act.put, qI, qO, qU])
     have e0_ := HH.blk.cell 0; have f0_ := HH.blk.frozen 0
     have e1_ := HH.blk.cell 1; have f1_ := HH.blk.frozen 1
     have e2_ := HH.blk.cell 2; have f2_ := HH.blk.frozen 2
     have e3_ := HH.blk.cell 3; have f3_ := HH.blk.frozen 3
     have e4_ := HH.blk.cell 4; have f4_ := HH.blk.frozen 4
     simp only [qA, qZ, qS] at e0_ e1_ e2_ e3_ e4_
     have HH3 := (((((HH).cellSet 0 (.int .i64 kd)).cellSet 1 (.int .i64 t_)).cellSet 2 (.bool rw_)).cellSet 3 (.bool ru)).cellSet 4 (.bool rx)
     simp only [qI, qO, qU] at HH3
     have hY : Chg [sb] u2 (((((u2.setCell ⟨sb, 0, none⟩ (.int .i64 kd)).setCell ⟨sb, 1, none⟩ (.int .i64 t_)).setCell ⟨sb, 2, none⟩ (.bool rw_)).setCell ⟨sb, 3, none⟩ (.bool ru)).setCell ⟨sb, 4, none⟩ (.bool rx)) := ((((((Chg.refl [sb] u2).setCell (p := ⟨sb, 0, none⟩) (by simp) _).setCell (p := ⟨sb, 1, none⟩) (by simp) _).setCell (p := ⟨sb, 2, none⟩) (by simp) _).setCell (p := ⟨sb, 3, none⟩) (by simp) _).setCell (p := ⟨sb, 4, none⟩) (by simp) _)
     refine rdy 14 fun K_ hK => ?_
     go_simp
     refine hK.out _ _ (by (try dsimp only); exact hHeld.trans hY (fun i hi hm => by simp at hm; omega)) (fun hHeld => ?_)
     clear hK K_
     (try simp only [Act.put, qI, qO, qU])
     clear e0_ f0_ e1_ f1_ e2_ f2_ e3_ f3_ e4_ f4_ hY HH hsb
     generalize (((((u2.setCell ⟨sb, 0, none⟩ (.int .i64 kd)).setCell ⟨sb, 1, none⟩ (.int .i64 t_)).setCell ⟨sb, 2, none⟩ (.bool rw_)).setCell ⟨sb, 3, none⟩ (.bool ru)).setCell ⟨sb, 4, none⟩ (.bool rx)) = u3 at *
     refine tq 15 15 _ ?_
     (try simp only [Act.put, qI, qO, qU])
     refine wpAnyH_done (by kernel_rfl) ?_ _
     refine NoPanic.normal ?_
     clear hHeld H
     clear hld cS
     go_wp2_with fail
     go_meet
     exact ⟨sb, rfl, rfl, HH3⟩
    obtain ⟨gb, rfl, rfl, H12⟩ := hcut
    clear H hld cS hqr hqF
    have cK := fun {z : World} {l_ : List Th} (H' : SepC w z (gdT dd gq mp q hp hb t 40 4 8 8 gl16 (D) :: l_)) => H'.kKey t_ hx3
    have cP := fun {z : World} {l_ : List Th} (H' : SepC w z (gdT dd gq mp q hp hb t 40 4 8 8 gl16 (D) :: l_)) => H'.kProt t_
    generalize (pgAt D.s.L t_).isSome = is_ at *
    generalize keyV D.s.L t_ = ck at *
    generalize protB D t_ = pt_ at *
    obtain ⟨cg, cl, cr⟩ := ck
    simp only [Ky.cs] at cK
    simp only at hch
    replace hkd := Lib.hid hkd; replace hpr := Lib.hid hpr; replace hch := Lib.hid hch; replace hl1 := Lib.hid hl1; replace hl3 := Lib.hid hl3
    have hld : ∀ z, Chg [] wc z → (z.cell? ⟨wb, 2, none⟩ = some (.pointer (some ⟨q, 0, none⟩)) ∧ z.cell? ⟨gb, 1, none⟩ = some (.int .i64 t_)) := fun z hz => by
     have H2 := H12.new hz
     exact ⟨(wdC_cells (H2.pick 2 rfl).blk).2.2.1, H2.blk.cell 1⟩
    go_upto_region 21 with fail
    go_cut [16, 17] from 90 to 99 (fun xv iv wx => ∃ sb : Nat, xv = .pointer (some ⟨sb, 0, none⟩) ∧ iv = .bool is_ ∧ SepC w wx (blkT sb 85 #[.int .i64 cg, .int .i64 cl, .int .i64 cr] :: blkT gb 99 #[.int .i64 kd, .int .i64 t_, .bool rw_, .bool ru, .bool rx] :: gdT dd gq mp q hp hb t 40 4 8 8 gl16 (D) :: blkT wb 51 (wdC hp gq q t dd) :: blkT fq 202 (flC gq mq q dd) :: mapT mq gl16 :: ownT (numE .i64) 3 (.slice (some ⟨ab, aoff, none⟩) N7 c7) F7 :: blkT kb 85 #[.int .i64 kg, .int .i64 kl, .int .i64 kr] :: []))
    case first =>
     have H := H12
     have HH := H.new (Chg.refl [] wc).drew
     refine wp_region_noPanic ?_
     refine wp_region_held_drew (S := (fun w' => Chg [] wc w')) (by kernel_rfl) ?_ (fun hHeld => ?_)
     ·exact (Chg.refl [] wc).drew
     refine tq 0 91 _ ?_
     (try simp only [Act.put, qI, qO, qU])
     refine tq 1 92 _ ?_
     refine tq 2 93 _ ?_
     (refine tk 3 94 ?_ ?_ ?_; rotate_left; · (intro w hSw; (try dsimp only at hSw); obtain ⟨l0_, l1_⟩ := hld _ hSw; go_simp; (try with_reducible rfl)))
     refine tq 4 95 _ ?_
     (try simp only [Act.put, qI, qO, qU])
     (refine tk 5 96 ?_ ?_ ?_; rotate_left; · (intro w hSw; (try dsimp only at hSw); obtain ⟨l0_, l1_⟩ := hld _ hSw; go_simp; (try with_reducible rfl)))
     (try simp only [Act.put, qI, qO, qU])
     refine wpAnyH_ready (rs := [6, 10]) (by kernel_rfl) (by simp) ?_; refine AllReadyH.cons (o := _) rfl (fun K_ hK => ?_) (AllReadyH.cons (o := _) rfl (fun K_ hK => ?_) AllReadyH.nil)
     ·go_simp
      (go_at_call 43; refine (cK (HH.pick 1 rfl)).mono ?_; rintro e u1 ⟨rfl, y1⟩)
      refine hK.out _ _ (by (try dsimp only); exact hHeld.trans y1 (by simp)) (fun hHeld => ?_)
      clear hK K_
      (try simp only [Act.put, qI, qO, qU])
      replace HH := HH.new y1
      clear y1
      have hsb : wc.heap.size ≤ u1.heap.size := hHeld.size
      refine tq 7 90 _ ?_
      refine tq 8 98 _ ?_
      refine tq 9 99 _ ?_
      (try simp only [Act.put, qI, qO, qU])
      refine rdy 10 fun K_ hK => ?_
      go_simp
      refine hK.out _ _ (by (try dsimp only); exact hHeld.alloc _) (fun hHeld => ?_)
      clear hK K_
      (try simp only [Act.put, qI, qO, qU])
      replace HH := HH.alloc #[.int .i64 0, .int .i64 0, .int .i64 0] 85
      generalize u1.alloc (.cells #[.int .i64 0, .int .i64 0, .int .i64 0] 85) = u2 at *
      generalize u1.heap.size = sb at *
      have e0_ := HH.blk.cell 0; have f0_ := HH.blk.frozen 0
      have e1_ := HH.blk.cell 1; have f1_ := HH.blk.frozen 1
      have e2_ := HH.blk.cell 2; have f2_ := HH.blk.frozen 2
      simp only [qA, qZ, qS] at e0_ e1_ e2_
      have HH3 := (((HH).cellSet 0 (.int .i64 cg)).cellSet 1 (.int .i64 cl)).cellSet 2 (.int .i64 cr)
      simp only [qI, qO, qU] at HH3
      have hY : Chg [sb] u2 (((u2.setCell ⟨sb, 0, none⟩ (.int .i64 cg)).setCell ⟨sb, 1, none⟩ (.int .i64 cl)).setCell ⟨sb, 2, none⟩ (.int .i64 cr)) := ((((Chg.refl [sb] u2).setCell (p := ⟨sb, 0, none⟩) (by simp) _).setCell (p := ⟨sb, 1, none⟩) (by simp) _).setCell (p := ⟨sb, 2, none⟩) (by simp) _)
      refine rdy 11 fun K_ hK => ?_
      go_simp
      refine hK.out _ _ (by (try dsimp only); exact hHeld.trans hY (fun i hi hm => by simp at hm; omega)) (fun hHeld => ?_)
      clear hK K_
      (try simp only [Act.put, qI, qO, qU])
      clear e0_ f0_ e1_ f1_ e2_ f2_ hY HH hsb
      generalize (((u2.setCell ⟨sb, 0, none⟩ (.int .i64 cg)).setCell ⟨sb, 1, none⟩ (.int .i64 cl)).setCell ⟨sb, 2, none⟩ (.int .i64 cr)) = u3 at *
      refine tq 12 17 _ ?_
      (try simp only [Act.put, qI, qO, qU])
      refine wpAnyH_done (by kernel_rfl) ?_ _
      refine NoPanic.normal ?_
      clear hHeld H
      clear hld cK
      go_wp2_with fail
      go_meet
      exact ⟨sb, rfl, rfl, HH3⟩
     clear HH
     go_simp
     refine hK.out _ _ (by (try dsimp only); exact ((Chg.refl [] wc).alloc _).drew) (fun hHeld => ?_)
     clear hK K_
     (try simp only [Act.put, qI, qO, qU])
     have HH := (H.alloc #[.int .i64 0, .int .i64 0, .int .i64 0] 85).new (Chg.refl [] _).drew
     have hsb : wc.heap.size ≤ wc.heap.size := Nat.le_refl _
     generalize (wc.alloc (.cells #[.int .i64 0, .int .i64 0, .int .i64 0] 85)).drew = u1 at *
     generalize hsb_ : wc.heap.size = sb at hsb HH ⊢
     clear hsb
     have hsb : wc.heap.size ≤ sb := by omega
     refine rdy 6 fun K_ hK => ?_
     go_simp
     (go_at_call 43; refine (cK ((HH.tail).pick 1 rfl)).mono ?_; rintro e u2 ⟨rfl, y1⟩)
     refine hK.out _ _ (by (try dsimp only); exact hHeld.trans y1 (by simp)) (fun hHeld => ?_)
     clear hK K_
     (try simp only [Act.put, qI, qO, qU])
     replace HH := HH.new y1
     clear y1 hsb_
     refine tq 7 90 _ ?_
     refine tq 8 98 _ ?_
     (try simp only [Act.put, qI, qO, qU])
     refine tq 9 99 _ ?_
     (try simp only [Act.put, qI, qO, qU])
     have e0_ := HH.blk.cell 0; have f0_ := HH.blk.frozen 0
     have e1_ := HH.blk.cell 1; have f1_ := HH.blk.frozen 1
     have e2_ := HH.blk.cell 2; have f2_ := HH.blk.frozen 2
     simp only [qA, qZ, qS] at e0_ e1_ e2_
     have HH3 := (((HH).cellSet 0 (.int .i64 cg)).cellSet 1 (.int .i64 cl)).cellSet 2 (.int .i64 cr)
     simp only [qI, qO, qU] at HH3
     have hY : Chg [sb] u2 (((u2.setCell ⟨sb, 0, none⟩ (.int .i64 cg)).setCell ⟨sb, 1, none⟩ (.int .i64 cl)).setCell ⟨sb, 2, none⟩ (.int .i64 cr)) := ((((Chg.refl [sb] u2).setCell (p := ⟨sb, 0, none⟩) (by simp) _).setCell (p := ⟨sb, 1, none⟩) (by simp) _).setCell (p := ⟨sb, 2, none⟩) (by simp) _)
     refine rdy 11 fun K_ hK => ?_
     go_simp
     refine hK.out _ _ (by (try dsimp only); exact hHeld.trans hY (fun i hi hm => by simp at hm; omega)) (fun hHeld => ?_)
     clear hK K_
     (try simp only [Act.put, qI, qO, qU])
     clear e0_ f0_ e1_ f1_ e2_ f2_ hY HH hsb
     generalize (((u2.setCell ⟨sb, 0, none⟩ (.int .i64 cg)).setCell ⟨sb, 1, none⟩ (.int .i64 cl)).setCell ⟨sb, 2, none⟩ (.int .i64 cr)) = u3 at *
     refine tq 12 17 _ ?_
     (try simp only [Act.put, qI, qO, qU])
     refine wpAnyH_done (by kernel_rfl) ?_ _
     refine NoPanic.normal ?_
     clear hHeld H
     clear hld cK
     go_wp2_with fail
     go_meet
     exact ⟨sb, rfl, rfl, HH3⟩
    obtain ⟨cb, rfl, rfl, H13⟩ := hcut
    clear H12 hld cK
    go_upto_region 22 with fail
    go_cut [133] from 100 to 133 (fun cv wx => cv = .bool false ∧ SepC w wx (blkT cb 85 #[.int .i64 cg, .int .i64 cl, .int .i64 cr] :: blkT gb 99 #[.int .i64 kd, .int .i64 t_, .bool rw_, .bool ru, .bool rx] :: gdT dd gq mp q hp hb t 40 4 8 8 gl16 (D) :: blkT wb 51 (wdC hp gq q t dd) :: blkT fq 202 (flC gq mq q dd) :: mapT mq gl16 :: ownT (numE .i64) 3 (.slice (some ⟨ab, aoff, none⟩) N7 c7) F7 :: blkT kb 85 #[.int .i64 kg, .int .i64 kl, .int .i64 kr] :: []))
    case first =>
     have k1_ := hkd.out
     rcases k1_ with rfl | rfl | rfl
     ·have HH := H13.new (Chg.refl [] _).drew
      clear H13
      refine wp_region_noPanic ?_
      refine wp_region_held_drew (S := (fun w' => Blk w' cb 85 #[.int .i64 cg, .int .i64 cl, .int .i64 cr] ∧ Blk w' gb 99 #[.int .i64 0, .int .i64 t_, .bool rw_, .bool ru, .bool rx] ∧ Blk w' kb 85 #[.int .i64 kg, .int .i64 kl, .int .i64 kr] ∧ Blk w' wb 51 (wdC hp gq q t dd))) (by kernel_rfl) ?_ (fun hHeld => ?_)
      ·exact ⟨(HH.pick 0 rfl).blk, (HH.pick 1 rfl).blk, (HH.pick 7 rfl).blk, (HH.pick 3 rfl).blk⟩
      refine tq 0 100 _ ?_
      (refine tk 1 101 ?_ ?_ ?_; rotate_left; · (intro w hSw; (try dsimp only at hSw); have c_ := hSw.2.1.cell 0; simp only [qA, qZ] at c_; go_simp; (try with_reducible rfl)))
      refine tq 2 102 _ ?_
      refine tq 3 103 _ ?_
      (try simp only [Act.put, qI, qO, qU])
      (refine tko 4 104 ?_)
      (refine tko 5 105 ?_)
      (refine tko 6 106 ?_)
      refine tq 7 107 _ ?_
      (try simp only [Act.put, qI, qO, qU])
      refine tq 8 108 _ ?_
      (refine tko 9 109 ?_)
      (refine tko 10 110 ?_)
      (refine tko 11 111 ?_)
      (try simp only [Act.put, qI, qO, qU])
      (refine tko 12 112 ?_)
      (refine tko 13 113 ?_)
      (refine tko 14 114 ?_)
      (refine tko 15 115 ?_)
      (try simp only [Act.put, qI, qO, qU])
      refine tq 16 116 _ ?_
      refine tq 17 117 _ ?_
      refine tq 18 118 _ ?_
      (refine tk 19 119 ?_ ?_ ?_; rotate_left; · (intro w hSw; (try dsimp only at hSw); have c_ := hSw.2.1.cell 0; simp only [qA, qZ] at c_; go_simp; (try with_reducible rfl)))
      (try simp only [Act.put, qI, qO, qU])
      refine tq 20 120 _ ?_
      refine tq 21 121 _ ?_
      (refine tko 22 122 ?_)
      (refine tko 23 123 ?_)
      (try simp only [Act.put, qI, qO, qU])
      (refine tko 24 124 ?_)
      (refine tko 25 125 ?_)
      (refine tko 26 126 ?_)
      (refine tko 27 127 ?_)
      (try simp only [Act.put, qI, qO, qU])
      (refine tko 28 128 ?_)
      (refine tko 29 129 ?_)
      (refine tko 30 130 ?_)
      (refine tko 31 131 ?_)
      (try simp only [Act.put, qI, qO, qU])
      refine tq 32 132 _ ?_
      refine tq 33 133 _ ?_
      (try simp only [Act.put, qI, qO, qU])
      refine wpAnyH_done (by kernel_rfl) ?_ _
      refine NoPanic.normal ?_
      clear hHeld cP
      go_wp2_with fail
      go_meet
      exact ⟨rfl, HH⟩
     ·obtain ⟨e1_, e2_⟩ := hch.out rfl
      subst e1_
      have e3_ := hl1.out; have e4_ := hl3.out
      have n1_ : wrap64 (kl - 1) = cl := by rw [e2_]; unfold wrap64; omega
      have n2_ : IntKind.i64.wrap (kl - 1) = cl := by rw [e2_]; exact IntWalk.i64_in _ (by omega)
      clear e2_ e3_ e4_
      have HH := H13.new (Chg.refl [] _).drew
      clear H13
      refine wp_region_noPanic ?_
      refine wp_region_held_drew (S := (fun w' => Blk w' cb 85 #[.int .i64 cg, .int .i64 cl, .int .i64 cr] ∧ Blk w' gb 99 #[.int .i64 1, .int .i64 t_, .bool rw_, .bool ru, .bool rx] ∧ Blk w' kb 85 #[.int .i64 kg, .int .i64 kl, .int .i64 kr] ∧ Blk w' wb 51 (wdC hp gq q t dd))) (by kernel_rfl) ?_ (fun hHeld => ?_)
      ·exact ⟨(HH.pick 0 rfl).blk, (HH.pick 1 rfl).blk, (HH.pick 7 rfl).blk, (HH.pick 3 rfl).blk⟩
      refine tq 0 100 _ ?_
      (refine tk 1 101 ?_ ?_ ?_; rotate_left; · (intro w hSw; (try dsimp only at hSw); have c_ := hSw.2.1.cell 0; simp only [qA, qZ] at c_; go_simp; (try with_reducible rfl)))
      refine tq 2 102 _ ?_
      (try simp only [Act.put, qI, qO, qU])
      refine tq 3 103 _ ?_
      (refine tko 4 104 ?_)
      (refine tko 5 105 ?_)
      (refine tko 6 106 ?_)
      (try simp only [Act.put, qI, qO, qU])
      refine tq 7 107 _ ?_
      refine tq 8 108 _ ?_
      (refine tko 9 109 ?_)
      (refine tko 10 110 ?_)
      (try simp only [Act.put, qI, qO, qU])
      (refine tko 11 111 ?_)
      (refine tko 12 112 ?_)
      (refine tko 13 113 ?_)
      (refine tko 14 114 ?_)
      (try simp only [Act.put, qI, qO, qU])
      (refine tko 15 115 ?_)
      refine tq 16 116 _ ?_
      refine tq 17 117 _ ?_
      refine tq 18 118 _ ?_
      (try simp only [Act.put, qI, qO, qU])
      (refine tk 19 119 ?_ ?_ ?_; rotate_left; · (intro w hSw; (try dsimp only at hSw); have c_ := hSw.2.1.cell 0; simp only [qA, qZ] at c_; go_simp; (try with_reducible rfl)))
      refine tq 20 120 _ ?_
      refine tq 21 121 _ ?_
      refine tq 22 122 _ ?_
      (try simp only [Act.put, qI, qO, qU])
      refine tq 23 123 _ ?_
      refine tq 24 124 _ ?_
      refine tq 25 125 _ ?_
      (refine tk 26 126 ?_ ?_ ?_; rotate_left; · (intro w hSw; (try dsimp only at hSw); have c_ := hSw.1.cell 1; simp only [qA, qZ, qS] at c_; go_simp; (try with_reducible rfl)))
      (try simp only [Act.put, qI, qO, qU])
      refine tq 27 127 _ ?_
      (refine tk 28 128 ?_ ?_ ?_; rotate_left; · (intro w hSw; (try dsimp only at hSw); have c_ := hSw.2.2.1.cell 1; simp only [qA, qZ, qS] at c_; go_simp; (try with_reducible rfl)))
      refine tq 29 129 _ ?_
      refine tq 30 130 _ ?_
      (try simp only [Act.put, qI, qO, qU])
      refine tq 31 131 _ ?_
      refine tq 32 132 _ ?_
      refine tq 33 133 _ ?_
      (try simp only [Act.put, qI, qO, qU])
      refine wpAnyH_done (by kernel_rfl) ?_ _
      refine NoPanic.normal ?_
      clear hHeld cP
      go_wp2_with fail
      go_meet
      exact ⟨rfl, HH⟩
     cases rw_
     ·have HH := H13.new (Chg.refl [] _).drew
      clear H13
      refine wp_region_noPanic ?_
      refine wp_region_held_drew (S := (fun w' => Blk w' cb 85 #[.int .i64 cg, .int .i64 cl, .int .i64 cr] ∧ Blk w' gb 99 #[.int .i64 2, .int .i64 t_, .bool false, .bool ru, .bool rx] ∧ Blk w' kb 85 #[.int .i64 kg, .int .i64 kl, .int .i64 kr] ∧ Blk w' wb 51 (wdC hp gq q t dd))) (by kernel_rfl) ?_ (fun hHeld => ?_)
      ·exact ⟨(HH.pick 0 rfl).blk, (HH.pick 1 rfl).blk, (HH.pick 7 rfl).blk, (HH.pick 3 rfl).blk⟩
      refine tq 0 100 _ ?_
      (refine tk 1 101 ?_ ?_ ?_; rotate_left; · (intro w hSw; (try dsimp only at hSw); have c_ := hSw.2.1.cell 0; simp only [qA, qZ] at c_; go_simp; (try with_reducible rfl)))
      (try simp only [Act.put, qI, qO, qU])
      refine tq 2 102 _ ?_
      refine tq 3 103 _ ?_
      refine tq 4 104 _ ?_
      refine tq 5 105 _ ?_
      (try simp only [Act.put, qI, qO, qU])
      (refine tk 6 106 ?_ ?_ ?_; rotate_left; · (intro w hSw; (try dsimp only at hSw); have c_ := hSw.2.1.cell 2; simp only [qA, qZ, qS] at c_; go_simp; (try with_reducible rfl)))
      refine tq 7 107 _ ?_
      refine tq 8 108 _ ?_
      (refine tko 9 109 ?_)
      (try simp only [Act.put, qI, qO, qU])
      (refine tko 10 110 ?_)
      (refine tko 11 111 ?_)
      (refine tko 12 112 ?_)
      (refine tko 13 113 ?_)
      (try simp only [Act.put, qI, qO, qU])
      (refine tko 14 114 ?_)
      (refine tko 15 115 ?_)
      refine tq 16 116 _ ?_
      refine tq 17 117 _ ?_
      (try simp only [Act.put, qI, qO, qU])
      refine tq 18 118 _ ?_
      (refine tk 19 119 ?_ ?_ ?_; rotate_left; · (intro w hSw; (try dsimp only at hSw); have c_ := hSw.2.1.cell 0; simp only [qA, qZ] at c_; go_simp; (try with_reducible rfl)))
      refine tq 20 120 _ ?_
      refine tq 21 121 _ ?_
      (try simp only [Act.put, qI, qO, qU])
      (refine tko 22 122 ?_)
      (refine tko 23 123 ?_)
      (refine tko 24 124 ?_)
      (refine tko 25 125 ?_)
      (try simp only [Act.put, qI, qO, qU])
      (refine tko 26 126 ?_)
      (refine tko 27 127 ?_)
      (refine tko 28 128 ?_)
      (refine tko 29 129 ?_)
      (try simp only [Act.put, qI, qO, qU])
      (refine tko 30 130 ?_)
      (refine tko 31 131 ?_)
      refine tq 32 132 _ ?_
      refine tq 33 133 _ ?_
      (try simp only [Act.put, qI, qO, qU])
      refine wpAnyH_done (by kernel_rfl) ?_ _
      refine NoPanic.normal ?_
      clear hHeld cP
      go_wp2_with fail
      go_meet
      exact ⟨rfl, HH⟩
     have e1_ := hpr.out rfl rfl
     subst e1_
     have HH := H13.new (Chg.refl [] _).drew
     clear H13
     refine wp_region_noPanic ?_
     refine wp_region_held_drew (S := (fun w' => Blk w' cb 85 #[.int .i64 cg, .int .i64 cl, .int .i64 cr] ∧ Blk w' gb 99 #[.int .i64 2, .int .i64 t_, .bool true, .bool ru, .bool rx] ∧ Blk w' kb 85 #[.int .i64 kg, .int .i64 kl, .int .i64 kr] ∧ Blk w' wb 51 (wdC hp gq q t dd))) (by kernel_rfl) ?_ (fun hHeld => ?_)
     ·exact ⟨(HH.pick 0 rfl).blk, (HH.pick 1 rfl).blk, (HH.pick 7 rfl).blk, (HH.pick 3 rfl).blk⟩
     refine tq 0 100 _ ?_
     (try simp only [Act.put, qI, qO, qU])
     (refine tk 1 101 ?_ ?_ ?_; rotate_left; · (intro w hSw; (try dsimp only at hSw); have c_ := hSw.2.1.cell 0; simp only [qA, qZ] at c_; go_simp; (try with_reducible rfl)))
     refine tq 2 102 _ ?_
     refine tq 3 103 _ ?_
     refine tq 4 104 _ ?_
     (try simp only [Act.put, qI, qO, qU])
     refine tq 5 105 _ ?_
     (refine tk 6 106 ?_ ?_ ?_; rotate_left; · (intro w hSw; (try dsimp only at hSw); have c_ := hSw.2.1.cell 2; simp only [qA, qZ, qS] at c_; go_simp; (try with_reducible rfl)))
     refine tq 7 107 _ ?_
     refine tq 8 108 _ ?_
     (try simp only [Act.put, qI, qO, qU])
     refine tq 9 109 _ ?_
     refine tq 10 110 _ ?_
     refine tq 11 111 _ ?_
     (refine tk 12 112 ?_ ?_ ?_; rotate_left; · (intro w hSw; (try dsimp only at hSw); have c_ := wdC_cells hSw.2.2.2; go_simp; (try with_reducible rfl)))
     (try simp only [Act.put, qI, qO, qU])
     refine tq 13 113 _ ?_
     (refine tk 14 114 ?_ ?_ ?_; rotate_left; · (intro w hSw; (try dsimp only at hSw); have c_ := hSw.2.1.cell 1; simp only [qA, qZ, qS] at c_; go_simp; (try with_reducible rfl)))
     (try simp only [Act.put, qI, qO, qU])
     refine rdy 15 fun K hK => ?_
     go_simp
     (go_at_call 40; refine (cP (HH.pick 2 rfl)).mono ?_; rintro e u1 ⟨rfl, H9⟩; clear HH; have HH := (H9.pick 2 rfl).pick 2 rfl)
     refine hK.out _ _ (by (try dsimp only); exact ⟨(HH.pick 0 rfl).blk, (HH.pick 1 rfl).blk, (HH.pick 7 rfl).blk, (HH.pick 3 rfl).blk⟩) (fun hHeld => ?_)
     clear hK K
     (try simp only [Act.put, qI, qO, qU])
     refine tq 16 116 _ ?_
     refine tq 17 117 _ ?_
     refine tq 18 118 _ ?_
     (try simp only [Act.put, qI, qO, qU])
     (refine tk 19 119 ?_ ?_ ?_; rotate_left; · (intro w hSw; (try dsimp only at hSw); have c_ := hSw.2.1.cell 0; simp only [qA, qZ] at c_; go_simp; (try with_reducible rfl)))
     refine tq 20 120 _ ?_
     refine tq 21 121 _ ?_
     (refine tko 22 122 ?_)
     (try simp only [Act.put, qI, qO, qU])
     (refine tko 23 123 ?_)
     (refine tko 24 124 ?_)
     (refine tko 25 125 ?_)
     (refine tko 26 126 ?_)
     (try simp only [Act.put, qI, qO, qU])
     (refine tko 27 127 ?_)
     (refine tko 28 128 ?_)
     (refine tko 29 129 ?_)
     (refine tko 30 130 ?_)
     (try simp only [Act.put, qI, qO, qU])
     (refine tko 31 131 ?_)
     refine tq 32 132 _ ?_
     refine tq 33 133 _ ?_
     (try simp only [Act.put, qI, qO, qU])
     refine wpAnyH_done (by kernel_rfl) ?_ _
     refine NoPanic.normal ?_
     clear hHeld cP
     go_wp2_with fail
     go_meet
     exact ⟨rfl, HH⟩
    obtain ⟨rfl, H14⟩ := hcut
    clear H13 cP
    go_wp2_with fail
    go_roundw
    case rel => exact ⟨i + 1, by omega, by go_num, H14.tail.tail⟩
    case measure => simp [intOf]; omega
   obtain rfl : i = 8 := by omega
   have hiz : ¬ ((8 : Nat) : Int) < 8 := by omega
   go_wp2_with fail
   go_roundw
   case rel => exact ⟨j + 1, by omega, by go_num, (((((((H.pick 4 rfl).pick 4 rfl).pick 4 rfl).pick 4 rfl).pick 4 rfl).pick 5 rfl)).tail⟩
   case measure => simp [intOf]; omega
  have hjz : ¬ (j : Int) < (N7 : Int) := by omega
  go_wp2_with fail
  go_roundw
  case rel => exact ⟨k + 1, by omega, by go_num, by rw [hDk.out]; exact ((((((H.pick 3 rfl).pick 3 rfl).pick 3 rfl).pick 3 rfl).pick 4 rfl)).tail⟩
  case measure => simp [intOf]; omega
 have ek : k = m := by omega
 subst ek
 have hltz : ¬ (k : Int) < (k : Int) := by omega
 rw [List.take_of_length_le (Nat.le_of_eq hmm.out)] at H
 have hd : FdO (opsF (gd0 (madeG P)) L) := FdO.opsF L (FdO.made P)
 obtain ⟨d, hd_⟩ : ∃ d, opsF (gd0 (madeG P)) L = d := ⟨_, rfl⟩
 rw [hd_] at H hd
 clear hd_ hltz hlt hk hmm hm9 hl
 go_wp2_with fail
 go_ret
 exact ⟨rfl, H.1⟩
theorem FillTables_walk (A : Option Addr) (n c : Nat) (P : List Pu) (B : Option Addr) (m e0 : Nat) (L : List Fst) (w : World) (hP : SlP w A n P) (hl : FopsIn w B m L) (hE : ErrIn w) :
  Calls Tryz.prog 7 #[.slice A n c, .slice B m e0] w fun e w' => e = .returned (.bool true) ∧ Chg [] w w' := lawFillTables_any A n c P B m e0 L w hP hl hE
end Go.Proofs.YtmbgepafpcbakaaGreatDoor
