/-
 FillRoom: the law, walked from contracts.
-/
import Derived.Test.YtmbgepafpcbakaaGreatDoorFlMK
import Derived.Deep.CutRange
namespace Go.Proofs.YtmbgepafpcbakaaGreatDoor
open Go.RowKit Go.Maps
theorem room_do {d : Gd} (h : FdO d) (o : Fst) (hw : o.what < 4 ∨ 9 < o.what) : (doF d o).2.2.1 = decide ((doF d o).2.2.2 = 0) := by
 unfold doF
 rw [if_neg (by omega), if_neg (by omega), if_neg (by omega), if_neg (by omega), if_neg (by omega), if_neg (by omega)]
 unfold fillO
 split
 ·simp only [decide_true]
  exact fill_room h (by omega) _ _ _ _
 rename_i hn
 simp only
 rw [decide_eq_false hn]
set_option maxRecDepth 100000 in
set_option maxHeartbeats 20000000 in
theorem lawFillRoom_any (A : Option Addr) (n c : Nat) (P : List Pu) (B : Option Addr) (m e0 : Nat) (L : List Fst) (w : World) (hP : SlP w A n P) (hl : FopsIn w B m L) (hE : ErrIn w) :
  Calls Tryz.prog 6 #[.slice A n c, .slice B m e0] w fun e w' => e = .returned (.bool true) ∧ Chg [] w w' := by
 have hHd := fun w' (h : ErrIn w') => FHead_any w' h
 have hGr := fun z => Great17_any A n c B m e0 z
 have hmm := hl.sl.len
 have hm9 := hl.sl.le
 replace hmm := Lib.hid hmm
 have H0 := SepC.nil w
 cases hg_ : (decide (n > 600) || decide (m > 60))
 rotate_left
 ·rw [hg_] at hGr
  go_enter Tryz.func6, Tryz.ntmps6
  go_wp2_with fail
  refine (hHd _ (hE.new H0.1)).mono ?_; rintro e z1 ⟨rfl, y1⟩
  have H1 := H0.new y1
  clear H0 y1 hHd
  go_wp2_with fail
  refine (Made16_at (hP.self H1.1)).mono ?_; intro e z2 hMP
  unfold MadeP16 at hMP
  obtain ⟨wb, dd, gq, mp, q, hp, hb, t, rfl, HM⟩ := hMP
  have H := H1.merge HM
  clear H1 HM hP
  go_wp2_with fail
  refine (hGr _).mono ?_; rintro e z3 ⟨rfl, rfl⟩
  clear hGr
  go_wp2_with fail
  go_ret
  exact ⟨rfl, H.1⟩
 rw [hg_] at hGr
 clear hg_
 go_enter Tryz.func6, Tryz.ntmps6
 go_wp2_with fail
 refine (hHd _ (hE.new H0.1)).mono ?_; rintro e z1 ⟨rfl, y1⟩
 have H1 := H0.new y1
 clear H0 y1 hHd
 go_wp2_with fail
 refine (Made16_at (hP.self H1.1)).mono ?_; intro e z2 hMP
 unfold MadeP16 at hMP
 obtain ⟨wb, dd, gq, mp, q, hp, hb, t, rfl, HM⟩ := hMP
 have H := H1.merge HM
 clear H1 HM hP
 go_wp2_with fail
 refine (hGr _).mono ?_; rintro e z3 ⟨rfl, rfl⟩
 clear hGr
 go_wp2_with fail
 refine H.fMade.mono ?_; rintro e z4 ⟨fq, mq, rfl, H_⟩
 clear H
 have H := H_
 clear H_
 go_wp2_with fail
 replace H : SepC w _ (gdT dd gq mp q hp hb t 40 4 8 8 gl16 (opsF (gd0 (madeG P)) (L.take 0)) :: blkT wb 51 (wdC hp gq q t dd) :: blkT fq 202 (flC gq mq q dd) :: mapT mq gl16 :: []) := H
 go_loopw [8] (fun s_ wr => ∃ k : Nat, k ≤ m ∧ s_ = .int .i64 k ∧ SepC w wr (gdT dd gq mp q hp hb t 40 4 8 8 gl16 (opsF (gd0 (madeG P)) (L.take k)) :: blkT wb 51 (wdC hp gq q t dd) :: blkT fq 202 (flC gq mq q dd) :: mapT mq gl16 :: [])) (fun s_ _ => m - (intOf s_).toNat)
 case atStart => exact ⟨0, Nat.zero_le _, rfl, H⟩
 clear H
 obtain ⟨k, hk, rfl, H⟩ := hrel
 by_cases hlt : k < m
 ·have hltz : (k : Int) < (m : Int) := by omega
  obtain ⟨b, off, o, rfl, ho, c0, c1, c2, c3, c4, c5, c6, c7, c8⟩ := fopE_cells (hl.new H.1).sl hlt
  have hD := H.fDo o (hl.at_ ho) (FdO.take L k (FdO.made P)) (hE.new H.1)
  rw [← opsF_take ho] at hD
  simp only [Fst.cs] at hD
  have hF : FdO (opsF (gd0 (madeG P)) (L.take (k + 1))) := FdO.take L (k + 1) (FdO.made P)
  have hcnt := hF.gd.sr.cnt
  have hrm := room_do (FdO.take L k (FdO.made P)) o
  obtain ⟨R1, hR1⟩ : ∃ R1, doF (opsF (gd0 (madeG P)) (L.take k)) o = R1 := ⟨_, rfl⟩
  rw [hR1] at hD hrm
  clear hR1 hF
  obtain ⟨Rd, Ra, bI, hI⟩ := R1
  simp only at hD hrm
  obtain ⟨D, hDk⟩ : ∃ D, opsF (gd0 (madeG P)) (L.take (k + 1)) = D := ⟨_, rfl⟩
  rw [hDk] at hD hcnt
  replace hDk := Lib.hid hDk
  have cA := fun {z : World} {l' : List Th} (H' : SepC w z (gdT dd gq mp q hp hb t 40 4 8 8 gl16 (D) :: l')) => H'.kPages
  have cL := fun {z : World} {l' : List Th} (H' : SepC w z (gdT dd gq mp q hp hb t 40 4 8 8 gl16 (D) :: l')) => H'.kLeft
  simp only [List.length_map] at cA
  generalize D.s.L.map Pg.f = F7 at cA
  generalize D.s.L.length = N7 at *
  generalize D.s.fr.length = N8 at *
  have h78 : IntKind.i64.wrap ((N8 : Int) + (N7 : Int)) = 8 := by rw [show (N8 : Int) + (N7 : Int) = 8 by omega]; decide
  have h78w : wrap64 ((N8 : Int) + (N7 : Int)) = 8 := by rw [show (N8 : Int) + (N7 : Int) = 8 by omega]; unfold wrap64; decide
  have h78z : (N8 : Int) + (N7 : Int) = 8 := by omega
  replace h78z := Lib.hid h78z
  have hcl := fun (z : World) (hz : Chg [] w z) => (show z.cell? ⟨b, off + k * 9, none⟩ = some (.int .i64 o.what) from by
   obtain ⟨b_, off_, o_, eB_, ho_, q0, _⟩ := fopE_cells (hl.new hz).sl hlt
   cases eB_; rw [ho] at ho_; cases ho_
   exact q0)
  have h8 : decide (8 < N7) = false := decide_eq_false (by omega)
  have h8y : decide ((N7 : Int) > 8) = false := decide_eq_false (by omega)
  have h8z : decide ((8 : Int) < (N7 : Int)) = false := decide_eq_false (by omega)
  replace hcnt := Lib.hid hcnt
  clear H
  go_wp2_with fail
  refine hD.mono ?_; rintro e w2 ⟨A9, c9, rfl, H2⟩
  clear hD c0 c1 c2 c3 c4 c5 c6 c7 c8
  replace H2 := H2.tail
  clear ho
  by_cases ha : o.what < 4
  ·have hb_ := hrm (by omega)
   have hne : (bI != (hI == 0)) = false := by rw [hb_]; by_cases e_ : hI = 0 <;> simp [e_]
   have hne2 : (bI == (hI == 0)) = true := by rw [hb_]; by_cases e_ : hI = 0 <;> simp [e_]
   clear hb_
   clear hrm
   go_upto_region 12 with fail
   have HH := H2.new (Chg.refl [] _).drew
   clear H2
   refine wp_region_noPanic ?_
   refine wp_region_held_drew (S := (fun w' => w'.cell? ⟨b, off + k * 9, none⟩ = some (.int .i64 o.what) ∧ Blk w' wb 51 (wdC hp gq q t dd))) (by kernel_rfl) ?_ (fun hHeld => ?_)
   ·exact ⟨hcl _ HH.1, (HH.pick 1 rfl).blk⟩
   refine tq 0 48 _ ?_
   refine tq 1 49 _ ?_
   refine tq 2 50 _ ?_
   refine tq 3 51 _ ?_
   (try simp only [Act.put, qI, qO, qU])
   (refine tk 4 52 ?_ ?_ ?_; rotate_left; · (intro w hSw; (try dsimp only at hSw); have c_ := hSw.1; go_simp; (try with_reducible rfl)))
   refine tq 5 53 _ ?_
   refine tq 6 54 _ ?_
   (refine tko 7 55 ?_)
   (try simp only [Act.put, qI, qO, qU])
   (refine tko 8 56 ?_)
   (refine tko 9 57 ?_)
   (refine tko 10 58 ?_)
   (refine tko 11 59 ?_)
   (try simp only [Act.put, qI, qO, qU])
   (refine tko 12 60 ?_)
   refine tq 13 61 _ ?_
   refine tq 14 62 _ ?_
   refine tq 15 63 _ ?_
   (try simp only [Act.put, qI, qO, qU])
   refine tq 16 64 _ ?_
   refine tq 17 65 _ ?_
   refine tq 18 66 _ ?_
   refine tq 19 67 _ ?_
   (try simp only [Act.put, qI, qO, qU])
   refine tq 20 68 _ ?_
   refine tq 21 69 _ ?_
   refine tq 22 70 _ ?_
   refine tq 23 71 _ ?_
   (try simp only [Act.put, qI, qO, qU])
   (refine tk 24 72 ?_ ?_ ?_; rotate_left; · (intro w hSw; (try dsimp only at hSw); have c_ := wdC_cells hSw.2; go_simp; (try with_reducible rfl)))
   (try simp only [Act.put, qI, qO, qU])
   refine rdy 25 fun K hK => ?_
   go_simp
   (go_at_call 23; refine (cA HH).mono ?_; rintro e u1 ⟨A1, c1_, rfl, HX⟩; clear HH; have HH := HX.tail; clear HX)
   refine hK.out _ _ (by (try dsimp only); exact ⟨hcl _ HH.1, (HH.pick 1 rfl).blk⟩) (fun hHeld => ?_)
   clear hK K
   (try simp only [Act.put, qI, qO, qU])
   refine tq 26 74 _ ?_
   refine tq 27 75 _ ?_
   refine tq 28 76 _ ?_
   refine tq 29 77 _ ?_
   (try simp only [Act.put, qI, qO, qU])
   refine tq 30 78 _ ?_
   refine tq 31 79 _ ?_
   refine tq 32 80 _ ?_
   (refine tk 33 81 ?_ ?_ ?_; rotate_left; · (intro w hSw; (try dsimp only at hSw); have c_ := wdC_cells hSw.2; go_simp; (try with_reducible rfl)))
   (try simp only [Act.put, qI, qO, qU])
   refine tq 35 83 _ ?_
   refine tq 36 84 _ ?_
   refine tq 37 85 _ ?_
   (refine tk 38 86 ?_ ?_ ?_; rotate_left; · (intro w hSw; (try dsimp only at hSw); have c_ := wdC_cells hSw.2; go_simp; (try with_reducible rfl)))
   (try simp only [Act.put, qI, qO, qU])
   refine rdy 34 fun K hK => ?_
   go_simp
   (go_at_call 42; refine (cL HH).mono ?_; rintro e u2 ⟨rfl, y_⟩; replace HH := HH.new y_; clear y_)
   refine hK.out _ _ (by (try dsimp only); exact ⟨hcl _ HH.1, (HH.pick 1 rfl).blk⟩) (fun hHeld => ?_)
   clear hK K
   (try simp only [Act.put, qI, qO, qU])
   refine rdy 39 fun K hK => ?_
   go_simp
   (go_at_call 23; refine (cA HH).mono ?_; rintro e u1 ⟨A1, c1_, rfl, HX⟩; clear HH; have HH := HX.tail; clear HX)
   refine hK.out _ _ (by (try dsimp only); exact ⟨hcl _ HH.1, (HH.pick 1 rfl).blk⟩) (fun hHeld => ?_)
   clear hK K
   (try simp only [Act.put, qI, qO, qU])
   refine tq 40 88 _ ?_
   (try simp only [Act.put, qI, qO, qU])
   refine tq 41 89 _ ?_
   refine tq 42 90 _ ?_
   refine tq 43 91 _ ?_
   (try simp only [Act.put, qI, qO, qU])
   refine wpAnyH_done (by kernel_rfl) ?_ _
   refine NoPanic.normal ?_
   clear hHeld cA cL hcl
   go_wp2_with fail
   go_roundw
   case rel => exact ⟨k + 1, by omega, by go_num, by rw [hDk.out]; exact HH⟩
   case measure => simp [intOf]; omega
  by_cases hb9 : 9 < o.what
  ·have hb_ := hrm (by omega)
   have hne : (bI != (hI == 0)) = false := by rw [hb_]; by_cases e_ : hI = 0 <;> simp [e_]
   have hne2 : (bI == (hI == 0)) = true := by rw [hb_]; by_cases e_ : hI = 0 <;> simp [e_]
   clear hb_
   clear hrm
   have ha2 : decide (o.what < 4) = false := decide_eq_false ha
   have hb2 : decide (o.what > 9) = true := decide_eq_true hb9
   go_upto_region 12 with fail
   have HH := H2.new (Chg.refl [] _).drew
   clear H2
   refine wp_region_noPanic ?_
   refine wp_region_held_drew (S := (fun w' => w'.cell? ⟨b, off + k * 9, none⟩ = some (.int .i64 o.what) ∧ Blk w' wb 51 (wdC hp gq q t dd))) (by kernel_rfl) ?_ (fun hHeld => ?_)
   ·exact ⟨hcl _ HH.1, (HH.pick 1 rfl).blk⟩
   refine tq 0 48 _ ?_
   refine tq 1 49 _ ?_
   (try simp only [Act.put, qI, qO, qU])
   refine tq 2 50 _ ?_
   refine tq 3 51 _ ?_
   (refine tk 4 52 ?_ ?_ ?_; rotate_left; · (intro w hSw; (try dsimp only at hSw); have c_ := hSw.1; go_simp; (try with_reducible rfl)))
   refine tq 5 53 _ ?_
   (try simp only [Act.put, qI, qO, qU])
   refine tq 6 54 _ ?_
   refine tq 7 55 _ ?_
   refine tq 8 56 _ ?_
   refine tq 9 57 _ ?_
   (try simp only [Act.put, qI, qO, qU])
   refine tq 10 58 _ ?_
   (refine tk 11 59 ?_ ?_ ?_; rotate_left; · (intro w hSw; (try dsimp only at hSw); have c_ := hSw.1; go_simp; (try with_reducible rfl)))
   refine tq 12 60 _ ?_
   refine tq 13 61 _ ?_
   (try simp only [Act.put, qI, qO, qU])
   refine tq 14 62 _ ?_
   refine tq 15 63 _ ?_
   refine tq 16 64 _ ?_
   refine tq 17 65 _ ?_
   (try simp only [Act.put, qI, qO, qU])
   refine tq 18 66 _ ?_
   refine tq 19 67 _ ?_
   refine tq 20 68 _ ?_
   refine tq 21 69 _ ?_
   (try simp only [Act.put, qI, qO, qU])
   refine tq 22 70 _ ?_
   refine tq 23 71 _ ?_
   (refine tk 24 72 ?_ ?_ ?_; rotate_left; · (intro w hSw; (try dsimp only at hSw); have c_ := wdC_cells hSw.2; go_simp; (try with_reducible rfl)))
   (try simp only [Act.put, qI, qO, qU])
   refine rdy 25 fun K hK => ?_
   go_simp
   (go_at_call 23; refine (cA HH).mono ?_; rintro e u1 ⟨A1, c1_, rfl, HX⟩; clear HH; have HH := HX.tail; clear HX)
   refine hK.out _ _ (by (try dsimp only); exact ⟨hcl _ HH.1, (HH.pick 1 rfl).blk⟩) (fun hHeld => ?_)
   clear hK K
   (try simp only [Act.put, qI, qO, qU])
   refine tq 26 74 _ ?_
   refine tq 27 75 _ ?_
   (try simp only [Act.put, qI, qO, qU])
   refine tq 28 76 _ ?_
   refine tq 29 77 _ ?_
   refine tq 30 78 _ ?_
   refine tq 31 79 _ ?_
   (try simp only [Act.put, qI, qO, qU])
   refine tq 32 80 _ ?_
   (refine tk 33 81 ?_ ?_ ?_; rotate_left; · (intro w hSw; (try dsimp only at hSw); have c_ := wdC_cells hSw.2; go_simp; (try with_reducible rfl)))
   refine tq 35 83 _ ?_
   refine tq 36 84 _ ?_
   (try simp only [Act.put, qI, qO, qU])
   refine tq 37 85 _ ?_
   (refine tk 38 86 ?_ ?_ ?_; rotate_left; · (intro w hSw; (try dsimp only at hSw); have c_ := wdC_cells hSw.2; go_simp; (try with_reducible rfl)))
   (try simp only [Act.put, qI, qO, qU])
   refine rdy 34 fun K hK => ?_
   go_simp
   (go_at_call 42; refine (cL HH).mono ?_; rintro e u2 ⟨rfl, y_⟩; replace HH := HH.new y_; clear y_)
   refine hK.out _ _ (by (try dsimp only); exact ⟨hcl _ HH.1, (HH.pick 1 rfl).blk⟩) (fun hHeld => ?_)
   clear hK K
   (try simp only [Act.put, qI, qO, qU])
   refine rdy 39 fun K hK => ?_
   go_simp
   (go_at_call 23; refine (cA HH).mono ?_; rintro e u1 ⟨A1, c1_, rfl, HX⟩; clear HH; have HH := HX.tail; clear HX)
   refine hK.out _ _ (by (try dsimp only); exact ⟨hcl _ HH.1, (HH.pick 1 rfl).blk⟩) (fun hHeld => ?_)
   clear hK K
   (try simp only [Act.put, qI, qO, qU])
   refine tq 40 88 _ ?_
   refine tq 41 89 _ ?_
   refine tq 42 90 _ ?_
   (try simp only [Act.put, qI, qO, qU])
   refine tq 43 91 _ ?_
   (try simp only [Act.put, qI, qO, qU])
   refine wpAnyH_done (by kernel_rfl) ?_ _
   refine NoPanic.normal ?_
   clear hHeld cA cL hcl
   go_wp2_with fail
   go_roundw
   case rel => exact ⟨k + 1, by omega, by go_num, by rw [hDk.out]; exact HH⟩
   case measure => simp [intOf]; omega
  clear hrm
  have ha2 : decide (o.what < 4) = false := decide_eq_false ha
  have hb2 : decide (o.what > 9) = false := decide_eq_false hb9
  have hb3 : decide (9 < o.what) = false := decide_eq_false hb9
  go_upto_region 12 with fail
  have HH := H2.new (Chg.refl [] _).drew
  clear H2
  refine wp_region_noPanic ?_
  refine wp_region_held_drew (S := (fun w' => w'.cell? ⟨b, off + k * 9, none⟩ = some (.int .i64 o.what) ∧ Blk w' wb 51 (wdC hp gq q t dd))) (by kernel_rfl) ?_ (fun hHeld => ?_)
  ·exact ⟨hcl _ HH.1, (HH.pick 1 rfl).blk⟩
  refine tq 0 48 _ ?_
  refine tq 1 49 _ ?_
  refine tq 2 50 _ ?_
  refine tq 3 51 _ ?_
  (try simp only [Act.put, qI, qO, qU])
  (refine tk 4 52 ?_ ?_ ?_; rotate_left; · (intro w hSw; (try dsimp only at hSw); have c_ := hSw.1; go_simp; (try with_reducible rfl)))
  refine tq 5 53 _ ?_
  refine tq 6 54 _ ?_
  refine tq 7 55 _ ?_
  (try simp only [Act.put, qI, qO, qU])
  refine tq 8 56 _ ?_
  refine tq 9 57 _ ?_
  refine tq 10 58 _ ?_
  (refine tk 11 59 ?_ ?_ ?_; rotate_left; · (intro w hSw; (try dsimp only at hSw); have c_ := hSw.1; go_simp; (try with_reducible rfl)))
  (try simp only [Act.put, qI, qO, qU])
  refine tq 12 60 _ ?_
  refine tq 13 61 _ ?_
  refine tq 14 62 _ ?_
  (refine tko 15 63 ?_)
  (try simp only [Act.put, qI, qO, qU])
  (refine tko 16 64 ?_)
  (refine tko 17 65 ?_)
  (refine tko 18 66 ?_)
  refine tq 19 67 _ ?_
  (try simp only [Act.put, qI, qO, qU])
  refine tq 20 68 _ ?_
  refine tq 21 69 _ ?_
  refine tq 22 70 _ ?_
  refine tq 23 71 _ ?_
  (try simp only [Act.put, qI, qO, qU])
  (refine tk 24 72 ?_ ?_ ?_; rotate_left; · (intro w hSw; (try dsimp only at hSw); have c_ := wdC_cells hSw.2; go_simp; (try with_reducible rfl)))
  (try simp only [Act.put, qI, qO, qU])
  refine rdy 25 fun K hK => ?_
  go_simp
  (go_at_call 23; refine (cA HH).mono ?_; rintro e u1 ⟨A1, c1_, rfl, HX⟩; clear HH; have HH := HX.tail; clear HX)
  refine hK.out _ _ (by (try dsimp only); exact ⟨hcl _ HH.1, (HH.pick 1 rfl).blk⟩) (fun hHeld => ?_)
  clear hK K
  (try simp only [Act.put, qI, qO, qU])
  refine tq 26 74 _ ?_
  refine tq 27 75 _ ?_
  refine tq 28 76 _ ?_
  refine tq 29 77 _ ?_
  (try simp only [Act.put, qI, qO, qU])
  refine tq 30 78 _ ?_
  refine tq 31 79 _ ?_
  refine tq 32 80 _ ?_
  (refine tk 33 81 ?_ ?_ ?_; rotate_left; · (intro w hSw; (try dsimp only at hSw); have c_ := wdC_cells hSw.2; go_simp; (try with_reducible rfl)))
  (try simp only [Act.put, qI, qO, qU])
  refine tq 35 83 _ ?_
  refine tq 36 84 _ ?_
  refine tq 37 85 _ ?_
  (refine tk 38 86 ?_ ?_ ?_; rotate_left; · (intro w hSw; (try dsimp only at hSw); have c_ := wdC_cells hSw.2; go_simp; (try with_reducible rfl)))
  (try simp only [Act.put, qI, qO, qU])
  refine rdy 34 fun K hK => ?_
  go_simp
  (go_at_call 42; refine (cL HH).mono ?_; rintro e u2 ⟨rfl, y_⟩; replace HH := HH.new y_; clear y_)
  refine hK.out _ _ (by (try dsimp only); exact ⟨hcl _ HH.1, (HH.pick 1 rfl).blk⟩) (fun hHeld => ?_)
  clear hK K
  (try simp only [Act.put, qI, qO, qU])
  refine rdy 39 fun K hK => ?_
  go_simp
  (go_at_call 23; refine (cA HH).mono ?_; rintro e u1 ⟨A1, c1_, rfl, HX⟩; clear HH; have HH := HX.tail; clear HX)
  refine hK.out _ _ (by (try dsimp only); exact ⟨hcl _ HH.1, (HH.pick 1 rfl).blk⟩) (fun hHeld => ?_)
  clear hK K
  (try simp only [Act.put, qI, qO, qU])
  refine tq 40 88 _ ?_
  (try simp only [Act.put, qI, qO, qU])
  refine tq 41 89 _ ?_
  refine tq 42 90 _ ?_
  refine tq 43 91 _ ?_
  (try simp only [Act.put, qI, qO, qU])
  refine wpAnyH_done (by kernel_rfl) ?_ _
  refine NoPanic.normal ?_
  clear hHeld cA cL hcl
  go_wp2_with fail
  go_roundw
  case rel => exact ⟨k + 1, by omega, by go_num, by rw [hDk.out]; exact HH⟩
  case measure => simp [intOf]; omega
 have ek : k = m := by omega
 subst ek
 have hltz : ¬ (k : Int) < (k : Int) := by omega
 rw [List.take_of_length_le (Nat.le_of_eq hmm.out)] at H
 have hd : FdO (opsF (gd0 (madeG P)) L) := FdO.opsF L (FdO.made P)
 obtain ⟨d, hd_⟩ : ∃ d, opsF (gd0 (madeG P)) L = d := ⟨_, rfl⟩
 rw [hd_] at H hd
 clear hd_ hltz hlt hk hmm hm9 hl
 go_wp2_with fail
 go_ret
 exact ⟨rfl, H.1⟩
end Go.Proofs.YtmbgepafpcbakaaGreatDoor
