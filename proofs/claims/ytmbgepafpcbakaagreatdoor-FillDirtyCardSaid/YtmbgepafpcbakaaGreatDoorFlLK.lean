/-
 One call of the laws of fill.
-/
import Derived.Test.YtmbgepafpcbakaaGreatDoorFlKK
import Derived.Deep.CutRange
namespace Go.Proofs.YtmbgepafpcbakaaGreatDoor
open Go.RowKit Go.Maps
section
variable {w0 w w' : World} {dd gq mp q hp hb t wb fq mq : Nat} {d : Gd} {l : List Th}
set_option maxRecDepth 100000 in
set_option maxHeartbeats 16000000 in
theorem SepC.fDo (H : SepC w0 w (gdT dd gq mp q hp hb t 40 4 8 8 gl16 (d) :: blkT wb 51 (wdC hp gq q t dd) :: blkT fq 202 (flC gq mq q dd) :: mapT mq gl16 :: l)) (o : Fst) (hw : o.Wf) (hd : FdO d) (hE : ErrIn w) : Calls Tryz.prog 20 #[.pointer (some ⟨wb, 0, none⟩), .pointer (some ⟨fq, 0, none⟩), .agg o.cs] w fun e w' => ∃ A c, e = .returned (.tuple #[.slice A (doF d o).2.1.length c, .bool (doF d o).2.2.1, .int .i64 (doF d o).2.2.2]) ∧ SepC w0 w' (ownT (numE .i64) 3 (.slice A (doF d o).2.1.length c) (doF d o).2.1 :: gdT dd gq mp q hp hb t 40 4 8 8 gl16 ((doF d o).1) :: blkT wb 51 (wdC hp gq q t dd) :: blkT fq 202 (flC gq mq q dd) :: mapT mq gl16 :: l) := by
 obtain ⟨hw1, hw3, hw4⟩ := hw
 obtain ⟨wh, root, page, kind, user, g, i, v, nn⟩ := o
 unfold Fst.cs doF
 simp only at *
 by_cases c_ : wh = 4
 ·subst c_
  have H1 := ((((((H.alloc #[.int .i64 4, .int .i64 root, .int .i64 page, .int .i64 kind, .bool user, .int .i64 g, .int .i64 i, .int .u64 v, .int .i64 nn] 61).pick 0 rfl).pick 4 rfl).pick 4 rfl).pick 4 rfl).pick 4 rfl)
  clear H
  have hC := fun {z : World} {l' : List Th} (H' : SepC w0 z (gdT dd gq mp q hp hb t 40 4 8 8 gl16 (d) :: l')) => H'.kLoosen g hw1
  simp
  go_enter Tryz.func20, Tryz.ntmps20
  go_upto_region 8 with fail
  generalize w.alloc (.cells #[.int .i64 4, .int .i64 root, .int .i64 page, .int .i64 kind, .bool user, .int .i64 g, .int .i64 i, .int .u64 v, .int .i64 nn] 61) = w1 at *
  generalize w.heap.size = ob at *
  have HH := H1.new (Chg.refl [] w1).drew
  clear H1
  refine wp_region_noPanic ?_
  refine wp_region_held_drew (S := (fun w' => Blk w' wb 51 (wdC hp gq q t dd) ∧ Blk w' ob 61 #[.int .i64 4, .int .i64 root, .int .i64 page, .int .i64 kind, .bool user, .int .i64 g, .int .i64 i, .int .u64 v, .int .i64 nn])) (by kernel_rfl) ?_ (fun hHeld => ?_)
  ·exact ⟨(HH.pick 1 rfl).blk, (HH.pick 4 rfl).blk⟩
  refine tq 0 55 _ ?_
  refine tq 1 56 _ ?_
  refine tq 2 57 _ ?_
  (refine tk 3 58 ?_ ?_ ?_; rotate_left; · (intro w hSw; (try dsimp only at hSw); have c_ := wdC_cells hSw.1; go_simp; (try with_reducible rfl)))
  (try simp only [Act.put, qI, qO, qU])
  refine tq 4 59 _ ?_
  (refine tk 5 60 ?_ ?_ ?_; rotate_left; · (intro w hSw; (try dsimp only at hSw); have o_ := hSw.2.cell 5; simp only [qA, qZ, qS] at o_; go_simp; (try with_reducible rfl)))
  (try simp only [Act.put, qI, qO, qU])
  refine rdy 6 fun K hK => ?_
  go_simp
  (go_at_call 63; refine (hC HH).mono ?_; rintro e u1 ⟨rfl, H9⟩; clear HH; have HH := H9)
  refine hK.out _ _ (by (try dsimp only); exact ⟨(HH.pick 1 rfl).blk, (HH.pick 4 rfl).blk⟩) (fun hHeld => ?_)
  clear hK K
  (try simp only [Act.put, qI, qO, qU])
  refine tq 7 6 _ ?_
  refine tq 8 7 _ ?_
  refine tq 9 8 _ ?_
  (try simp only [Act.put, qI, qO, qU])
  refine wpAnyH_done (by kernel_rfl) ?_ _
  refine NoPanic.normal ?_
  clear hC
  go_wp2_with fail
  go_ret3
  exact ⟨none, 0, rfl, ((H9.pick 4 rfl).tail).ownNil (numE .i64) 3⟩
 have n4 := c_
 have b4 : (wh == 4) = false := by simpa using c_
 clear c_
 by_cases c_ : wh = 5
 ·subst c_
  have H1 := ((((((H.alloc #[.int .i64 5, .int .i64 root, .int .i64 page, .int .i64 kind, .bool user, .int .i64 g, .int .i64 i, .int .u64 v, .int .i64 nn] 61).pick 0 rfl).pick 4 rfl).pick 4 rfl).pick 4 rfl).pick 4 rfl)
  clear H
  have hC := fun {z : World} {l' : List Th} (H' : SepC w0 z (gdT dd gq mp q hp hb t 40 4 8 8 gl16 (d) :: l')) => H'.kSet g i v ⟨hw3, hw4⟩
  simp
  go_enter Tryz.func20, Tryz.ntmps20
  go_upto_region 10 with fail
  generalize w.alloc (.cells #[.int .i64 5, .int .i64 root, .int .i64 page, .int .i64 kind, .bool user, .int .i64 g, .int .i64 i, .int .u64 v, .int .i64 nn] 61) = w1 at *
  generalize w.heap.size = ob at *
  have HH := H1.new (Chg.refl [] w1).drew
  clear H1
  refine wp_region_noPanic ?_
  refine wp_region_held_drew (S := (fun w' => Blk w' wb 51 (wdC hp gq q t dd) ∧ Blk w' ob 61 #[.int .i64 5, .int .i64 root, .int .i64 page, .int .i64 kind, .bool user, .int .i64 g, .int .i64 i, .int .u64 v, .int .i64 nn])) (by kernel_rfl) ?_ (fun hHeld => ?_)
  ·exact ⟨(HH.pick 1 rfl).blk, (HH.pick 4 rfl).blk⟩
  refine tq 0 64 _ ?_
  (try simp only [Act.put, qI, qO, qU])
  refine tq 1 65 _ ?_
  refine tq 2 66 _ ?_
  (refine tk 3 67 ?_ ?_ ?_; rotate_left; · (intro w hSw; (try dsimp only at hSw); have c_ := wdC_cells hSw.1; go_simp; (try with_reducible rfl)))
  refine tq 4 68 _ ?_
  (try simp only [Act.put, qI, qO, qU])
  (refine tk 5 69 ?_ ?_ ?_; rotate_left; · (intro w hSw; (try dsimp only at hSw); have o_ := hSw.2.cell 5; simp only [qA, qZ, qS] at o_; go_simp; (try with_reducible rfl)))
  refine tq 6 70 _ ?_
  (refine tk 7 71 ?_ ?_ ?_; rotate_left; · (intro w hSw; (try dsimp only at hSw); have o_ := hSw.2.cell 6; simp only [qA, qZ, qS] at o_; go_simp; (try with_reducible rfl)))
  refine tq 8 72 _ ?_
  (try simp only [Act.put, qI, qO, qU])
  (refine tk 9 73 ?_ ?_ ?_; rotate_left; · (intro w hSw; (try dsimp only at hSw); have o_ := hSw.2.cell 7; simp only [qA, qZ, qS] at o_; go_simp; (try with_reducible rfl)))
  (try simp only [Act.put, qI, qO, qU])
  refine rdy 10 fun K hK => ?_
  go_simp
  (go_at_call 52; refine (hC HH).mono ?_; rintro e u1 ⟨rfl, H9⟩; clear HH; have HH := H9)
  refine hK.out _ _ (by (try dsimp only); exact ⟨(HH.pick 1 rfl).blk, (HH.pick 4 rfl).blk⟩) (fun hHeld => ?_)
  clear hK K
  (try simp only [Act.put, qI, qO, qU])
  refine tq 11 6 _ ?_
  refine tq 12 7 _ ?_
  refine tq 13 8 _ ?_
  (try simp only [Act.put, qI, qO, qU])
  refine wpAnyH_done (by kernel_rfl) ?_ _
  refine NoPanic.normal ?_
  clear hC
  go_wp2_with fail
  go_ret3
  exact ⟨none, 0, rfl, ((H9.pick 4 rfl).tail).ownNil (numE .i64) 3⟩
 have n5 := c_
 have b5 : (wh == 5) = false := by simpa using c_
 clear c_
 by_cases c_ : wh = 6
 ·subst c_
  have H1 := ((((((H.alloc #[.int .i64 6, .int .i64 root, .int .i64 page, .int .i64 kind, .bool user, .int .i64 g, .int .i64 i, .int .u64 v, .int .i64 nn] 61).pick 0 rfl).pick 4 rfl).pick 4 rfl).pick 4 rfl).pick 4 rfl)
  clear H
  have hC := fun {z : World} {l' : List Th} (H' : SepC w0 z (gdT dd gq mp q hp hb t 40 4 8 8 gl16 (d) :: l')) => H'.kAll
  simp
  go_enter Tryz.func20, Tryz.ntmps20
  go_upto_region 12 with fail
  generalize w.alloc (.cells #[.int .i64 6, .int .i64 root, .int .i64 page, .int .i64 kind, .bool user, .int .i64 g, .int .i64 i, .int .u64 v, .int .i64 nn] 61) = w1 at *
  generalize w.heap.size = ob at *
  have c_ := wdC_cells (H1.pick 1 rfl).blk
  go_wp2_with fail
  refine (hC H1).mono ?_; rintro e u1 ⟨rfl, H9⟩
  clear hC
  go_wp2_with fail
  go_ret3
  exact ⟨none, 0, rfl, ((H9.pick 4 rfl).tail).ownNil (numE .i64) 3⟩
 have n6 := c_
 have b6 : (wh == 6) = false := by simpa using c_
 clear c_
 by_cases c_ : wh = 7
 ·subst c_
  have H1 := ((((((H.alloc #[.int .i64 7, .int .i64 root, .int .i64 page, .int .i64 kind, .bool user, .int .i64 g, .int .i64 i, .int .u64 v, .int .i64 nn] 61).pick 0 rfl).pick 4 rfl).pick 4 rfl).pick 4 rfl).pick 4 rfl)
  clear H
  have G := (H1.pick 0 rfl).gIn
  have hok := G.ok.sr
  clear G
  have cA := fun {z : World} {l' : List Th} (H' : SepC w0 z (gdT dd gq mp q hp hb t 40 4 8 8 gl16 (d) :: l')) => H'.kPages
  simp only [show ¬ ((7 : Int) = 4) by decide, show ¬ ((7 : Int) = 5) by decide, show ¬ ((7 : Int) = 6) by decide, if_false, if_true]
  have hLm : (d.s.L.map Pg.f).length = d.s.L.length := List.length_map _
  have hle := hok.le256
  have hdr := fun (x : Int) (hx : i64B x) {z : World} {l' : List Th} (H' : SepC w0 z (gdT dd gq mp q hp hb t 40 4 8 8 gl16 (d) :: l')) => H'.kDrop x hx
  have hP7 : ∀ j : Nat, j < d.s.L.length → i64B ((d.s.L.map Pg.f).getD j 0) ∧ (d.s.L.map Pg.f)[j]? = some ((d.s.L.map Pg.f).getD j 0) := fun j h => by
   obtain ⟨q_, _, _, _, _, h5, h6⟩ := hok.pageAt h
   rw [List.getD_eq_getElem?_getD, h6]; exact ⟨h5, rfl⟩
  have hn7 : nthF d nn = if 0 < d.s.L.length ∧ 0 ≤ nn then some ((d.s.L.map Pg.f).getD (nn % d.s.L.length).toNat 0) else none := rfl
  obtain ⟨N7, hN7⟩ : ∃ N7, d.s.L.length = N7 := ⟨_, rfl⟩
  rw [hN7] at hn7 hLm hle hP7
  rw [hLm] at cA
  generalize hz_ : d.s.L.map Pg.f = F7 at *
  clear hz_ hN7 hok
  replace hP7 := Lib.hid hP7; replace hLm := Lib.hid hLm
  by_cases hc : 0 < N7 ∧ 0 ≤ nn
  ·have hdo : dropO d nn = (dropG d (F7.getD (nn % N7).toNat 0), [], dropB d.s (F7.getD (nn % N7).toNat 0), 0) := by unfold dropO; rw [hn7, if_pos hc]
   rw [hdo]
   clear hdo hn7
   obtain ⟨hc1, hc2⟩ := hc
   obtain ⟨j, hj⟩ : ∃ j : Nat, nn % (N7 : Int) = (j : Int) := ⟨(nn % (N7 : Int)).toNat, by have := Int.emod_nonneg nn (show (N7 : Int) ≠ 0 by omega); omega⟩
   have hjlt : j < N7 := by have := Int.emod_lt_of_pos nn (show (0 : Int) < (N7 : Int) by omega); omega
   have ejn : (nn % (N7 : Int)).toNat = j := by omega
   rw [ejn]
   clear ejn
   obtain ⟨hi7, hg7⟩ := hP7.out j hjlt
   have hDr := fun {z : World} {l' : List Th} (H' : SepC w0 z (gdT dd gq mp q hp hb t 40 4 8 8 gl16 (d) :: l')) => hdr _ hi7 H'
   clear hdr hP7 hi7
   generalize F7.getD j 0 = f7 at *
   generalize dropG d f7 = d2 at *
   generalize dropB d.s f7 = db at *
   have htm : Int.tmod nn (N7 : Int) = (j : Int) := by rw [Int.tmod_eq_emod_of_nonneg hc2]; exact hj
   have hnz : ¬ N7 = 0 := by omega
   have hnzi : ¬ ((N7 : Int) = 0) := by omega
   have hjb : (j : Int) < (N7 : Int) := by omega
   replace hj := Lib.hid hj
   go_enter Tryz.func20, Tryz.ntmps20
   go_upto_region 14 with fail
   generalize w.alloc (.cells #[.int .i64 7, .int .i64 root, .int .i64 page, .int .i64 kind, .bool user, .int .i64 g, .int .i64 i, .int .u64 v, .int .i64 nn] 61) = w1 at *
   generalize w.heap.size = ob at *
   have c_ := wdC_cells (H1.pick 1 rfl).blk
   go_wp2_with fail
   refine (cA H1).mono ?_; rintro e w3 ⟨A7, c7, rfl, HX⟩
   clear cA H1 c_
   have H3 := ((((((HX.pick 0 rfl).pick 5 rfl).pick 5 rfl).pick 5 rfl).pick 5 rfl).pick 5 rfl)
   clear HX
   have o8_ := (H3.pick 4 rfl).blk.cell 8
   simp only [qA, qZ, qS] at o8_
   go_upto_region 16 with fail
   obtain ⟨b_, off, x_, eA_, _, hx, hat⟩ := SlN.get ((H3.pick 5 rfl).own.slg) hjlt
   subst eA_
   rw [hg7] at hx; cases hx
   have hld := fun (z : World) (l' : List Th) (H' : SepC w0 z (ownT (numE .i64) 3 (.slice (some ⟨b_, off, none⟩) N7 c7) F7 :: l')) => (show z.cell? ⟨b_, off + j, none⟩ = some (.int .i64 f7) from by
    obtain ⟨b2_, o2_, x2_, e2_, _, h2_, t2_⟩ := SlN.get (H'.own.slg) hjlt
    cases e2_
    rw [hg7] at h2_; cases h2_
    exact t2_)
   clear hat hg7 o8_
   have HH := H3.new (Chg.refl [] w3).drew
   clear H3
   refine wp_region_noPanic ?_
   refine wp_region_held_drew (S := (fun w' => Blk w' wb 51 (wdC hp gq q t dd) ∧ Blk w' ob 61 #[.int .i64 7, .int .i64 root, .int .i64 page, .int .i64 kind, .bool user, .int .i64 g, .int .i64 i, .int .u64 v, .int .i64 nn] ∧ w'.cell? ⟨b_, off + j, none⟩ = some (.int .i64 f7))) (by kernel_rfl) ?_ (fun hHeld => ?_)
   ·exact ⟨(HH.pick 1 rfl).blk, (HH.pick 4 rfl).blk, hld _ _ (HH.pick 5 rfl)⟩
   refine tq 0 97 _ ?_
   refine tq 1 98 _ ?_
   (try simp only [Act.put, qI, qO, qU])
   refine tq 2 99 _ ?_
   (refine tk 3 100 ?_ ?_ ?_; rotate_left; · (intro w hSw; (try dsimp only at hSw); have c_ := wdC_cells hSw.1; go_simp; (try with_reducible rfl)))
   refine tq 4 101 _ ?_
   refine tq 5 102 _ ?_
   (try simp only [Act.put, qI, qO, qU])
   (refine tk 6 103 ?_ ?_ ?_; rotate_left; · (intro w hSw; (try dsimp only at hSw); have o_ := hSw.2.1.cell 8; simp only [qA, qZ, qS] at o_; go_simp; (try with_reducible rfl)))
   refine tq 7 104 _ ?_
   refine tq 8 105 _ ?_
   refine tq 9 106 _ ?_
   (try simp only [Act.put, qI, qO, qU])
   refine tq 10 107 _ ?_
   (refine tk 11 108 ?_ ?_ ?_; rotate_left; · (intro w hSw; (try dsimp only at hSw); have c_ := hSw.2.2; go_simp; (try with_reducible rfl)))
   (try simp only [Act.put, qI, qO, qU])
   refine rdy 12 fun K hK => ?_
   go_simp
   (go_at_call 65; refine (hDr HH).mono ?_; rintro e u1 ⟨rfl, H9⟩; clear HH; have HH := H9)
   refine hK.out _ _ (by (try dsimp only); exact ⟨(HH.pick 1 rfl).blk, (HH.pick 4 rfl).blk, hld _ _ (HH.pick 5 rfl)⟩) (fun hHeld => ?_)
   clear hK K
   (try simp only [Act.put, qI, qO, qU])
   refine tq 13 6 _ ?_
   refine tq 14 7 _ ?_
   refine tq 15 8 _ ?_
   (try simp only [Act.put, qI, qO, qU])
   refine wpAnyH_done (by kernel_rfl) ?_ _
   refine NoPanic.normal ?_
   clear hDr hld
   go_wp2_with fail
   go_ret3
   exact ⟨none, 0, rfl, (((H9.pick 4 rfl).tail.pick 4 rfl).tail).ownNil (numE .i64) 3⟩
  rw [show dropO d nn = (d, [], true, 0) by unfold dropO; rw [hn7, if_neg hc]]
  clear hn7 hdr hP7
  by_cases hc1 : 0 < N7
  ·have hc2 : ¬ 0 ≤ nn := fun h => hc ⟨hc1, h⟩
   clear hc
   go_enter Tryz.func20, Tryz.ntmps20
   go_upto_region 14 with fail
   generalize w.alloc (.cells #[.int .i64 7, .int .i64 root, .int .i64 page, .int .i64 kind, .bool user, .int .i64 g, .int .i64 i, .int .u64 v, .int .i64 nn] 61) = w1 at *
   generalize w.heap.size = ob at *
   have c_ := wdC_cells (H1.pick 1 rfl).blk
   go_wp2_with fail
   refine (cA H1).mono ?_; rintro e w3 ⟨A7, c7, rfl, HX⟩
   clear cA H1 c_
   have H3 := ((((((HX.pick 0 rfl).pick 5 rfl).pick 5 rfl).pick 5 rfl).pick 5 rfl).pick 5 rfl)
   clear HX
   have o8_ := (H3.pick 4 rfl).blk.cell 8
   simp only [qA, qZ, qS] at o8_
   have H9 := H3
   clear H3
   go_wp2_with fail
   go_ret3
   exact ⟨none, 0, rfl, (((H9.pick 4 rfl).tail.pick 4 rfl).tail).ownNil (numE .i64) 3⟩
  obtain rfl : N7 = 0 := by omega
  clear hc hc1
  go_enter Tryz.func20, Tryz.ntmps20
  go_upto_region 14 with fail
  generalize w.alloc (.cells #[.int .i64 7, .int .i64 root, .int .i64 page, .int .i64 kind, .bool user, .int .i64 g, .int .i64 i, .int .u64 v, .int .i64 nn] 61) = w1 at *
  generalize w.heap.size = ob at *
  have c_ := wdC_cells (H1.pick 1 rfl).blk
  go_wp2_with fail
  refine (cA H1).mono ?_; rintro e w3 ⟨A7, c7, rfl, HX⟩
  clear cA H1 c_
  have H3 := ((((((HX.pick 0 rfl).pick 5 rfl).pick 5 rfl).pick 5 rfl).pick 5 rfl).pick 5 rfl)
  clear HX
  have o8_ := (H3.pick 4 rfl).blk.cell 8
  simp only [qA, qZ, qS] at o8_
  have H9 := H3
  clear H3
  go_wp2_with fail
  go_ret3
  exact ⟨none, 0, rfl, (((H9.pick 4 rfl).tail.pick 4 rfl).tail).ownNil (numE .i64) 3⟩
 have n7 := c_
 have b7 : (wh == 7) = false := by simpa using c_
 clear c_
 by_cases c_ : wh = 8
 ·subst c_
  have H1 := ((((((H.alloc #[.int .i64 8, .int .i64 root, .int .i64 page, .int .i64 kind, .bool user, .int .i64 g, .int .i64 i, .int .u64 v, .int .i64 nn] 61).pick 0 rfl).pick 4 rfl).pick 4 rfl).pick 4 rfl).pick 4 rfl)
  clear H
  have hC := fun {z : World} {l' : List Th} (H' : SepC w0 z (gdT dd gq mp q hp hb t 40 4 8 8 gl16 (d) :: l')) => H'.kWord g i
  simp
  go_enter Tryz.func20, Tryz.ntmps20
  go_upto_region 18 with fail
  generalize w.alloc (.cells #[.int .i64 8, .int .i64 root, .int .i64 page, .int .i64 kind, .bool user, .int .i64 g, .int .i64 i, .int .u64 v, .int .i64 nn] 61) = w1 at *
  generalize w.heap.size = ob at *
  have HH := H1.new (Chg.refl [] w1).drew
  clear H1
  refine wp_region_noPanic ?_
  refine wp_region_held_drew (S := (fun w' => Blk w' wb 51 (wdC hp gq q t dd) ∧ Blk w' ob 61 #[.int .i64 8, .int .i64 root, .int .i64 page, .int .i64 kind, .bool user, .int .i64 g, .int .i64 i, .int .u64 v, .int .i64 nn])) (by kernel_rfl) ?_ (fun hHeld => ?_)
  ·exact ⟨(HH.pick 1 rfl).blk, (HH.pick 4 rfl).blk⟩
  refine tq 0 112 _ ?_
  (try simp only [Act.put, qI, qO, qU])
  refine tq 1 113 _ ?_
  refine tq 2 114 _ ?_
  (refine tk 3 115 ?_ ?_ ?_; rotate_left; · (intro w hSw; (try dsimp only at hSw); have c_ := wdC_cells hSw.1; go_simp; (try with_reducible rfl)))
  refine tq 4 116 _ ?_
  (try simp only [Act.put, qI, qO, qU])
  (refine tk 5 117 ?_ ?_ ?_; rotate_left; · (intro w hSw; (try dsimp only at hSw); have o_ := hSw.2.cell 5; simp only [qA, qZ, qS] at o_; go_simp; (try with_reducible rfl)))
  refine tq 6 118 _ ?_
  (refine tk 7 119 ?_ ?_ ?_; rotate_left; · (intro w hSw; (try dsimp only at hSw); have o_ := hSw.2.cell 6; simp only [qA, qZ, qS] at o_; go_simp; (try with_reducible rfl)))
  (try simp only [Act.put, qI, qO, qU])
  refine rdy 8 fun K hK => ?_
  go_simp
  (go_at_call 66; refine (hC HH).mono ?_; rintro e u1 ⟨rfl, H9⟩; clear HH; have HH := H9)
  refine hK.out _ _ (by (try dsimp only); exact ⟨(HH.pick 1 rfl).blk, (HH.pick 4 rfl).blk⟩) (fun hHeld => ?_)
  clear hK K
  (try simp only [Act.put, qI, qO, qU])
  refine wpAnyH_done (by kernel_rfl) ?_ _
  refine NoPanic.normal ?_
  clear hC
  go_wp2_with fail
  go_ret3
  exact ⟨none, 0, rfl, ((H9.pick 4 rfl).tail).ownNil (numE .i64) 3⟩
 have n8 := c_
 have b8 : (wh == 8) = false := by simpa using c_
 clear c_
 by_cases c_ : wh = 9
 ·subst c_
  have H1 := ((((((H.alloc #[.int .i64 9, .int .i64 root, .int .i64 page, .int .i64 kind, .bool user, .int .i64 g, .int .i64 i, .int .u64 v, .int .i64 nn] 61).pick 0 rfl).pick 4 rfl).pick 4 rfl).pick 4 rfl).pick 4 rfl)
  clear H
  have hC := fun {z : World} {l' : List Th} (H' : SepC w0 z (gdT dd gq mp q hp hb t 40 4 8 8 gl16 (d) :: l')) => H'.kLook g
  simp
  go_enter Tryz.func20, Tryz.ntmps20
  go_upto_region 20 with fail
  generalize w.alloc (.cells #[.int .i64 9, .int .i64 root, .int .i64 page, .int .i64 kind, .bool user, .int .i64 g, .int .i64 i, .int .u64 v, .int .i64 nn] 61) = w1 at *
  generalize w.heap.size = ob at *
  have HH := H1.new (Chg.refl [] w1).drew
  clear H1
  refine wp_region_noPanic ?_
  refine wp_region_held_drew (S := (fun w' => Blk w' wb 51 (wdC hp gq q t dd) ∧ Blk w' ob 61 #[.int .i64 9, .int .i64 root, .int .i64 page, .int .i64 kind, .bool user, .int .i64 g, .int .i64 i, .int .u64 v, .int .i64 nn])) (by kernel_rfl) ?_ (fun hHeld => ?_)
  ·exact ⟨(HH.pick 1 rfl).blk, (HH.pick 4 rfl).blk⟩
  refine tq 0 123 _ ?_
  refine tq 1 124 _ ?_
  (try simp only [Act.put, qI, qO, qU])
  refine tq 2 125 _ ?_
  (refine tk 3 126 ?_ ?_ ?_; rotate_left; · (intro w hSw; (try dsimp only at hSw); have c_ := wdC_cells hSw.1; go_simp; (try with_reducible rfl)))
  refine tq 4 127 _ ?_
  (refine tk 5 128 ?_ ?_ ?_; rotate_left; · (intro w hSw; (try dsimp only at hSw); have o_ := hSw.2.cell 5; simp only [qA, qZ, qS] at o_; go_simp; (try with_reducible rfl)))
  (try simp only [Act.put, qI, qO, qU])
  refine rdy 6 fun K hK => ?_
  go_simp
  (go_at_call 67; refine (hC HH).mono ?_; rintro e u1 ⟨rfl, H9⟩; clear HH; have HH := H9)
  refine hK.out _ _ (by (try dsimp only); exact ⟨(HH.pick 1 rfl).blk, (HH.pick 4 rfl).blk⟩) (fun hHeld => ?_)
  clear hK K
  (try simp only [Act.put, qI, qO, qU])
  refine tq 7 6 _ ?_
  (try simp only [Act.put, qI, qO, qU])
  refine tq 8 7 _ ?_
  refine tq 9 8 _ ?_
  (try simp only [Act.put, qI, qO, qU])
  refine wpAnyH_done (by kernel_rfl) ?_ _
  refine NoPanic.normal ?_
  clear hC
  go_wp2_with fail
  go_ret3
  exact ⟨none, 0, rfl, ((H9.pick 4 rfl).tail).ownNil (numE .i64) 3⟩
 have n9 := c_
 have b9 : (wh == 9) = false := by simpa using c_
 clear c_
 simp only [n4, n5, n6, n7, n8, n9, if_false]
 clear n4 n5 n6 n7 n8 n9
 obtain ⟨P, how, code, hwk⟩ := walkO_split d root page kind user
 have hgot := fun (h : how = 0) => walk_got (d := d) (root := root) (page := page) (kind := kind) (user := user) (P := P) (c := code) (by rw [hwk, h])
 have hW := fun {z : World} {l' : List Th} (H' : SepC w0 z (gdT dd gq mp q hp hb t 40 4 8 8 gl16 (d) :: l')) (hE' : ErrIn z) => H'.gWalk hE' root page kind user hwk
 unfold pathV at hW
 have hfo : fillO d root page kind user = if how = 0 then ((fillG 40 gl16 d root page P (decide (kind = 1))).1, (fillG 40 gl16 d root page P (decide (kind = 1))).2.1, (fillG 40 gl16 d root page P (decide (kind = 1))).2.2, 0) else (d, [], false, how) := by unfold fillO; rw [hwk]
 rw [hfo]
 clear hfo hwk
 have H1 := ((((((H.alloc #[.int .i64 wh, .int .i64 root, .int .i64 page, .int .i64 kind, .bool user, .int .i64 g, .int .i64 i, .int .u64 v, .int .i64 nn] 61).pick 0 rfl).pick 4 rfl).pick 4 rfl).pick 4 rfl).pick 4 rfl)
 clear H
 have hE1 := hE.new ((Chg.refl [] w).alloc (.cells #[.int .i64 wh, .int .i64 root, .int .i64 page, .int .i64 kind, .bool user, .int .i64 g, .int .i64 i, .int .u64 v, .int .i64 nn] 61))
 by_cases hh : how = 0
 ·subst hh
  simp only [if_true]
  have hats := (hgot rfl).2.2.2.1
  clear hgot
  have hFl := fun {z : World} {l' : List Th} {A9 : Option Addr} {c9 : Nat} (H' : SepC w0 z (blkT fq 202 (flC gq mq q dd) :: gdT dd gq mp q hp hb t 40 4 8 8 gl16 (d) :: mapT mq gl16 :: l')) (hA' : SlA z A9 P.ats.length P.ats) => H'.flFill (root := root) (page := page) (cA := c9) (written := decide (kind = 1)) hA' hats hd (by omega)
  have hrm := fill_room hd (by omega) root page P (decide (kind = 1))
  rw [hrm]
  clear hrm hats
  unfold pathV at hFl
  generalize fillG 40 gl16 d root page P (decide (kind = 1)) = R9 at *
  obtain ⟨R9d, R9a, R9b⟩ := R9
  simp only at hFl ⊢
  obtain ⟨kb_, hkb⟩ : ∃ kb_, decide (kind = 1) = kb_ := ⟨_, rfl⟩
  rw [hkb] at hFl
  have hkb2 : (kind == 1) = kb_ := by rw [← hkb]; rfl
  clear hkb
  go_enter Tryz.func20, Tryz.ntmps20
  go_upto_region 2 with fail
  generalize w.alloc (.cells #[.int .i64 wh, .int .i64 root, .int .i64 page, .int .i64 kind, .bool user, .int .i64 g, .int .i64 i, .int .u64 v, .int .i64 nn] 61) = w1 at *
  generalize w.heap.size = ob at *
  go_cut [10, 11, 12] from 18 to 33 (fun pv_ hv_ cv_ wx => ∃ (sb : Nat) (A9 : Option Addr) (c9 : Nat), pv_ = .pointer (some ⟨sb, 0, none⟩) ∧ hv_ = .int .i64 0 ∧ cv_ = .int .i64 code ∧ SepC w0 wx (blkT sb 76 #[.slice A9 P.ats.length c9, .int .i64 P.g, .bool P.r.w, .bool P.r.u, .bool P.r.x, .bool P.large, .bool P.dirty] :: ownT atE 104 (.slice A9 P.ats.length c9) P.ats :: gdT dd gq mp q hp hb t 40 4 8 8 gl16 (d) :: blkT wb 51 (wdC hp gq q t dd) :: blkT fq 202 (flC gq mq q dd) :: mapT mq gl16 :: blkT ob 61 #[.int .i64 wh, .int .i64 root, .int .i64 page, .int .i64 kind, .bool user, .int .i64 g, .int .i64 i, .int .u64 v, .int .i64 nn] :: l))
  case first =>
   have H := H1.new (Chg.refl [] w1).drew
   have HH := H
   refine wp_region_noPanic ?_
   refine wp_region_held_drew (S := (fun w' => Chg [] w1 w')) (by kernel_rfl) ?_ (fun hHeld => ?_)
   ·exact (Chg.refl [] w1).drew
   refine tq 0 18 _ ?_
   refine tq 1 19 _ ?_
   refine tq 2 20 _ ?_
   (try simp only [Act.put, qI, qO, qU])
   (refine tk 3 21 ?_ ?_ ?_; rotate_left; · (intro w hSw; (try dsimp only at hSw); have c_ := wdC_cells (((H1.new hSw).pick 1 rfl).blk); go_simp; (try with_reducible rfl)))
   refine tq 4 22 _ ?_
   (refine tk 5 23 ?_ ?_ ?_; rotate_left; · (intro w hSw; (try dsimp only at hSw); have o_ := (((H1.new hSw).pick 4 rfl).blk).cell 1; simp only [qA, qZ, qS] at o_; go_simp; (try with_reducible rfl)))
   refine tq 6 24 _ ?_
   (try simp only [Act.put, qI, qO, qU])
   (refine tk 7 25 ?_ ?_ ?_; rotate_left; · (intro w hSw; (try dsimp only at hSw); have o_ := (((H1.new hSw).pick 4 rfl).blk).cell 2; simp only [qA, qZ, qS] at o_; go_simp; (try with_reducible rfl)))
   refine tq 8 26 _ ?_
   (refine tk 9 27 ?_ ?_ ?_; rotate_left; · (intro w hSw; (try dsimp only at hSw); have o_ := (((H1.new hSw).pick 4 rfl).blk).cell 3; simp only [qA, qZ, qS] at o_; go_simp; (try with_reducible rfl)))
   refine tq 10 28 _ ?_
   (try simp only [Act.put, qI, qO, qU])
   (refine tk 11 29 ?_ ?_ ?_; rotate_left; · (intro w hSw; (try dsimp only at hSw); have o_ := (((H1.new hSw).pick 4 rfl).blk).cell 4; simp only [qA, qZ, qS] at o_; go_simp; (try with_reducible rfl)))
   (try simp only [Act.put, qI, qO, qU])
   refine wpAnyH_ready (rs := [12, 17]) (by kernel_rfl) (by simp) ?_; refine AllReadyH.cons (o := _) rfl (fun K_ hK => ?_) (AllReadyH.cons (o := _) rfl (fun K_ hK => ?_) AllReadyH.nil)
   ·go_simp
    (go_at_call 35; refine (hW HH (hE1.new hHeld)).mono ?_; rintro e u1 ⟨A9, c9, rfl, y1, ho9, hl9⟩)
    refine hK.out _ _ (by (try dsimp only); exact hHeld.trans y1 (by simp)) (fun hHeld => ?_)
    clear hK K_
    (try simp only [Act.put, qI, qO, qU])
    replace HH := HH.lay (P := ownT atE 104 (.slice A9 P.ats.length c9) P.ats) y1 ⟨rfl, ho9⟩ hl9
    clear y1 ho9 hl9
    have hsb : w1.heap.size ≤ u1.heap.size := hHeld.size
    refine tq 13 17 _ ?_
    refine tq 14 31 _ ?_
    refine tq 15 32 _ ?_
    refine tq 16 33 _ ?_
    (try simp only [Act.put, qI, qO, qU])
    refine rdy 17 fun K_ hK => ?_
    go_simp
    refine hK.out _ _ (by (try dsimp only); exact hHeld.alloc _) (fun hHeld => ?_)
    clear hK K_
    (try simp only [Act.put, qI, qO, qU])
    replace HH := HH.alloc #[.slice none 0 0, .int .i64 0, .bool false, .bool false, .bool false, .bool false, .bool false] 76
    generalize u1.alloc (.cells #[.slice none 0 0, .int .i64 0, .bool false, .bool false, .bool false, .bool false, .bool false] 76) = u2 at *
    generalize u1.heap.size = sb at *
    have e0_ := HH.blk.cell 0; have f0_ := HH.blk.frozen 0
    have e1_ := HH.blk.cell 1; have f1_ := HH.blk.frozen 1
    have e2_ := HH.blk.cell 2; have f2_ := HH.blk.frozen 2
    have e3_ := HH.blk.cell 3; have f3_ := HH.blk.frozen 3
    have e4_ := HH.blk.cell 4; have f4_ := HH.blk.frozen 4
    have e5_ := HH.blk.cell 5; have f5_ := HH.blk.frozen 5
    have e6_ := HH.blk.cell 6; have f6_ := HH.blk.frozen 6
    simp only [qA, qZ, qS] at e0_ e1_ e2_ e3_ e4_ e5_ e6_
    have HH3 := (((((((HH).cellSet 0 (.slice A9 P.ats.length c9)).cellSet 1 (.int .i64 P.g)).cellSet 2 (.bool P.r.w)).cellSet 3 (.bool P.r.u)).cellSet 4 (.bool P.r.x)).cellSet 5 (.bool P.large)).cellSet 6 (.bool P.dirty)
    simp only [qI, qO, qU] at HH3
    have hY : Chg [sb] u2 (((((((u2.setCell ⟨sb, 0, none⟩ (.slice A9 P.ats.length c9)).setCell ⟨sb, 1, none⟩ (.int .i64 P.g)).setCell ⟨sb, 2, none⟩ (.bool P.r.w)).setCell ⟨sb, 3, none⟩ (.bool P.r.u)).setCell ⟨sb, 4, none⟩ (.bool P.r.x)).setCell ⟨sb, 5, none⟩ (.bool P.large)).setCell ⟨sb, 6, none⟩ (.bool P.dirty)) := ((((((((Chg.refl [sb] u2).setCell (p := ⟨sb, 0, none⟩) (by simp) _).setCell (p := ⟨sb, 1, none⟩) (by simp) _).setCell (p := ⟨sb, 2, none⟩) (by simp) _).setCell (p := ⟨sb, 3, none⟩) (by simp) _).setCell (p := ⟨sb, 4, none⟩) (by simp) _).setCell (p := ⟨sb, 5, none⟩) (by simp) _).setCell (p := ⟨sb, 6, none⟩) (by simp) _)
    refine rdy 18 fun K_ hK => ?_
    go_simp
    refine hK.out _ _ (by (try dsimp only); exact hHeld.trans hY (fun i hi hm => by simp at hm; omega)) (fun hHeld => ?_)
    clear hK K_
    (try simp only [Act.put, qI, qO, qU])
    clear e0_ f0_ e1_ f1_ e2_ f2_ e3_ f3_ e4_ f4_ e5_ f5_ e6_ f6_ hY HH hsb
    generalize (((((((u2.setCell ⟨sb, 0, none⟩ (.slice A9 P.ats.length c9)).setCell ⟨sb, 1, none⟩ (.int .i64 P.g)).setCell ⟨sb, 2, none⟩ (.bool P.r.w)).setCell ⟨sb, 3, none⟩ (.bool P.r.u)).setCell ⟨sb, 4, none⟩ (.bool P.r.x)).setCell ⟨sb, 5, none⟩ (.bool P.large)).setCell ⟨sb, 6, none⟩ (.bool P.dirty)) = u3 at *
    refine tq 19 11 _ ?_
    (try simp only [Act.put, qI, qO, qU])
    refine tq 20 12 _ ?_
    (try simp only [Act.put, qI, qO, qU])
    refine wpAnyH_done (by kernel_rfl) ?_ _
    refine NoPanic.normal ?_
    clear hHeld
    go_wp2_with fail
    go_meet
    exact ⟨sb, A9, c9, rfl, rfl, rfl, HH3⟩
   go_simp
   refine hK.out _ _ (by (try dsimp only); exact ((Chg.refl [] w1).alloc _).drew) (fun hHeld => ?_)
   clear hK K_
   (try simp only [Act.put, qI, qO, qU])
   replace HH := (H1.alloc #[.slice none 0 0, .int .i64 0, .bool false, .bool false, .bool false, .bool false, .bool false] 76).new (Chg.refl [] _).drew
   have hsb : w1.heap.size ≤ w1.heap.size := Nat.le_refl _
   generalize (w1.alloc (.cells #[.slice none 0 0, .int .i64 0, .bool false, .bool false, .bool false, .bool false, .bool false] 76)).drew = u0 at *
   generalize hsb_ : w1.heap.size = sb at hsb HH ⊢
   clear hsb
   have hsb : w1.heap.size ≤ sb := by omega
   refine rdy 12 fun K_ hK => ?_
   go_simp
   (go_at_call 35; refine (hW HH.tail (hE1.new hHeld)).mono ?_; rintro e u1 ⟨A9, c9, rfl, y1, ho9, hl9⟩)
   refine hK.out _ _ (by (try dsimp only); exact hHeld.trans y1 (by simp)) (fun hHeld => ?_)
   clear hK K_
   (try simp only [Act.put, qI, qO, qU])
   replace HH := (HH.lay (P := ownT atE 104 (.slice A9 P.ats.length c9) P.ats) y1 ⟨rfl, ho9⟩ hl9).swap
   clear y1 ho9 hl9 hsb_
   refine tq 13 17 _ ?_
   refine tq 14 31 _ ?_
   refine tq 15 32 _ ?_
   refine tq 16 33 _ ?_
   (try simp only [Act.put, qI, qO, qU])
   have e0_ := HH.blk.cell 0; have f0_ := HH.blk.frozen 0
   have e1_ := HH.blk.cell 1; have f1_ := HH.blk.frozen 1
   have e2_ := HH.blk.cell 2; have f2_ := HH.blk.frozen 2
   have e3_ := HH.blk.cell 3; have f3_ := HH.blk.frozen 3
   have e4_ := HH.blk.cell 4; have f4_ := HH.blk.frozen 4
   have e5_ := HH.blk.cell 5; have f5_ := HH.blk.frozen 5
   have e6_ := HH.blk.cell 6; have f6_ := HH.blk.frozen 6
   simp only [qA, qZ, qS] at e0_ e1_ e2_ e3_ e4_ e5_ e6_
   have HH3 := (((((((HH).cellSet 0 (.slice A9 P.ats.length c9)).cellSet 1 (.int .i64 P.g)).cellSet 2 (.bool P.r.w)).cellSet 3 (.bool P.r.u)).cellSet 4 (.bool P.r.x)).cellSet 5 (.bool P.large)).cellSet 6 (.bool P.dirty)
   simp only [qI, qO, qU] at HH3
   have hY : Chg [sb] u1 (((((((u1.setCell ⟨sb, 0, none⟩ (.slice A9 P.ats.length c9)).setCell ⟨sb, 1, none⟩ (.int .i64 P.g)).setCell ⟨sb, 2, none⟩ (.bool P.r.w)).setCell ⟨sb, 3, none⟩ (.bool P.r.u)).setCell ⟨sb, 4, none⟩ (.bool P.r.x)).setCell ⟨sb, 5, none⟩ (.bool P.large)).setCell ⟨sb, 6, none⟩ (.bool P.dirty)) := ((((((((Chg.refl [sb] u1).setCell (p := ⟨sb, 0, none⟩) (by simp) _).setCell (p := ⟨sb, 1, none⟩) (by simp) _).setCell (p := ⟨sb, 2, none⟩) (by simp) _).setCell (p := ⟨sb, 3, none⟩) (by simp) _).setCell (p := ⟨sb, 4, none⟩) (by simp) _).setCell (p := ⟨sb, 5, none⟩) (by simp) _).setCell (p := ⟨sb, 6, none⟩) (by simp) _)
   refine rdy 18 fun K_ hK => ?_
   go_simp
   refine hK.out _ _ (by (try dsimp only); exact hHeld.trans hY (fun i hi hm => by simp at hm; omega)) (fun hHeld => ?_)
   clear hK K_
   (try simp only [Act.put, qI, qO, qU])
   clear e0_ f0_ e1_ f1_ e2_ f2_ e3_ f3_ e4_ f4_ e5_ f5_ e6_ f6_ hY HH hsb
   generalize (((((((u1.setCell ⟨sb, 0, none⟩ (.slice A9 P.ats.length c9)).setCell ⟨sb, 1, none⟩ (.int .i64 P.g)).setCell ⟨sb, 2, none⟩ (.bool P.r.w)).setCell ⟨sb, 3, none⟩ (.bool P.r.u)).setCell ⟨sb, 4, none⟩ (.bool P.r.x)).setCell ⟨sb, 5, none⟩ (.bool P.large)).setCell ⟨sb, 6, none⟩ (.bool P.dirty)) = u3 at *
   refine tq 19 11 _ ?_
   (try simp only [Act.put, qI, qO, qU])
   refine tq 20 12 _ ?_
   (try simp only [Act.put, qI, qO, qU])
   refine wpAnyH_done (by kernel_rfl) ?_ _
   refine NoPanic.normal ?_
   clear hHeld
   go_wp2_with fail
   go_meet
   exact ⟨sb, A9, c9, rfl, rfl, rfl, HH3⟩
  obtain ⟨sb, A9, c9, rfl, rfl, rfl, H3⟩ := hcut
  clear H1 hW hE hE1
  have hsl := (ownA_G.2 (H3.pick 1 rfl).own).sla
  have H4 := (((((((H3.pick 1 rfl).pick 1 rfl).pick 6 rfl).pick 4 rfl).pick 6 rfl).pick 5 rfl).pick 6 rfl)
  have s_ := H3.blk.cell 0; have s1_ := H3.blk.cell 1; have s2_ := H3.blk.cell 2; have s3_ := H3.blk.cell 3; have s4_ := H3.blk.cell 4; have s5_ := H3.blk.cell 5; have s6_ := H3.blk.cell 6
  simp only [qA, qZ, qS] at s_ s1_ s2_ s3_ s4_ s5_ s6_
  have oo_ := (H3.pick 6 rfl).blk
  have o1_ := oo_.cell 1; have o2_ := oo_.cell 2; have o3_ := oo_.cell 3
  simp only [qA, qZ, qS] at o1_ o2_ o3_
  clear H3 oo_
  go_wp2_with fail
  refine (hFl H4 hsl).mono ?_; rintro e w9 ⟨A2, c2, rfl, H9⟩
  clear hFl H4 hsl s_ s1_ s2_ s3_ s4_ s5_ s6_ o1_ o2_ o3_
  go_wp2_with fail
  go_ret3
  exact ⟨A2, c2, rfl, (((((((((((H9.pick 7 rfl).pick 7 rfl).pick 7 rfl).pick 6 rfl).pick 5 rfl).pick 7 rfl).pick 7 rfl).pick 7 rfl).pick 5 rfl).tail.pick 5 rfl).tail.pick 5 rfl).tail⟩
 simp only [if_neg hh]
 have hhb : (how != 0) = true := by simpa using hh
 replace hh := Lib.hid hh
 clear hgot
 go_enter Tryz.func20, Tryz.ntmps20
 go_upto_region 2 with fail
 generalize w.alloc (.cells #[.int .i64 wh, .int .i64 root, .int .i64 page, .int .i64 kind, .bool user, .int .i64 g, .int .i64 i, .int .u64 v, .int .i64 nn] 61) = w1 at *
 generalize w.heap.size = ob at *
 go_cut [10, 11, 12] from 18 to 33 (fun pv_ hv_ cv_ wx => ∃ (sb : Nat) (A9 : Option Addr) (c9 : Nat), pv_ = .pointer (some ⟨sb, 0, none⟩) ∧ hv_ = .int .i64 how ∧ cv_ = .int .i64 code ∧ SepC w0 wx (blkT sb 76 #[.slice A9 P.ats.length c9, .int .i64 P.g, .bool P.r.w, .bool P.r.u, .bool P.r.x, .bool P.large, .bool P.dirty] :: ownT atE 104 (.slice A9 P.ats.length c9) P.ats :: gdT dd gq mp q hp hb t 40 4 8 8 gl16 (d) :: blkT wb 51 (wdC hp gq q t dd) :: blkT fq 202 (flC gq mq q dd) :: mapT mq gl16 :: blkT ob 61 #[.int .i64 wh, .int .i64 root, .int .i64 page, .int .i64 kind, .bool user, .int .i64 g, .int .i64 i, .int .u64 v, .int .i64 nn] :: l))
 case first =>
  have H := H1.new (Chg.refl [] w1).drew
  have HH := H
  refine wp_region_noPanic ?_
  refine wp_region_held_drew (S := (fun w' => Chg [] w1 w')) (by kernel_rfl) ?_ (fun hHeld => ?_)
  ·exact (Chg.refl [] w1).drew
  refine tq 0 18 _ ?_
  refine tq 1 19 _ ?_
  refine tq 2 20 _ ?_
  (refine tk 3 21 ?_ ?_ ?_; rotate_left; · (intro w hSw; (try dsimp only at hSw); have c_ := wdC_cells (((H1.new hSw).pick 1 rfl).blk); go_simp; (try with_reducible rfl)))
  (try simp only [Act.put, qI, qO, qU])
  refine tq 4 22 _ ?_
  (refine tk 5 23 ?_ ?_ ?_; rotate_left; · (intro w hSw; (try dsimp only at hSw); have o_ := (((H1.new hSw).pick 4 rfl).blk).cell 1; simp only [qA, qZ, qS] at o_; go_simp; (try with_reducible rfl)))
  refine tq 6 24 _ ?_
  (refine tk 7 25 ?_ ?_ ?_; rotate_left; · (intro w hSw; (try dsimp only at hSw); have o_ := (((H1.new hSw).pick 4 rfl).blk).cell 2; simp only [qA, qZ, qS] at o_; go_simp; (try with_reducible rfl)))
  (try simp only [Act.put, qI, qO, qU])
  refine tq 8 26 _ ?_
  (refine tk 9 27 ?_ ?_ ?_; rotate_left; · (intro w hSw; (try dsimp only at hSw); have o_ := (((H1.new hSw).pick 4 rfl).blk).cell 3; simp only [qA, qZ, qS] at o_; go_simp; (try with_reducible rfl)))
  refine tq 10 28 _ ?_
  (refine tk 11 29 ?_ ?_ ?_; rotate_left; · (intro w hSw; (try dsimp only at hSw); have o_ := (((H1.new hSw).pick 4 rfl).blk).cell 4; simp only [qA, qZ, qS] at o_; go_simp; (try with_reducible rfl)))
  (try simp only [Act.put, qI, qO, qU])
  refine wpAnyH_ready (rs := [12, 17]) (by kernel_rfl) (by simp) ?_; refine AllReadyH.cons (o := _) rfl (fun K_ hK => ?_) (AllReadyH.cons (o := _) rfl (fun K_ hK => ?_) AllReadyH.nil)
  ·go_simp
   (go_at_call 35; refine (hW HH (hE1.new hHeld)).mono ?_; rintro e u1 ⟨A9, c9, rfl, y1, ho9, hl9⟩)
   refine hK.out _ _ (by (try dsimp only); exact hHeld.trans y1 (by simp)) (fun hHeld => ?_)
   clear hK K_
   (try simp only [Act.put, qI, qO, qU])
   replace HH := HH.lay (P := ownT atE 104 (.slice A9 P.ats.length c9) P.ats) y1 ⟨rfl, ho9⟩ hl9
   clear y1 ho9 hl9
   have hsb : w1.heap.size ≤ u1.heap.size := hHeld.size
   refine tq 13 17 _ ?_
   (try simp only [Act.put, qI, qO, qU])
   refine tq 14 31 _ ?_
   refine tq 15 32 _ ?_
   refine tq 16 33 _ ?_
   (try simp only [Act.put, qI, qO, qU])
   refine rdy 17 fun K_ hK => ?_
   go_simp
   refine hK.out _ _ (by (try dsimp only); exact hHeld.alloc _) (fun hHeld => ?_)
   clear hK K_
   (try simp only [Act.put, qI, qO, qU])
   replace HH := HH.alloc #[.slice none 0 0, .int .i64 0, .bool false, .bool false, .bool false, .bool false, .bool false] 76
   generalize u1.alloc (.cells #[.slice none 0 0, .int .i64 0, .bool false, .bool false, .bool false, .bool false, .bool false] 76) = u2 at *
   generalize u1.heap.size = sb at *
   have e0_ := HH.blk.cell 0; have f0_ := HH.blk.frozen 0
   have e1_ := HH.blk.cell 1; have f1_ := HH.blk.frozen 1
   have e2_ := HH.blk.cell 2; have f2_ := HH.blk.frozen 2
   have e3_ := HH.blk.cell 3; have f3_ := HH.blk.frozen 3
   have e4_ := HH.blk.cell 4; have f4_ := HH.blk.frozen 4
   have e5_ := HH.blk.cell 5; have f5_ := HH.blk.frozen 5
   have e6_ := HH.blk.cell 6; have f6_ := HH.blk.frozen 6
   simp only [qA, qZ, qS] at e0_ e1_ e2_ e3_ e4_ e5_ e6_
   have HH3 := (((((((HH).cellSet 0 (.slice A9 P.ats.length c9)).cellSet 1 (.int .i64 P.g)).cellSet 2 (.bool P.r.w)).cellSet 3 (.bool P.r.u)).cellSet 4 (.bool P.r.x)).cellSet 5 (.bool P.large)).cellSet 6 (.bool P.dirty)
   simp only [qI, qO, qU] at HH3
   have hY : Chg [sb] u2 (((((((u2.setCell ⟨sb, 0, none⟩ (.slice A9 P.ats.length c9)).setCell ⟨sb, 1, none⟩ (.int .i64 P.g)).setCell ⟨sb, 2, none⟩ (.bool P.r.w)).setCell ⟨sb, 3, none⟩ (.bool P.r.u)).setCell ⟨sb, 4, none⟩ (.bool P.r.x)).setCell ⟨sb, 5, none⟩ (.bool P.large)).setCell ⟨sb, 6, none⟩ (.bool P.dirty)) := ((((((((Chg.refl [sb] u2).setCell (p := ⟨sb, 0, none⟩) (by simp) _).setCell (p := ⟨sb, 1, none⟩) (by simp) _).setCell (p := ⟨sb, 2, none⟩) (by simp) _).setCell (p := ⟨sb, 3, none⟩) (by simp) _).setCell (p := ⟨sb, 4, none⟩) (by simp) _).setCell (p := ⟨sb, 5, none⟩) (by simp) _).setCell (p := ⟨sb, 6, none⟩) (by simp) _)
   refine rdy 18 fun K_ hK => ?_
   go_simp
   refine hK.out _ _ (by (try dsimp only); exact hHeld.trans hY (fun i hi hm => by simp at hm; omega)) (fun hHeld => ?_)
   clear hK K_
   (try simp only [Act.put, qI, qO, qU])
   clear e0_ f0_ e1_ f1_ e2_ f2_ e3_ f3_ e4_ f4_ e5_ f5_ e6_ f6_ hY HH hsb
   generalize (((((((u2.setCell ⟨sb, 0, none⟩ (.slice A9 P.ats.length c9)).setCell ⟨sb, 1, none⟩ (.int .i64 P.g)).setCell ⟨sb, 2, none⟩ (.bool P.r.w)).setCell ⟨sb, 3, none⟩ (.bool P.r.u)).setCell ⟨sb, 4, none⟩ (.bool P.r.x)).setCell ⟨sb, 5, none⟩ (.bool P.large)).setCell ⟨sb, 6, none⟩ (.bool P.dirty)) = u3 at *
   refine tq 19 11 _ ?_
   refine tq 20 12 _ ?_
   (try simp only [Act.put, qI, qO, qU])
   refine wpAnyH_done (by kernel_rfl) ?_ _
   refine NoPanic.normal ?_
   clear hHeld
   go_wp2_with fail
   go_meet
   exact ⟨sb, A9, c9, rfl, rfl, rfl, HH3⟩
  go_simp
  refine hK.out _ _ (by (try dsimp only); exact ((Chg.refl [] w1).alloc _).drew) (fun hHeld => ?_)
  clear hK K_
  (try simp only [Act.put, qI, qO, qU])
  replace HH := (H1.alloc #[.slice none 0 0, .int .i64 0, .bool false, .bool false, .bool false, .bool false, .bool false] 76).new (Chg.refl [] _).drew
  have hsb : w1.heap.size ≤ w1.heap.size := Nat.le_refl _
  generalize (w1.alloc (.cells #[.slice none 0 0, .int .i64 0, .bool false, .bool false, .bool false, .bool false, .bool false] 76)).drew = u0 at *
  generalize hsb_ : w1.heap.size = sb at hsb HH ⊢
  clear hsb
  have hsb : w1.heap.size ≤ sb := by omega
  refine rdy 12 fun K_ hK => ?_
  go_simp
  (go_at_call 35; refine (hW HH.tail (hE1.new hHeld)).mono ?_; rintro e u1 ⟨A9, c9, rfl, y1, ho9, hl9⟩)
  refine hK.out _ _ (by (try dsimp only); exact hHeld.trans y1 (by simp)) (fun hHeld => ?_)
  clear hK K_
  (try simp only [Act.put, qI, qO, qU])
  replace HH := (HH.lay (P := ownT atE 104 (.slice A9 P.ats.length c9) P.ats) y1 ⟨rfl, ho9⟩ hl9).swap
  clear y1 ho9 hl9 hsb_
  refine tq 13 17 _ ?_
  (try simp only [Act.put, qI, qO, qU])
  refine tq 14 31 _ ?_
  refine tq 15 32 _ ?_
  refine tq 16 33 _ ?_
  (try simp only [Act.put, qI, qO, qU])
  have e0_ := HH.blk.cell 0; have f0_ := HH.blk.frozen 0
  have e1_ := HH.blk.cell 1; have f1_ := HH.blk.frozen 1
  have e2_ := HH.blk.cell 2; have f2_ := HH.blk.frozen 2
  have e3_ := HH.blk.cell 3; have f3_ := HH.blk.frozen 3
  have e4_ := HH.blk.cell 4; have f4_ := HH.blk.frozen 4
  have e5_ := HH.blk.cell 5; have f5_ := HH.blk.frozen 5
  have e6_ := HH.blk.cell 6; have f6_ := HH.blk.frozen 6
  simp only [qA, qZ, qS] at e0_ e1_ e2_ e3_ e4_ e5_ e6_
  have HH3 := (((((((HH).cellSet 0 (.slice A9 P.ats.length c9)).cellSet 1 (.int .i64 P.g)).cellSet 2 (.bool P.r.w)).cellSet 3 (.bool P.r.u)).cellSet 4 (.bool P.r.x)).cellSet 5 (.bool P.large)).cellSet 6 (.bool P.dirty)
  simp only [qI, qO, qU] at HH3
  have hY : Chg [sb] u1 (((((((u1.setCell ⟨sb, 0, none⟩ (.slice A9 P.ats.length c9)).setCell ⟨sb, 1, none⟩ (.int .i64 P.g)).setCell ⟨sb, 2, none⟩ (.bool P.r.w)).setCell ⟨sb, 3, none⟩ (.bool P.r.u)).setCell ⟨sb, 4, none⟩ (.bool P.r.x)).setCell ⟨sb, 5, none⟩ (.bool P.large)).setCell ⟨sb, 6, none⟩ (.bool P.dirty)) := ((((((((Chg.refl [sb] u1).setCell (p := ⟨sb, 0, none⟩) (by simp) _).setCell (p := ⟨sb, 1, none⟩) (by simp) _).setCell (p := ⟨sb, 2, none⟩) (by simp) _).setCell (p := ⟨sb, 3, none⟩) (by simp) _).setCell (p := ⟨sb, 4, none⟩) (by simp) _).setCell (p := ⟨sb, 5, none⟩) (by simp) _).setCell (p := ⟨sb, 6, none⟩) (by simp) _)
  refine rdy 18 fun K_ hK => ?_
  go_simp
  refine hK.out _ _ (by (try dsimp only); exact hHeld.trans hY (fun i hi hm => by simp at hm; omega)) (fun hHeld => ?_)
  clear hK K_
  (try simp only [Act.put, qI, qO, qU])
  clear e0_ f0_ e1_ f1_ e2_ f2_ e3_ f3_ e4_ f4_ e5_ f5_ e6_ f6_ hY HH hsb
  generalize (((((((u1.setCell ⟨sb, 0, none⟩ (.slice A9 P.ats.length c9)).setCell ⟨sb, 1, none⟩ (.int .i64 P.g)).setCell ⟨sb, 2, none⟩ (.bool P.r.w)).setCell ⟨sb, 3, none⟩ (.bool P.r.u)).setCell ⟨sb, 4, none⟩ (.bool P.r.x)).setCell ⟨sb, 5, none⟩ (.bool P.large)).setCell ⟨sb, 6, none⟩ (.bool P.dirty)) = u3 at *
  refine tq 19 11 _ ?_
  refine tq 20 12 _ ?_
  (try simp only [Act.put, qI, qO, qU])
  refine wpAnyH_done (by kernel_rfl) ?_ _
  refine NoPanic.normal ?_
  clear hHeld
  go_wp2_with fail
  go_meet
  exact ⟨sb, A9, c9, rfl, rfl, rfl, HH3⟩
 obtain ⟨sb, A9, c9, rfl, rfl, rfl, H3⟩ := hcut
 clear H1 hW hE hE1
 go_wp2_with fail
 go_ret3
 have H9 := H3.tail.tail
 exact ⟨none, 0, rfl, ((H9.pick 4 rfl).tail).ownNil (numE .i64) 3⟩
end
end Go.Proofs.YtmbgepafpcbakaaGreatDoor
