/-
 What the laws of fill call: a walk of a guest beside other things, the guest's frames, a filler.
-/
import Derived.Test.YtmbgepafpcbakaaGreatDoorFlJK
import Derived.Test.YtmbgepafpcbakaaGreatDoorGFrK
import Derived.Test.YtmbgepafpcbakaaGreatDoorWalkFK
import Derived.Deep.CutRange
namespace Go.Proofs.YtmbgepafpcbakaaGreatDoor
open Go.RowKit Go.Maps
theorem ErrIn.new {w w' : World} (h : ErrIn w) (hc : Chg [] w w') : ErrIn w' := (hc.cell (World.block_lt_of_cell? _ _ h) (by simp)).trans h
theorem ownA_G {w : World} {v : Value} {l : List (Int × Int)} : OwnA w 104 v l ↔ OwnG atE w 104 v l := Iff.rfl
section
variable {w0 w w' : World} {xq fq mq dd gq mp q hp hb t n a m most : Nat} {L : List Int} {d : Gd} {root page : Int} {A : Option Addr} {cA : Nat} {P : Pa} {dirty : Bool} {e0 e1 e2 : Ent} {tv av : Value} {tk an : List Int} {l : List Th}
theorem SepC.gWalk (H : SepC w0 w (gdT dd gq mp q hp hb t n a m most L (d) :: l)) (hE : ErrIn w) (root page kind : Int) (user : Bool) {P : Pa} {how code : Int} (hr : walkP n d.s.W L root page kind user = (P, how, code)) :
  Calls Tryz.prog 35 #[.pointer (some ⟨gq, 0, none⟩), .int .i64 root, .int .i64 page, .int .i64 kind, .bool user] w fun e w' => ∃ A c, e = .returned (.tuple #[.agg (pathV A c P), .int .i64 how, .int .i64 code]) ∧ Chg [] w w' ∧ OwnG atE w' 104 (.slice A P.ats.length c) P.ats ∧ ∀ i ∈ (Value.slice A P.ats.length c).ownBlock.toList, w.heap.size ≤ i := by
 obtain ⟨G, v, H1⟩ := H.gO
 obtain ⟨S, hgu⟩ := H1.guIn G.ok.map
 refine (Walk_at gq S mp L hp hb n d.s.W root page kind user w hE hgu G.wd).mono fun e w' hh => ?_
 rw [hr] at hh
 obtain ⟨A, c, h1, h2, h3⟩ := hh
 exact ⟨A, c, h1, h3, own_weak h2 (Nat.zero_le _), own_low h2⟩
end
section
variable {w0 w w' : World} {dd gq mp q hp hb t wb fq mq : Nat} {d : Gd} {l : List Th}
set_option maxRecDepth 100000 in
set_option maxHeartbeats 1000000 in
theorem SepC.wList17 (H : SepC w0 w l) : Calls Tryz.prog 17 #[] w fun e w' => ∃ A c, e = .returned (.slice A 16 c) ∧ SepC w0 w' (ownT (numE .i64) 3 (.slice A 16 c) gl16 :: l) := by
 have hg : ∀ j : Nat, ((List.range (j + 1)).map fun (x : Nat) => 24 + (x : Int)) = ((List.range j).map fun (x : Nat) => 24 + (x : Int)) ++ [24 + (j : Int)] := fun j => by rw [List.range_succ, List.map_append]; rfl
 obtain ⟨K, hK0, hKe, hKs, hKl⟩ : ∃ K : Nat → List Int, K 0 = [] ∧ K 16 = gl16 ∧ (∀ j : Nat, K (j + 1) = K j ++ [24 + (j : Int)]) ∧ ∀ j, (K j).length = j := ⟨fun j => (List.range j).map fun (x : Nat) => 24 + (x : Int), rfl, rfl, hg, by simp⟩
 clear hg
 replace hK0 := Lib.hid hK0; replace hKe := Lib.hid hKe; replace hKs := Lib.hid hKs; replace hKl := Lib.hid hKl
 have H1 := H.ownNil (numE .i64) 3
 clear H
 go_enter Tryz.func17, Tryz.ntmps17
 go_wp2_with fail
 go_loopw [1, 2] (fun s1 s2 wr => ∃ (j : Nat) (A : Option Addr) (c : Nat), j ≤ 16 ∧ s1 = .slice A j c ∧ s2 = .int .i64 j ∧ SepC w0 wr (ownT (numE .i64) 3 (.slice A j c) (K j) :: l)) (fun _ s2 _ => 16 - (intOf s2).toNat)
 case atStart => exact ⟨0, none, 0, by omega, rfl, rfl, by rw [hK0.out]; exact H1⟩
 obtain ⟨j, A, c, hj, rfl, rfl, H⟩ := hrel
 clear H1
 by_cases hlt : j < 16
 ·have hltz : (j : Int) < 16 := by omega
  have hl := hKl.out j
  have hks := hKs.out j
  generalize K j = M at *
  replace hks := Lib.hid hks
  have ho := H.own
  have H2 := H.alloc #[.int .i64 (24 + (j : Int))] 3
  have ho4 := ho.new ((Chg.refl [] wr).alloc (.cells #[.int .i64 (24 + (j : Int))] 3))
  have hsrc : Src (wr.alloc (.cells #[.int .i64 (24 + (j : Int))] 3)) (numE .i64).k (some ⟨wr.heap.size, 0, none⟩) 1 1 ((numE .i64).all [24 + (j : Int)]) := (OwnG.lit (E := numE .i64) (L := [24 + (j : Int)]) (Blk.new wr 3 #[.int .i64 (24 + (j : Int))]) (by simp)).src
  clear H
  go_wp2_with (at_builtin; (refine wpList_append_G (E := numE .i64) rfl _ _ 43 rfl 3 (.int .i64 0) 8 Tryz.underlying43 int_info rfl (.slice A j c) M rfl ho4 (some ⟨wr.heap.size, 0, none⟩) 1 1 [24 + (j : Int)] rfl hsrc rfl (by omega) ?_); (intro v5 w5 ho5 hc5 hb5); (have H5 := (H2.pick 1 rfl).app ho5 hc5 hb5); (clear ho4 hsrc H2 ho); (obtain ⟨A5, c5, rfl, _, _⟩ := ho5.form); (clear ho5 hc5 hb5))
  rw [← hks.out] at H5
  have hl5 := hKl.out (j + 1)
  rw [hl5] at H5
  replace H5 := (H5.pick 1 rfl).tail
  clear hl5
  go_roundw
  case rel => exact ⟨j + 1, A5, c5, by omega, by (try simp), by go_num, H5⟩
  case measure => simp [intOf]; omega
 have ej : j = 16 := by omega
 subst ej
 have hltz : ¬ ((16 : Nat) : Int) < 16 := by omega
 rw [hKe.out] at H
 go_wp2_with fail
 go_ret
 exact ⟨A, c, rfl, H⟩
set_option maxHeartbeats 400000 in
theorem Great17_any (A : Option Addr) (n c : Nat) (B : Option Addr) (m e : Nat) (w : World) : Calls Tryz.prog 12 #[.slice A n c, .slice B m e] w fun x w' => x = .returned (.bool (decide (n > 600) || decide (m > 60))) ∧ w' = w := by
 by_cases h1 : n > 600
 ·have hz : (n : Int) > 600 := by omega
  rw [decide_eq_true h1, Bool.true_or]
  replace h1 := Lib.hid h1
  go_enter Tryz.func12, Tryz.ntmps12
  go_wp2_with fail
  go_ret
  exact ⟨rfl, rfl⟩
 have hz : ¬ (n : Int) > 600 := by omega
 rw [decide_eq_false h1, Bool.false_or]
 replace h1 := Lib.hid h1
 by_cases h2 : m > 60
 ·have hz2 : (m : Int) > 60 := by omega
  rw [decide_eq_true h2]
  replace h2 := Lib.hid h2
  go_enter Tryz.func12, Tryz.ntmps12
  go_wp2_with fail
  go_ret
  exact ⟨rfl, rfl⟩
 have hz2 : ¬ (m : Int) > 60 := by omega
 rw [decide_eq_false h2]
 replace h2 := Lib.hid h2
 go_enter Tryz.func12, Tryz.ntmps12
 go_wp2_with fail
 go_ret
 exact ⟨rfl, rfl⟩
set_option maxRecDepth 100000 in
set_option maxHeartbeats 4000000 in
theorem SepC.fMade (H : SepC w0 w (gdT dd gq mp q hp hb t 40 4 8 8 gl16 (d) :: blkT wb 51 (wdC hp gq q t dd) :: l)) : Calls Tryz.prog 13 #[.pointer (some ⟨wb, 0, none⟩)] w fun e w' => ∃ fq mq, e = .returned (.pointer (some ⟨fq, 0, none⟩)) ∧ SepC w0 w' (gdT dd gq mp q hp hb t 40 4 8 8 gl16 (d) :: blkT wb 51 (wdC hp gq q t dd) :: blkT fq 202 (flC gq mq q dd) :: mapT mq gl16 :: l) := by
 have hL := H.wList17
 go_enter Tryz.func13, Tryz.ntmps13
 go_wp2_with fail
 refine hL.mono ?_; rintro e w2 ⟨Al, cl, rfl, H2⟩
 clear hL H
 have hsl := (ownI_G.2 H2.own).slk (fun x hx => by have := gl16_in x hx; have h1 : IntKind.i64.min = -9223372036854775808 := rfl; have h2 : IntKind.i64.max = 9223372036854775807 := rfl; omega) (by decide)
 go_wp2_with fail
 refine (GNew_ok Al 16 cl gl16 40 w2 hsl gl16_ok).mono ?_; rintro e w3 ⟨mq, S, rfl, y3, hg3, hS3⟩
 have H3 := H2.lay (P := mapT mq gl16) (S := S) y3 hg3 hS3
 clear H2 hsl y3 hg3 hS3
 have H4 := ((((H3.pick 1 rfl).pick 1 rfl).pick 3 rfl).pick 3 rfl)
 have hN := fun {z : World} (H' : SepC w0 z (gdT dd gq mp q hp hb t 40 4 8 8 gl16 (d) :: blkT wb 51 (wdC hp gq q t dd) :: mapT mq gl16 :: ownT (numE .i64) 3 (.slice Al 16 cl) gl16 :: l)) => H'.flNew (gq := gq) (mq := mq) (q := q) (dd := dd)
 clear H3
 go_upto_region 4 with fail
 have HH := H4.new (Chg.refl [] w3).drew
 clear H4
 refine wp_region_noPanic ?_
 refine wp_region_held_drew (S := (fun w' => Blk w' wb 51 (wdC hp gq q t dd))) (by kernel_rfl) ?_ (fun hHeld => ?_)
 ·exact (HH.pick 1 rfl).blk
 refine tq 0 8 _ ?_
 refine tq 1 9 _ ?_
 refine tq 2 10 _ ?_
 (refine tkz 3 11 ?_ ?_ ?_; rotate_left; · (intro w hSw; (try dsimp only at hSw); have c_ := wdC_cells hSw; go_simp; (try with_reducible rfl)))
 (try simp only [Act.put, qI, qO, qU])
 refine tq 4 12 _ ?_
 refine tq 5 13 _ ?_
 refine tq 6 14 _ ?_
 refine tq 7 15 _ ?_
 (try simp only [Act.put, qI, qO, qU])
 (refine tkz 8 16 ?_ ?_ ?_; rotate_left; · (intro w hSw; (try dsimp only at hSw); have c_ := wdC_cells hSw; go_simp; (try with_reducible rfl)))
 refine tq 9 17 _ ?_
 refine tq 10 18 _ ?_
 refine tq 11 19 _ ?_
 (try simp only [Act.put, qI, qO, qU])
 (refine tkz 12 20 ?_ ?_ ?_; rotate_left; · (intro w hSw; (try dsimp only at hSw); have c_ := wdC_cells hSw; go_simp; (try with_reducible rfl)))
 (try simp only [Act.put, qI, qO, qU])
 refine rdy 13 fun K hK => ?_
 go_simp
 (go_at_call 53; refine (hN HH).mono ?_; rintro e u1 ⟨fq, rfl, HX⟩)
 refine hK.out _ _ (by (try dsimp only); exact (HX.pick 2 rfl).blk) (fun hHeld => ?_)
 clear hK K
 (try simp only [Act.put, qI, qO, qU])
 refine tq 14 2 _ ?_
 (try simp only [Act.put, qI, qO, qU])
 refine wpAnyH_done (by kernel_rfl) ?_ _
 refine NoPanic.normal ?_
 clear hHeld hN HH
 go_wp2_with fail
 go_ret
 exact ⟨fq, mq, rfl, ((((((HX.pick 3 rfl).pick 1 rfl).pick 3 rfl).pick 3 rfl).pick 4 rfl)).tail⟩
end
end Go.Proofs.YtmbgepafpcbakaaGreatDoor
