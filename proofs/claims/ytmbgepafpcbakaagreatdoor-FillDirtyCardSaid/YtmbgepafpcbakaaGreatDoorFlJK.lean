/-
 The program's filler: Fill.
-/
import Derived.Test.YtmbgepafpcbakaaGreatDoorFlCK
import Derived.Test.YtmbgepafpcbakaaGreatDoorFlDK
import Derived.Test.YtmbgepafpcbakaaGreatDoorGFlK
import Derived.Test.YtmbgepafpcbakaaGreatDoorGFpK
import Derived.Deep.CutRange
import Derived.Deep.MidRow
namespace Go.Proofs.YtmbgepafpcbakaaGreatDoor
open Go.RowKit Go.Maps Go.Shelf
section
variable {w0 w w' : World} {xq fq mq dd gq mp q hp hb t n a m most : Nat} {L : List Int} {d : Gd} {root page : Int} {A : Option Addr} {cA : Nat} {P : Pa} {dirty : Bool} {e0 e1 e2 : Ent} {tv av : Value} {tk an : List Int} {l : List Th}
set_option maxHeartbeats 4000000 in
theorem wk_says (a b c : Ent) : setMany (wkC fq root page A cA P dirty e0 e1 e2 tv av) 11 (says3 a b c).toList = wkC fq root page A cA P dirty a b c tv av := by
 unfold wkC says3; simp only [setMany, qI, qO, qU]
theorem SepC.putSays {a b c : Ent} (H : SepC w0 w (blkT xq 175 (wkC fq root page A cA P dirty e0 e1 e2 tv av) :: l)) : SepC w0 (w.setCells xq 11 (says3 a b c).toList) (blkT xq 175 (wkC fq root page A cA P dirty a b c tv av) :: l) := by
 have h := SepC.putMany (says3 a b c).toList 11 H
 rw [wk_says] at h; exact h
set_option maxRecDepth 100000 in
theorem link_len (n : Nat) (L : List Int) (d : Gd) (root p i c : Int) (r : Rg) : (linkG n L d root p i c r).2.length ≤ 512 := by
 unfold linkG
 split
 ·simp
 have h := reach_len (childS n (zapG n (looksF n L d c) p i).s p i c r).L root p i
 exact h
set_option maxRecDepth 100000 in
theorem key_at0 (a b c r : Int) (w : World) : (Instr.index 177 (.agg #[.int .i64 a, .int .i64 3, .int .i64 0, .int .i64 b, .int .i64 2, .int .i64 0, .int .i64 c, .int .i64 1, .int .i64 r]) (.int .i64 0)).run Tryz.prog w = .ok (.agg #[.int .i64 a, .int .i64 3, .int .i64 0]) w := by first | rfl | kernel_rfl
set_option maxRecDepth 100000 in
theorem key_at1 (a b c r : Int) (w : World) : (Instr.index 177 (.agg #[.int .i64 a, .int .i64 3, .int .i64 0, .int .i64 b, .int .i64 2, .int .i64 0, .int .i64 c, .int .i64 1, .int .i64 r]) (.int .i64 1)).run Tryz.prog w = .ok (.agg #[.int .i64 b, .int .i64 2, .int .i64 0]) w := by first | rfl | kernel_rfl
set_option maxRecDepth 100000 in
theorem key_at2 (a b c r : Int) (w : World) : (Instr.index 177 (.agg #[.int .i64 a, .int .i64 3, .int .i64 0, .int .i64 b, .int .i64 2, .int .i64 0, .int .i64 c, .int .i64 1, .int .i64 r]) (.int .i64 2)).run Tryz.prog w = .ok (.agg #[.int .i64 c, .int .i64 1, .int .i64 r]) w := by first | rfl | kernel_rfl
set_option maxRecDepth 100000 in
set_option maxHeartbeats 16000000 in
theorem SepC.flFill {written : Bool} (H : SepC w0 w (blkT fq 202 (flC gq mq q dd) :: gdT dd gq mp q hp hb t n a m most L (d) :: mapT mq L :: l)) (hA : SlA w A P.ats.length P.ats) (hats : P.ats.length = (if P.large then 2 else 3)) (hd : FdOk n a m L d) (hm : 3 ≤ m) :
  Calls Tryz.prog 37 #[.pointer (some ⟨fq, 0, none⟩), .int .i64 root, .int .i64 page, .agg (pathV A cA P), .bool written] w fun e w' => ∃ A2 c2, e = .returned (.tuple #[.slice A2 (fillG n L d root page P written).2.1.length c2, .bool true]) ∧ SepC w0 w' (ownT (numE .i64) 3 (.slice A2 (fillG n L d root page P written).2.1.length c2) (fillG n L d root page P written).2.1 :: blkT fq 202 (flC gq mq q dd) :: gdT dd gq mp q hp hb t n a m most L ((fillG n L d root page P written).1) :: mapT mq L :: l) := by
 have hdirty : (P.dirty || written) = (P.dirty || written) := rfl
 clear hdirty
 obtain ⟨d1, x0, d2, x1, d3, x2, h1, h2, h3, hx0, hx1, hx2, ⟨qb, hb1, hb2⟩, ⟨qc, hc1, hc2⟩, hfg⟩ := fill_parts hd hm root page P written
 rw [hfg]
 clear hfg
 have hlf : leafR n L d.s.W P = (if P.large then Rg.all else ofE (sayK n L d.s.W P P.ats.length 2)) := by unfold leafR sayK; cases e : P.large with | true => rfl | false => rw [e] at hats; rw [if_pos (show (2:Nat) < P.ats.length by rw [hats]; decide)]
 rw [hlf]
 clear hlf
 have hR := fun {xq : Nat} {z : World} {l' : List Th} {dirty : Bool} (H' : SepC w0 z (blkT xq 175 (wkC fq root page A cA P dirty Ent.none_ Ent.none_ Ent.none_ (.slice none 0 0) (.slice none 0 0)) :: ownT (numE .i64) 3 (.slice none 0 0) ([]) :: ownT (numE .i64) 3 (.slice none 0 0) ([]) :: blkT fq 202 (flC gq mq q dd) :: gdT dd gq mp q hp hb t n a m most L (d) :: mapT mq L :: l')) (hA' : SlA z A P.ats.length P.ats) => H'.flRead hA' (by rw [hats]; cases P.large <;> simp)
 generalize sayK n L d.s.W P P.ats.length 2 = E2 at *
 generalize (entF n L d.s.W P 0) = E0 at *
 generalize (entF n L d.s.W P 1) = E1 at *
 have hK := fun {xq : Nat} {z : World} {l' : List Th} (H' : SepC w0 z (blkT xq 175 (wkC fq root page A cA P (P.dirty || written) E0 E1 E2 (.slice none 0 0) (.slice none 0 0)) :: ownT (numE .i64) 3 (.slice none 0 0) ([]) :: ownT (numE .i64) 3 (.slice none 0 0) ([]) :: blkT fq 202 (flC gq mq q dd) :: gdT dd gq mp q hp hb t n a m most L (d) :: mapT mq L :: l')) => H'.flKeys
 have hT0 := fun {xq : Nat} {tv : Value} {z : World} {l' : List Th} (H' : SepC w0 z (blkT xq 175 (wkC fq root page A cA P (P.dirty || written) E0 E1 E2 (tv) (.slice none 0 0)) :: ownT (numE .i64) 3 (tv) ([]) :: ownT (numE .i64) 3 (.slice none 0 0) ([]) :: blkT fq 202 (flC gq mq q dd) :: gdT dd gq mp q hp hb t n a m most L (d) :: mapT mq L :: l')) => H'.flTake (by simp) ⟨root, 3, 0⟩
 rw [h1] at hT0
 have hT1 := fun {xq : Nat} {tv : Value} {z : World} {l' : List Th} (H' : SepC w0 z (blkT xq 175 (wkC fq root page A cA P (P.dirty || written) E0 E1 E2 (tv) (.slice none 0 0)) :: ownT (numE .i64) 3 (tv) ([x0]) :: ownT (numE .i64) 3 (.slice none 0 0) ([]) :: blkT fq 202 (flC gq mq q dd) :: gdT dd gq mp q hp hb t n a m most L (d1) :: mapT mq L :: l')) => H'.flTake (by simp) ⟨E0.f, 2, 0⟩
 rw [h2] at hT1
 have hT2 := fun {xq : Nat} {tv : Value} {z : World} {l' : List Th} (H' : SepC w0 z (blkT xq 175 (wkC fq root page A cA P (P.dirty || written) E0 E1 E2 (tv) (.slice none 0 0)) :: ownT (numE .i64) 3 (tv) ([x0, x1]) :: ownT (numE .i64) 3 (.slice none 0 0) ([]) :: blkT fq 202 (flC gq mq q dd) :: gdT dd gq mp q hp hb t n a m most L (d2) :: mapT mq L :: l')) => H'.flTake (by simp) (lowK P (P.dirty || written) E1.f)
 rw [h3] at hT2
 simp only [Option.isSome_some, pinF, Ky.cs, lowK, List.nil_append, List.cons_append] at hT0 hT1 hT2
 clear h1 h2 h3
 have hL0 := fun {xq : Nat} {tv av : Value} {z : World} {l' : List Th} (H' : SepC w0 z (blkT xq 175 (wkC fq root page A cA P (P.dirty || written) E0 E1 E2 (tv) (av)) :: ownT (numE .i64) 3 (tv) ([x0, x1, x2]) :: ownT (numE .i64) 3 (av) ([]) :: blkT fq 202 (flC gq mq q dd) :: gdT dd gq mp q hp hb t n a m most L (d3) :: mapT mq L :: l')) => H'.flLink0 hx0 hx1 (by simp) hb1 hb2
 have hn1 : (linkG n L d3 root x0 (idxI page 3) x1 (ofE E0)).2.length ≤ 512 := link_len _ _ _ _ _ _ _ _
 have hn2 : (linkG n L (linkG n L d3 root x0 (idxI page 3) x1 (ofE E0)).1 root x1 (idxI page 2) x2 (ofE E1)).2.length ≤ 512 := link_len _ _ _ _ _ _ _ _
 have hL1 := fun {xq : Nat} {tv av : Value} {z : World} {l' : List Th} (H' : SepC w0 z (blkT xq 175 (wkC fq root page A cA P (P.dirty || written) E0 E1 E2 (tv) (av)) :: ownT (numE .i64) 3 (tv) ([x0, x1, x2]) :: ownT (numE .i64) 3 (av) ([] ++ (linkG n L d3 root x0 (idxI page 3) x1 (ofE E0)).2) :: blkT fq 202 (flC gq mq q dd) :: gdT dd gq mp q hp hb t n a m most L ((linkG n L d3 root x0 (idxI page 3) x1 (ofE E0)).1) :: mapT mq L :: l')) => H'.flLink1 hx1 hx2 (by simp; omega) hc1 hc2
 have hLf := fun {xq : Nat} {tv av : Value} {z : World} {l' : List Th} (H' : SepC w0 z (blkT xq 175 (wkC fq root page A cA P (P.dirty || written) E0 E1 E2 (tv) (av)) :: ownT (numE .i64) 3 (tv) ([x0, x1, x2]) :: ownT (numE .i64) 3 (av) ([] ++ (linkG n L d3 root x0 (idxI page 3) x1 (ofE E0)).2 ++ (linkG n L (linkG n L d3 root x0 (idxI page 3) x1 (ofE E0)).1 root x1 (idxI page 2) x2 (ofE E1)).2) :: blkT fq 202 (flC gq mq q dd) :: gdT dd gq mp q hp hb t n a m most L ((linkG n L (linkG n L d3 root x0 (idxI page 3) x1 (ofE E0)).1 root x1 (idxI page 2) x2 (ofE E1)).1) :: mapT mq L :: l')) => H'.flLeaf hx2 (by simp; omega)
 clear hb1 hb2 hc1 hc2 hx0 hx1 hx2 hd hm hn1 hn2 hats
 simp only [List.nil_append] at hL0 hL1 hLf
 generalize leafW (linkG n L (linkG n L d3 root x0 (idxI page 3) x1 (ofE E0)).1 root x1 (idxI page 2) x2 (ofE E1)).1 (if P.large then Rg.all else ofE E2) P.g (P.dirty || written) = rr at *
 generalize layG n L (linkG n L (linkG n L d3 root x0 (idxI page 3) x1 (ofE E0)).1 root x1 (idxI page 2) x2 (ofE E1)).1 root x2 (idxI page 1) P.g rr = Z3 at *
 generalize (linkG n L (linkG n L d3 root x0 (idxI page 3) x1 (ofE E0)).1 root x1 (idxI page 2) x2 (ofE E1)) = Z2 at *
 generalize (linkG n L d3 root x0 (idxI page 3) x1 (ofE E0)) = Z1 at *
 obtain ⟨Z3d, Z3a⟩ := Z3; obtain ⟨Z2d, Z2a⟩ := Z2; obtain ⟨Z1d, Z1a⟩ := Z1
 simp only at hL0 hL1 hLf ⊢
 rw [← List.append_assoc]
 obtain ⟨R3, hR3⟩ : ∃ R3, Z1a ++ Z2a ++ Z3a = R3 := ⟨_, rfl⟩
 rw [hR3] at hLf ⊢
 clear hR3
 generalize (if P.large then (if P.dirty || written then (2 : Int) else 1) else 0) = role_ at *
 obtain ⟨dt, hdt⟩ : ∃ dt, P.dirty = dt := ⟨_, rfl⟩
 have H1 := (H.alloc #[.slice A P.ats.length cA, .int .i64 P.g, .bool P.r.w, .bool P.r.u, .bool P.r.x, .bool P.large, .bool dt] 76)
 have hAw := hA.self ((Chg.refl [] w).alloc (.cells #[.slice A P.ats.length cA, .int .i64 P.g, .bool P.r.w, .bool P.r.u, .bool P.r.x, .bool P.large, .bool dt] 76))
 clear H
 unfold pathV
 rw [hdt]
 replace hdt := Lib.hid hdt
 go_enter Tryz.func37, Tryz.ntmps37
 go_upto_region 1 with fail
 generalize w.alloc (.cells #[.slice A P.ats.length cA, .int .i64 P.g, .bool P.r.w, .bool P.r.u, .bool P.r.x, .bool P.large, .bool dt] 76) = w1 at *
 generalize w.heap.size = pb at *
 go_cut [12] from 16 to 26 (fun xv_ wx => ∃ xq : Nat, xv_ = .pointer (some ⟨xq, 0, none⟩) ∧ Chg [] w1 wx ∧ SepC w0 wx (blkT xq 175 (wkC fq root page A cA P (P.dirty || written) Ent.none_ Ent.none_ Ent.none_ (.slice none 0 0) (.slice none 0 0)) :: blkT pb 76 #[.slice A P.ats.length cA, .int .i64 P.g, .bool P.r.w, .bool P.r.u, .bool P.r.x, .bool P.large, .bool dt] :: blkT fq 202 (flC gq mq q dd) :: gdT dd gq mp q hp hb t n a m most L (d) :: mapT mq L :: l))
 case first =>
  cases dt
  ·have p0_ := H1.blk.cell 0
   have p1_ := H1.blk.cell 1
   have p2_ := H1.blk.cell 2
   have p3_ := H1.blk.cell 3
   have p4_ := H1.blk.cell 4
   have p5_ := H1.blk.cell 5
   have p6_ := H1.blk.cell 6
   simp only [qA, qZ, qS] at p0_ p1_ p2_ p3_ p4_ p5_ p6_
   go_wp2_with fail
   go_meet
   have e_ : (wkC fq root page A cA P (P.dirty || written) Ent.none_ Ent.none_ Ent.none_ (.slice none 0 0) (.slice none 0 0)) = #[.pointer (some ⟨fq, 0, none⟩), .int .i64 root, .int .i64 page, .slice A P.ats.length cA, .int .i64 P.g, .bool P.r.w, .bool P.r.u, .bool P.r.x, .bool P.large, .bool false, .bool written, .bool false, .bool false, .bool false, .bool false, .bool false, .bool false, .bool false, .bool false, .int .i64 0, .bool false, .bool false, .bool false, .bool false, .bool false, .bool false, .bool false, .bool false, .int .i64 0, .bool false, .bool false, .bool false, .bool false, .bool false, .bool false, .bool false, .bool false, .int .i64 0, .slice none 0 0, .slice none 0 0] := by unfold wkC Ent.none_; rw [hdt.out]; rfl
   exact ⟨_, rfl, (Chg.refl [] w1).alloc _, by rw [← e_]; exact H1.alloc (wkC fq root page A cA P (P.dirty || written) Ent.none_ Ent.none_ Ent.none_ (.slice none 0 0) (.slice none 0 0)) 175⟩
  have p0_ := H1.blk.cell 0
  have p1_ := H1.blk.cell 1
  have p2_ := H1.blk.cell 2
  have p3_ := H1.blk.cell 3
  have p4_ := H1.blk.cell 4
  have p5_ := H1.blk.cell 5
  have p6_ := H1.blk.cell 6
  simp only [qA, qZ, qS] at p0_ p1_ p2_ p3_ p4_ p5_ p6_
  go_wp2_with fail
  go_meet
  have e_ : (wkC fq root page A cA P (P.dirty || written) Ent.none_ Ent.none_ Ent.none_ (.slice none 0 0) (.slice none 0 0)) = #[.pointer (some ⟨fq, 0, none⟩), .int .i64 root, .int .i64 page, .slice A P.ats.length cA, .int .i64 P.g, .bool P.r.w, .bool P.r.u, .bool P.r.x, .bool P.large, .bool true, .bool true, .bool false, .bool false, .bool false, .bool false, .bool false, .bool false, .bool false, .bool false, .int .i64 0, .bool false, .bool false, .bool false, .bool false, .bool false, .bool false, .bool false, .bool false, .int .i64 0, .bool false, .bool false, .bool false, .bool false, .bool false, .bool false, .bool false, .bool false, .int .i64 0, .slice none 0 0, .slice none 0 0] := by unfold wkC Ent.none_; rw [hdt.out]; rfl
  exact ⟨_, rfl, (Chg.refl [] w1).alloc _, by rw [← e_]; exact H1.alloc (wkC fq root page A cA P (P.dirty || written) Ent.none_ Ent.none_ Ent.none_ (.slice none 0 0) (.slice none 0 0)) 175⟩
 obtain ⟨xq, rfl, y2, H2⟩ := hcut
 skip
 have H3 := (H2.ownNil (numE .i64) 3).ownNil (numE .i64) 3
 have H4 := (((((((H3.pick 3 rfl).pick 6 rfl).pick 6 rfl).pick 6 rfl).pick 4 rfl).pick 5 rfl).pick 6 rfl)
 clear H2 H3
 have hA1 := hAw.self y2
 clear hA hAw H1 y2
 go_wp2_with fail
 refine (hR H4 hA1).mono ?_; rintro e w3 ⟨rfl, y3⟩
 have H5 := H4.new y3
 clear hR H4 y3 hA1
 have hth := Blk.there H5.blk 11 27 (show 11 + 27 ≤ 40 by decide)
 have H6 := SepC.putSays (a := E0) (b := E1) (c := E2) H5
 go_wp2_with (refine wpList_store_mid rfl 173 _ _ rfl xq 11 (says3 E0 E1 E2) rfl rfl hth (by kernel_rfl) (by unfold says3; simp [Value.oneCell']) ?_; clear H5 hth)
 generalize World.setCells w3 xq 11 (says3 E0 E1 E2).toList = w4 at *
 refine (hK H6).mono ?_; rintro e w5 ⟨rfl, y5⟩
 have H7 := H6.new y5
 clear hK H6 y5
 go_wp2_with fail
 go_loopw [34] (fun s34 wr => ∃ (j : Nat) (tv : Value), j ≤ 3 ∧ s34 = .int .i64 j ∧ SepC w0 wr (blkT xq 175 (wkC fq root page A cA P (P.dirty || written) E0 E1 E2 (tv) (.slice none 0 0)) :: ownT (numE .i64) 3 (tv) (([x0, x1, x2].take j)) :: ownT (numE .i64) 3 (.slice none 0 0) ([]) :: blkT fq 202 (flC gq mq q dd) :: gdT dd gq mp q hp hb t n a m most L (([d, d1, d2, d3].getD j d)) :: mapT mq L :: blkT pb 76 #[.slice A P.ats.length cA, .int .i64 P.g, .bool P.r.w, .bool P.r.u, .bool P.r.x, .bool P.large, .bool dt] :: l)) (fun s34 _ => 3 - (intOf s34).toNat)
 case atStart => exact ⟨0, _, by omega, rfl, H7⟩
 clear H7
 obtain ⟨j, tv, hj, rfl, H⟩ := hrel
 by_cases hlt : j < 3
 ·have ej : j = 0 ∨ j = 1 ∨ j = 2 := by omega
  rcases ej with rfl | rfl | rfl
  ·have hix := fun w' => key_at0 root E0.f E1.f role_ w'
   replace H : SepC w0 wr (blkT xq 175 (wkC fq root page A cA P (P.dirty || written) E0 E1 E2 (tv) (.slice none 0 0)) :: ownT (numE .i64) 3 (tv) ([]) :: ownT (numE .i64) 3 (.slice none 0 0) ([]) :: blkT fq 202 (flC gq mq q dd) :: gdT dd gq mp q hp hb t n a m most L (d) :: mapT mq L :: blkT pb 76 #[.slice A P.ats.length cA, .int .i64 P.g, .bool P.r.w, .bool P.r.u, .bool P.r.x, .bool P.large, .bool dt] :: l) := H
   have H8 := H.alloc #[.int .i64 root, .int .i64 3, .int .i64 0] 85
   clear H
   have hltz : ((0 : Nat) : Int) < 3 := by decide
   go_upto_region 6 with fail
   generalize wr.alloc (.cells #[.int .i64 root, .int .i64 3, .int .i64 0] 85) = w8 at *
   generalize wr.heap.size = kb at *
   have k0_ := H8.blk.cell 0; have k1_ := H8.blk.cell 1; have k2_ := H8.blk.cell 2
   simp only [qA, qZ, qS] at k0_ k1_ k2_
   go_wp2_with fail
   refine (hT0 H8.tail).mono ?_; rintro e w9 ⟨rfl, tv2, H9⟩
   clear H8 k0_ k1_ k2_
   go_wp2_with fail
   go_roundw
   case rel => exact ⟨1, tv2, by omega, by go_num, H9⟩
   case measure => simp [intOf]
  ·have hix := fun w' => key_at1 root E0.f E1.f role_ w'
   replace H : SepC w0 wr (blkT xq 175 (wkC fq root page A cA P (P.dirty || written) E0 E1 E2 (tv) (.slice none 0 0)) :: ownT (numE .i64) 3 (tv) ([x0]) :: ownT (numE .i64) 3 (.slice none 0 0) ([]) :: blkT fq 202 (flC gq mq q dd) :: gdT dd gq mp q hp hb t n a m most L (d1) :: mapT mq L :: blkT pb 76 #[.slice A P.ats.length cA, .int .i64 P.g, .bool P.r.w, .bool P.r.u, .bool P.r.x, .bool P.large, .bool dt] :: l) := H
   have H8 := H.alloc #[.int .i64 E0.f, .int .i64 2, .int .i64 0] 85
   clear H
   have hltz : ((1 : Nat) : Int) < 3 := by decide
   go_upto_region 6 with fail
   generalize wr.alloc (.cells #[.int .i64 E0.f, .int .i64 2, .int .i64 0] 85) = w8 at *
   generalize wr.heap.size = kb at *
   have k0_ := H8.blk.cell 0; have k1_ := H8.blk.cell 1; have k2_ := H8.blk.cell 2
   simp only [qA, qZ, qS] at k0_ k1_ k2_
   go_wp2_with fail
   refine (hT1 H8.tail).mono ?_; rintro e w9 ⟨rfl, tv2, H9⟩
   clear H8 k0_ k1_ k2_
   go_wp2_with fail
   go_roundw
   case rel => exact ⟨2, tv2, by omega, by go_num, H9⟩
   case measure => simp [intOf]
  have hix := fun w' => key_at2 root E0.f E1.f role_ w'
  replace H : SepC w0 wr (blkT xq 175 (wkC fq root page A cA P (P.dirty || written) E0 E1 E2 (tv) (.slice none 0 0)) :: ownT (numE .i64) 3 (tv) ([x0, x1]) :: ownT (numE .i64) 3 (.slice none 0 0) ([]) :: blkT fq 202 (flC gq mq q dd) :: gdT dd gq mp q hp hb t n a m most L (d2) :: mapT mq L :: blkT pb 76 #[.slice A P.ats.length cA, .int .i64 P.g, .bool P.r.w, .bool P.r.u, .bool P.r.x, .bool P.large, .bool dt] :: l) := H
  have H8 := H.alloc #[.int .i64 E1.f, .int .i64 1, .int .i64 role_] 85
  clear H
  have hltz : ((2 : Nat) : Int) < 3 := by decide
  go_upto_region 6 with fail
  generalize wr.alloc (.cells #[.int .i64 E1.f, .int .i64 1, .int .i64 role_] 85) = w8 at *
  generalize wr.heap.size = kb at *
  have k0_ := H8.blk.cell 0; have k1_ := H8.blk.cell 1; have k2_ := H8.blk.cell 2
  simp only [qA, qZ, qS] at k0_ k1_ k2_
  go_wp2_with fail
  refine (hT2 H8.tail).mono ?_; rintro e w9 ⟨rfl, tv2, H9⟩
  clear H8 k0_ k1_ k2_
  go_wp2_with fail
  go_roundw
  case rel => exact ⟨3, tv2, by omega, by go_num, H9⟩
  case measure => simp [intOf]
 have ej : j = 3 := by omega
 subst ej
 have hltz : ¬ ((3 : Nat) : Int) < 3 := by decide
 replace H : SepC w0 wr (blkT xq 175 (wkC fq root page A cA P (P.dirty || written) E0 E1 E2 (tv) (.slice none 0 0)) :: ownT (numE .i64) 3 (tv) ([x0, x1, x2]) :: ownT (numE .i64) 3 (.slice none 0 0) ([]) :: blkT fq 202 (flC gq mq q dd) :: gdT dd gq mp q hp hb t n a m most L (d3) :: mapT mq L :: blkT pb 76 #[.slice A P.ats.length cA, .int .i64 P.g, .bool P.r.w, .bool P.r.u, .bool P.r.x, .bool P.large, .bool dt] :: l) := H
 clear hT0 hT1 hT2
 go_wp2_with fail
 go_loopw [42] (fun s42 wq => ∃ (i : Nat) (tv av : Value), i ≤ 2 ∧ s42 = .int .i64 i ∧ SepC w0 wq (blkT xq 175 (wkC fq root page A cA P (P.dirty || written) E0 E1 E2 (tv) (av)) :: ownT (numE .i64) 3 (tv) ([x0, x1, x2]) :: ownT (numE .i64) 3 (av) (([[], Z1a, Z1a ++ Z2a].getD i [])) :: blkT fq 202 (flC gq mq q dd) :: gdT dd gq mp q hp hb t n a m most L (([d3, Z1d, Z2d].getD i d3)) :: mapT mq L :: blkT pb 76 #[.slice A P.ats.length cA, .int .i64 P.g, .bool P.r.w, .bool P.r.u, .bool P.r.x, .bool P.large, .bool dt] :: l)) (fun s42 _ => 2 - (intOf s42).toNat)
 case atStart => exact ⟨0, _, _, by omega, rfl, H⟩
 clear H
 obtain ⟨i, tv, av, hi, rfl, H⟩ := hrel
 by_cases hli : i < 2
 ·have ei : i = 0 ∨ i = 1 := by omega
  rcases ei with rfl | rfl
  ·replace H : SepC w0 wr (blkT xq 175 (wkC fq root page A cA P (P.dirty || written) E0 E1 E2 (tv) (av)) :: ownT (numE .i64) 3 (tv) ([x0, x1, x2]) :: ownT (numE .i64) 3 (av) ([]) :: blkT fq 202 (flC gq mq q dd) :: gdT dd gq mp q hp hb t n a m most L (d3) :: mapT mq L :: blkT pb 76 #[.slice A P.ats.length cA, .int .i64 P.g, .bool P.r.w, .bool P.r.u, .bool P.r.x, .bool P.large, .bool dt] :: l) := H
   have hliz : ((0 : Nat) : Int) < 2 := by decide
   go_wp2_with fail
   refine (hL0 H).mono ?_; rintro e w9 ⟨rfl, av2, H9⟩
   clear H
   go_wp2_with fail
   go_roundw
   case rel => exact ⟨1, _, av2, by omega, by go_num, H9⟩
   case measure => simp [intOf]
  replace H : SepC w0 wr (blkT xq 175 (wkC fq root page A cA P (P.dirty || written) E0 E1 E2 (tv) (av)) :: ownT (numE .i64) 3 (tv) ([x0, x1, x2]) :: ownT (numE .i64) 3 (av) (Z1a) :: blkT fq 202 (flC gq mq q dd) :: gdT dd gq mp q hp hb t n a m most L (Z1d) :: mapT mq L :: blkT pb 76 #[.slice A P.ats.length cA, .int .i64 P.g, .bool P.r.w, .bool P.r.u, .bool P.r.x, .bool P.large, .bool dt] :: l) := H
  have hliz : ((1 : Nat) : Int) < 2 := by decide
  go_wp2_with fail
  refine (hL1 H).mono ?_; rintro e w9 ⟨rfl, av2, H9⟩
  clear H
  go_wp2_with fail
  go_roundw
  case rel => exact ⟨2, _, av2, by omega, by go_num, H9⟩
  case measure => simp [intOf]
 have ei : i = 2 := by omega
 subst ei
 have hliz : ¬ ((2 : Nat) : Int) < 2 := by decide
 replace H : SepC w0 wr (blkT xq 175 (wkC fq root page A cA P (P.dirty || written) E0 E1 E2 (tv) (av)) :: ownT (numE .i64) 3 (tv) ([x0, x1, x2]) :: ownT (numE .i64) 3 (av) ((Z1a ++ Z2a)) :: blkT fq 202 (flC gq mq q dd) :: gdT dd gq mp q hp hb t n a m most L (Z2d) :: mapT mq L :: blkT pb 76 #[.slice A P.ats.length cA, .int .i64 P.g, .bool P.r.w, .bool P.r.u, .bool P.r.x, .bool P.large, .bool dt] :: l) := H
 clear hL0 hL1
 go_wp2_with fail
 refine (hLf H).mono ?_; rintro e w9 ⟨rfl, av2, H9⟩
 clear H hLf
 have c39 := wk39 H9.blk
 obtain ⟨A2, c2, rfl, _, _⟩ := (H9.pick 2 rfl).own.form
 go_wp2_with fail
 go_ret2
 exact ⟨A2, c2, rfl, (((((((((H9.pick 5 rfl).pick 5 rfl).pick 5 rfl).pick 5 rfl).pick 6 rfl).pick 6 rfl).pick 6 rfl)).tail.tail.tail)⟩
end
end Go.Proofs.YtmbgepafpcbakaaGreatDoor
