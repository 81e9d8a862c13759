/-
 FlF, FlG, FlH, FlI in one text.
-/
import Derived.Test.YtmbgepafpcbakaaGreatDoorFlEK
import Derived.Deep.CutRange
import Derived.Test.YtmbgepafpcbakaaGreatDoorFlBK
import Derived.Test.YtmbgepafpcbakaaGreatDoorBoxesK
namespace Go.Proofs.YtmbgepafpcbakaaGreatDoor
open Go.RowKit Go.Maps Go.Shelf
section
variable {w0 w w' : World} {xq fq mq dd gq mp q hp hb t n a m most : Nat} {L : List Int} {d : Gd} {root page : Int} {A : Option Addr} {cA : Nat} {P : Pa} {dirty : Bool} {e0 e1 e2 : Ent} {tv av : Value} {tk an : List Int} {l : List Th}
theorem SepC.flLook (H : SepC w0 w (blkT xq 175 (wkC fq root page A cA P dirty e0 e1 e2 (tv) (av)) :: ownT (numE .i64) 3 (tv) (tk) :: ownT (numE .i64) 3 (av) (an) :: blkT fq 202 (flC gq mq q dd) :: gdT dd gq mp q hp hb t n a m most L (d) :: mapT mq L :: l)) (p : Int) (hp_ : i64B p) {qq : Pg} (hq : pgAt d.s.L p = some qq) (hl : qq.k.lev = 1 ∨ (qq.k.lev = 2 ∧ qq.k.role = 0)) : Calls Tryz.prog 161 #[.pointer (some ⟨xq, 0, none⟩), .int .i64 p] w fun e w' => e = .returned (.tuple #[]) ∧ SepC w0 w' (blkT xq 175 (wkC fq root page A cA P dirty e0 e1 e2 (tv) (av)) :: ownT (numE .i64) 3 (tv) (tk) :: ownT (numE .i64) 3 (av) (an) :: blkT fq 202 (flC gq mq q dd) :: gdT dd gq mp q hp hb t n a m most L (looksF n L d p) :: mapT mq L :: l) := by
 have h0 : looksF n L d p = if qq.k.lev = 2 then (kidsF d.s.L p).foldl (lookAt n L) d else if qq.k.lev = 1 ∧ qq.k.role = 0 then lookG n L d qq.k.g else d := by unfold looksF; rw [hq]
 rcases hl with h1 | ⟨h1, h2⟩
 ·have h2 : looksF n L d p = lookAt n L d p := by
   rw [h0, if_neg (by omega)]
   unfold lookAt; rw [hq]
   simp only [h1, true_and]
  rw [h2]; exact H.flLook1 p hp_ hq h1
 rw [h0, if_pos h1]; exact H.flLook2 p hp_ hq h1 h2
set_option maxRecDepth 100000 in
set_option maxHeartbeats 4000000 in
theorem SepC.flLinkDo {d1 : Gd} {xb b1 b2 b3 b4 : Nat} {p i c : Int} {rw_ ru rx : Bool} (H : SepC w0 w (blkT xq 175 (wkC fq root page A cA P dirty e0 e1 e2 (tv) (av)) :: ownT (numE .i64) 3 (tv) (tk) :: ownT (numE .i64) 3 (av) (an) :: blkT fq 202 (flC gq mq q dd) :: gdT dd gq mp q hp hb t n a m most L (d) :: mapT mq L :: blkT xb 170 #[.pointer (some ⟨xq, 0, none⟩)] :: blkT b1 3 #[.int .i64 c] :: blkT b2 3 #[.int .i64 p] :: blkT b3 3 #[.int .i64 i] :: blkT b4 54 #[.bool rw_, .bool ru, .bool rx] :: l)) (hp_ : i64B p) (hc_ : i64B c)
  (hL : ∀ {z : World} {l' : List Th}, SepC w0 z (blkT xq 175 (wkC fq root page A cA P dirty e0 e1 e2 (tv) (av)) :: ownT (numE .i64) 3 (tv) (tk) :: ownT (numE .i64) 3 (av) (an) :: blkT fq 202 (flC gq mq q dd) :: gdT dd gq mp q hp hb t n a m most L (d) :: mapT mq L :: l') → Calls Tryz.prog 161 #[.pointer (some ⟨xq, 0, none⟩), .int .i64 c] z fun e w' => e = .returned (.tuple #[]) ∧ SepC w0 w' (blkT xq 175 (wkC fq root page A cA P dirty e0 e1 e2 (tv) (av)) :: ownT (numE .i64) 3 (tv) (tk) :: ownT (numE .i64) 3 (av) (an) :: blkT fq 202 (flC gq mq q dd) :: gdT dd gq mp q hp hb t n a m most L (d1) :: mapT mq L :: l')) :
  Calls Tryz.prog 160 #[.pointer (some ⟨xb, 0, none⟩), .pointer (some ⟨b1, 0, none⟩), .pointer (some ⟨b2, 0, none⟩), .pointer (some ⟨b3, 0, none⟩), .pointer (some ⟨b4, 0, none⟩)] w fun e w' => e = .returned (.tuple #[]) ∧ SepC w0 w' (blkT xq 175 (wkC fq root page A cA P dirty e0 e1 e2 (tv) (av)) :: ownT (numE .i64) 3 (tv) (tk) :: ownT (numE .i64) 3 (av) (an) :: blkT fq 202 (flC gq mq q dd) :: gdT dd gq mp q hp hb t n a m most L (⟨childS n (zapG n d1 p i).s p i c ⟨rw_, ru, rx⟩, (zapG n d1 p i).T, (zapG n d1 p i).l⟩) :: mapT mq L :: blkT xb 170 #[.pointer (some ⟨xq, 0, none⟩)] :: blkT b1 3 #[.int .i64 c] :: blkT b2 3 #[.int .i64 p] :: blkT b3 3 #[.int .i64 i] :: blkT b4 54 #[.bool rw_, .bool ru, .bool rx] :: l) := by
 have c0b := (H.pick 6 rfl).blk.cell 0; have c1b := (H.pick 7 rfl).blk.cell 0
 simp only [qA, qZ] at c0b c1b
 have cZ := fun {z : World} {l' : List Th} (H' : SepC w0 z (gdT dd gq mp q hp hb t n a m most L (d1) :: l')) => H'.kZap p i hp_
 have cC := fun {z : World} {l' : List Th} (H' : SepC w0 z (gdT dd gq mp q hp hb t n a m most L (zapG n d1 p i) :: l')) => H'.kChild p i c ⟨rw_, ru, rx⟩ hp_ hc_
 simp only [Rg.cs] at cC
 generalize zapG n d1 p i = d2 at *
 have hLk := fun {z : World} {l' : List Th} (H' : SepC w0 z (blkT xq 175 (wkC fq root page A cA P dirty e0 e1 e2 (tv) (av)) :: ownT (numE .i64) 3 (tv) (tk) :: ownT (numE .i64) 3 (av) (an) :: blkT fq 202 (flC gq mq q dd) :: gdT dd gq mp q hp hb t n a m most L (d) :: mapT mq L :: l')) => hL H'
 clear hL
 go_enter Tryz.func160, Tryz.ntmps160
 go_wp2_with fail
 refine (hLk H).mono ?_; rintro e w1 ⟨rfl, H1⟩
 clear hLk H c0b c1b
 go_upto_region 1 with fail
 have HH := H1.new (Chg.refl [] _).drew
 clear H1
 refine wp_region_noPanic ?_
 refine wp_region_held_drew (S := (fun w' => Blk w' xq 175 (wkC fq root page A cA P dirty e0 e1 e2 tv av) ∧ Blk w' fq 202 (flC gq mq q dd) ∧ Blk w' xb 170 #[.pointer (some ⟨xq, 0, none⟩)] ∧ Blk w' b1 3 #[.int .i64 c] ∧ Blk w' b2 3 #[.int .i64 p] ∧ Blk w' b3 3 #[.int .i64 i] ∧ Blk w' b4 54 #[.bool rw_, .bool ru, .bool rx])) (by kernel_rfl) ?_ (fun hHeld => ?_)
 ·exact ⟨HH.blk, (HH.pick 3 rfl).blk, (HH.pick 6 rfl).blk, (HH.pick 7 rfl).blk, (HH.pick 8 rfl).blk, (HH.pick 9 rfl).blk, (HH.pick 10 rfl).blk⟩
 (refine tkz 0 8 ?_ ?_ ?_; rotate_left; · (intro w hSw; (try dsimp only at hSw); have c_ := hSw.2.2.1.cell 0; simp only [qA, qZ] at c_; go_simp; (try with_reducible rfl)))
 refine tq 1 9 _ ?_
 refine tq 2 10 _ ?_
 (refine tkz 3 11 ?_ ?_ ?_; rotate_left; · (intro w hSw; (try dsimp only at hSw); have c_ := wk0 hSw.1; go_simp; (try with_reducible rfl)))
 (try simp only [Act.put, qI, qO, qU])
 refine tq 4 12 _ ?_
 refine tq 5 13 _ ?_
 (refine tkz 6 14 ?_ ?_ ?_; rotate_left; · (intro w hSw; (try dsimp only at hSw); have c_ := fl_c hSw.2.1; go_simp; (try with_reducible rfl)))
 (refine tkz 7 15 ?_ ?_ ?_; rotate_left; · (intro w hSw; (try dsimp only at hSw); have c_ := hSw.2.2.2.2.1.cell 0; simp only [qA, qZ] at c_; go_simp; (try with_reducible rfl)))
 (try simp only [Act.put, qI, qO, qU])
 (refine tkz 8 16 ?_ ?_ ?_; rotate_left; · (intro w hSw; (try dsimp only at hSw); have c_ := hSw.2.2.2.2.2.1.cell 0; simp only [qA, qZ] at c_; go_simp; (try with_reducible rfl)))
 (try simp only [Act.put, qI, qO, qU])
 refine rdy 9 fun K hK => ?_
 go_simp
 (go_at_call 115; refine (cZ (HH.pick 4 rfl)).mono ?_; rintro e u1 ⟨rfl, HX⟩; clear HH; have HH := (((((((((((HX.pick 10 rfl).pick 10 rfl).pick 10 rfl).pick 10 rfl).pick 10 rfl).pick 10 rfl).pick 6 rfl).pick 10 rfl).pick 10 rfl).pick 10 rfl).pick 10 rfl); clear HX)
 refine hK.out _ _ (by (try dsimp only); exact ⟨HH.blk, (HH.pick 3 rfl).blk, (HH.pick 6 rfl).blk, (HH.pick 7 rfl).blk, (HH.pick 8 rfl).blk, (HH.pick 9 rfl).blk, (HH.pick 10 rfl).blk⟩) (fun hHeld => ?_)
 clear hK K
 (try simp only [Act.put, qI, qO, qU])
 refine wpAnyH_done (by kernel_rfl) ?_ _
 refine NoPanic.normal ?_
 clear hHeld cZ
 go_upto_region 2 with fail
 have HH := HH.new (Chg.refl [] _).drew
 refine wp_region_noPanic ?_
 refine wp_region_held_drew (S := (fun w' => Blk w' xq 175 (wkC fq root page A cA P dirty e0 e1 e2 tv av) ∧ Blk w' fq 202 (flC gq mq q dd) ∧ Blk w' xb 170 #[.pointer (some ⟨xq, 0, none⟩)] ∧ Blk w' b1 3 #[.int .i64 c] ∧ Blk w' b2 3 #[.int .i64 p] ∧ Blk w' b3 3 #[.int .i64 i] ∧ Blk w' b4 54 #[.bool rw_, .bool ru, .bool rx])) (by kernel_rfl) ?_ (fun hHeld => ?_)
 ·exact ⟨HH.blk, (HH.pick 3 rfl).blk, (HH.pick 6 rfl).blk, (HH.pick 7 rfl).blk, (HH.pick 8 rfl).blk, (HH.pick 9 rfl).blk, (HH.pick 10 rfl).blk⟩
 (refine tkz 0 18 ?_ ?_ ?_; rotate_left; · (intro w hSw; (try dsimp only at hSw); have c_ := hSw.2.2.1.cell 0; simp only [qA, qZ] at c_; go_simp; (try with_reducible rfl)))
 refine tq 1 19 _ ?_
 refine tq 2 20 _ ?_
 (refine tkz 3 21 ?_ ?_ ?_; rotate_left; · (intro w hSw; (try dsimp only at hSw); have c_ := wk0 hSw.1; go_simp; (try with_reducible rfl)))
 (try simp only [Act.put, qI, qO, qU])
 refine tq 4 22 _ ?_
 refine tq 5 23 _ ?_
 (refine tkz 6 24 ?_ ?_ ?_; rotate_left; · (intro w hSw; (try dsimp only at hSw); have c_ := fl_c hSw.2.1; go_simp; (try with_reducible rfl)))
 (refine tkz 7 25 ?_ ?_ ?_; rotate_left; · (intro w hSw; (try dsimp only at hSw); have c_ := hSw.2.2.2.2.1.cell 0; simp only [qA, qZ] at c_; go_simp; (try with_reducible rfl)))
 (try simp only [Act.put, qI, qO, qU])
 (refine tkz 8 26 ?_ ?_ ?_; rotate_left; · (intro w hSw; (try dsimp only at hSw); have c_ := hSw.2.2.2.2.2.1.cell 0; simp only [qA, qZ] at c_; go_simp; (try with_reducible rfl)))
 (refine tkz 9 27 ?_ ?_ ?_; rotate_left; · (intro w hSw; (try dsimp only at hSw); have c_ := hSw.2.2.2.1.cell 0; simp only [qA, qZ] at c_; go_simp; (try with_reducible rfl)))
 (refine tkz 10 28 ?_ ?_ ?_; rotate_left; · (intro w hSw; (try dsimp only at hSw); have c_ := hSw.2.2.2.2.2.2.cell 0; have d_ := hSw.2.2.2.2.2.2.cell 1; have e_ := hSw.2.2.2.2.2.2.cell 2; simp only [qA, qZ, qS] at c_ d_ e_; go_simp; (try with_reducible rfl)))
 (try simp only [Act.put, qI, qO, qU])
 refine rdy 11 fun K hK => ?_
 go_simp
 (go_at_call 162; refine (cC (HH.pick 4 rfl)).mono ?_; rintro e u1 ⟨rfl, HX⟩; clear HH; have HH := (((((((((((HX.pick 10 rfl).pick 10 rfl).pick 10 rfl).pick 10 rfl).pick 10 rfl).pick 10 rfl).pick 6 rfl).pick 10 rfl).pick 10 rfl).pick 10 rfl).pick 10 rfl); clear HX)
 refine hK.out _ _ (by (try dsimp only); exact ⟨HH.blk, (HH.pick 3 rfl).blk, (HH.pick 6 rfl).blk, (HH.pick 7 rfl).blk, (HH.pick 8 rfl).blk, (HH.pick 9 rfl).blk, (HH.pick 10 rfl).blk⟩) (fun hHeld => ?_)
 clear hK K
 (try simp only [Act.put, qI, qO, qU])
 refine wpAnyH_done (by kernel_rfl) ?_ _
 refine NoPanic.normal ?_
 clear hHeld cC
 go_wp2_with fail
 go_end0
 exact ⟨rfl, HH⟩
theorem SepC.mapHost (H : SepC w0 w (mapT mq L :: l)) (g : Int) : Calls Tryz.prog 84 #[.pointer (some ⟨mq, 0, none⟩), .int .i64 g] w fun e w' => e = .returned (.tuple #[.int .i64 (atV L g), .bool (atB L.length g)]) ∧ w = w' := by
 obtain ⟨S, h, _⟩ := H.fst
 exact GHost_at S mq L g w h
set_option maxRecDepth 100000 in
set_option maxHeartbeats 4000000 in
theorem SepC.flLeafDo {xb b1 b2 b3 b4 : Nat} {p i g : Int} {rw_ ru rx : Bool} (H : SepC w0 w (blkT xq 175 (wkC fq root page A cA P dirty e0 e1 e2 (tv) (av)) :: ownT (numE .i64) 3 (tv) (tk) :: ownT (numE .i64) 3 (av) (an) :: blkT fq 202 (flC gq mq q dd) :: gdT dd gq mp q hp hb t n a m most L (d) :: mapT mq L :: blkT xb 170 #[.pointer (some ⟨xq, 0, none⟩)] :: blkT b1 3 #[.int .i64 g] :: blkT b2 3 #[.int .i64 p] :: blkT b3 3 #[.int .i64 i] :: blkT b4 54 #[.bool rw_, .bool ru, .bool rx] :: l)) (hp_ : i64B p) :
  Calls Tryz.prog 164 #[.pointer (some ⟨xb, 0, none⟩), .pointer (some ⟨b1, 0, none⟩), .pointer (some ⟨b2, 0, none⟩), .pointer (some ⟨b3, 0, none⟩), .pointer (some ⟨b4, 0, none⟩)] w fun e w' => e = .returned (.tuple #[]) ∧ SepC w0 w' (blkT xq 175 (wkC fq root page A cA P dirty e0 e1 e2 (tv) (av)) :: ownT (numE .i64) 3 (tv) (tk) :: ownT (numE .i64) 3 (av) (an) :: blkT fq 202 (flC gq mq q dd) :: gdT dd gq mp q hp hb t n a m most L (⟨leafS n (zapG n d p i).s p i g (atV L g) ⟨rw_, ru, rx⟩, (zapG n d p i).T, (zapG n d p i).l⟩) :: mapT mq L :: blkT xb 170 #[.pointer (some ⟨xq, 0, none⟩)] :: blkT b1 3 #[.int .i64 g] :: blkT b2 3 #[.int .i64 p] :: blkT b3 3 #[.int .i64 i] :: blkT b4 54 #[.bool rw_, .bool ru, .bool rx] :: l) := by
 have hGA := fun {z : World} {l' : List Th} (H' : SepC w0 z (mapT mq L :: l')) => H'.mapHost g
 have cZ := fun {z : World} {l' : List Th} (H' : SepC w0 z (gdT dd gq mp q hp hb t n a m most L (d) :: l')) => H'.kZap p i hp_
 have cC := fun {z : World} {l' : List Th} (H' : SepC w0 z (gdT dd gq mp q hp hb t n a m most L (zapG n d p i) :: l')) => H'.kLeaf p i g (atV L g) ⟨rw_, ru, rx⟩ hp_
 simp only [Rg.cs] at cC
 generalize zapG n d p i = d2 at *
 generalize atB L.length g = ab_ at *
 generalize hav : atV L g = ag_ at *
 clear hav
 go_enter Tryz.func164, Tryz.ntmps164
 go_upto_region 0 with fail
 have HH := H.new (Chg.refl [] _).drew
 clear H
 refine wp_region_noPanic ?_
 refine wp_region_held_drew (S := (fun w' => Blk w' xq 175 (wkC fq root page A cA P dirty e0 e1 e2 tv av) ∧ Blk w' fq 202 (flC gq mq q dd) ∧ Blk w' xb 170 #[.pointer (some ⟨xq, 0, none⟩)] ∧ Blk w' b1 3 #[.int .i64 g] ∧ Blk w' b2 3 #[.int .i64 p] ∧ Blk w' b3 3 #[.int .i64 i] ∧ Blk w' b4 54 #[.bool rw_, .bool ru, .bool rx])) (by kernel_rfl) ?_ (fun hHeld => ?_)
 ·exact ⟨HH.blk, (HH.pick 3 rfl).blk, (HH.pick 6 rfl).blk, (HH.pick 7 rfl).blk, (HH.pick 8 rfl).blk, (HH.pick 9 rfl).blk, (HH.pick 10 rfl).blk⟩
 (refine tkz 0 8 ?_ ?_ ?_; rotate_left; · (intro w hSw; (try dsimp only at hSw); have c_ := hSw.2.2.1.cell 0; simp only [qA, qZ] at c_; go_simp; (try with_reducible rfl)))
 refine tq 1 9 _ ?_
 (try simp only [Act.put, qI, qO, qU])
 refine tq 2 10 _ ?_
 (refine tkz 3 11 ?_ ?_ ?_; rotate_left; · (intro w hSw; (try dsimp only at hSw); have c_ := wk0 hSw.1; go_simp; (try with_reducible rfl)))
 refine tq 4 12 _ ?_
 refine tq 5 13 _ ?_
 (try simp only [Act.put, qI, qO, qU])
 (refine tkz 6 14 ?_ ?_ ?_; rotate_left; · (intro w hSw; (try dsimp only at hSw); have c_ := fl_c hSw.2.1; go_simp; (try with_reducible rfl)))
 (refine tkz 7 15 ?_ ?_ ?_; rotate_left; · (intro w hSw; (try dsimp only at hSw); have c_ := hSw.2.2.2.1.cell 0; simp only [qA, qZ] at c_; go_simp; (try with_reducible rfl)))
 (try simp only [Act.put, qI, qO, qU])
 refine rdy 8 fun K hK => ?_
 go_simp
 (go_at_call 84; refine (hGA (HH.pick 5 rfl)).mono ?_; rintro e u1 ⟨rfl, hz_⟩; subst hz_)
 refine hK.out _ _ (by (try dsimp only); exact ⟨HH.blk, (HH.pick 3 rfl).blk, (HH.pick 6 rfl).blk, (HH.pick 7 rfl).blk, (HH.pick 8 rfl).blk, (HH.pick 9 rfl).blk, (HH.pick 10 rfl).blk⟩) (fun hHeld => ?_)
 clear hK K
 (try simp only [Act.put, qI, qO, qU])
 refine tq 9 7 _ ?_
 refine tq 10 17 _ ?_
 refine tq 11 18 _ ?_
 (try simp only [Act.put, qI, qO, qU])
 refine tq 12 5 _ ?_
 refine tq 13 6 _ ?_
 (try simp only [Act.put, qI, qO, qU])
 refine wpAnyH_done (by kernel_rfl) ?_ _
 refine NoPanic.normal ?_
 clear hHeld hGA
 go_upto_region 1 with fail
 have HH := HH.new (Chg.refl [] _).drew
 refine wp_region_noPanic ?_
 refine wp_region_held_drew (S := (fun w' => Blk w' xq 175 (wkC fq root page A cA P dirty e0 e1 e2 tv av) ∧ Blk w' fq 202 (flC gq mq q dd) ∧ Blk w' xb 170 #[.pointer (some ⟨xq, 0, none⟩)] ∧ Blk w' b1 3 #[.int .i64 g] ∧ Blk w' b2 3 #[.int .i64 p] ∧ Blk w' b3 3 #[.int .i64 i] ∧ Blk w' b4 54 #[.bool rw_, .bool ru, .bool rx])) (by kernel_rfl) ?_ (fun hHeld => ?_)
 ·exact ⟨HH.blk, (HH.pick 3 rfl).blk, (HH.pick 6 rfl).blk, (HH.pick 7 rfl).blk, (HH.pick 8 rfl).blk, (HH.pick 9 rfl).blk, (HH.pick 10 rfl).blk⟩
 (refine tkz 0 19 ?_ ?_ ?_; rotate_left; · (intro w hSw; (try dsimp only at hSw); have c_ := hSw.2.2.1.cell 0; simp only [qA, qZ] at c_; go_simp; (try with_reducible rfl)))
 refine tq 1 20 _ ?_
 refine tq 2 21 _ ?_
 (try simp only [Act.put, qI, qO, qU])
 (refine tkz 3 22 ?_ ?_ ?_; rotate_left; · (intro w hSw; (try dsimp only at hSw); have c_ := wk0 hSw.1; go_simp; (try with_reducible rfl)))
 refine tq 4 23 _ ?_
 refine tq 5 24 _ ?_
 (refine tkz 6 25 ?_ ?_ ?_; rotate_left; · (intro w hSw; (try dsimp only at hSw); have c_ := fl_c hSw.2.1; go_simp; (try with_reducible rfl)))
 (try simp only [Act.put, qI, qO, qU])
 (refine tkz 7 26 ?_ ?_ ?_; rotate_left; · (intro w hSw; (try dsimp only at hSw); have c_ := hSw.2.2.2.2.1.cell 0; simp only [qA, qZ] at c_; go_simp; (try with_reducible rfl)))
 (refine tkz 8 27 ?_ ?_ ?_; rotate_left; · (intro w hSw; (try dsimp only at hSw); have c_ := hSw.2.2.2.2.2.1.cell 0; simp only [qA, qZ] at c_; go_simp; (try with_reducible rfl)))
 (try simp only [Act.put, qI, qO, qU])
 refine rdy 9 fun K hK => ?_
 go_simp
 (go_at_call 115; refine (cZ (HH.pick 4 rfl)).mono ?_; rintro e u1 ⟨rfl, HX⟩; clear HH; have HH := (((((((((((HX.pick 10 rfl).pick 10 rfl).pick 10 rfl).pick 10 rfl).pick 10 rfl).pick 10 rfl).pick 6 rfl).pick 10 rfl).pick 10 rfl).pick 10 rfl).pick 10 rfl); clear HX)
 refine hK.out _ _ (by (try dsimp only); exact ⟨HH.blk, (HH.pick 3 rfl).blk, (HH.pick 6 rfl).blk, (HH.pick 7 rfl).blk, (HH.pick 8 rfl).blk, (HH.pick 9 rfl).blk, (HH.pick 10 rfl).blk⟩) (fun hHeld => ?_)
 clear hK K
 (try simp only [Act.put, qI, qO, qU])
 refine wpAnyH_done (by kernel_rfl) ?_ _
 refine NoPanic.normal ?_
 clear hHeld cZ
 go_upto_region 2 with fail
 have HH := HH.new (Chg.refl [] _).drew
 refine wp_region_noPanic ?_
 refine wp_region_held_drew (S := (fun w' => Blk w' xq 175 (wkC fq root page A cA P dirty e0 e1 e2 tv av) ∧ Blk w' fq 202 (flC gq mq q dd) ∧ Blk w' xb 170 #[.pointer (some ⟨xq, 0, none⟩)] ∧ Blk w' b1 3 #[.int .i64 g] ∧ Blk w' b2 3 #[.int .i64 p] ∧ Blk w' b3 3 #[.int .i64 i] ∧ Blk w' b4 54 #[.bool rw_, .bool ru, .bool rx])) (by kernel_rfl) ?_ (fun hHeld => ?_)
 ·exact ⟨HH.blk, (HH.pick 3 rfl).blk, (HH.pick 6 rfl).blk, (HH.pick 7 rfl).blk, (HH.pick 8 rfl).blk, (HH.pick 9 rfl).blk, (HH.pick 10 rfl).blk⟩
 (refine tkz 0 29 ?_ ?_ ?_; rotate_left; · (intro w hSw; (try dsimp only at hSw); have c_ := hSw.2.2.1.cell 0; simp only [qA, qZ] at c_; go_simp; (try with_reducible rfl)))
 refine tq 1 30 _ ?_
 refine tq 2 31 _ ?_
 (try simp only [Act.put, qI, qO, qU])
 (refine tkz 3 32 ?_ ?_ ?_; rotate_left; · (intro w hSw; (try dsimp only at hSw); have c_ := wk0 hSw.1; go_simp; (try with_reducible rfl)))
 refine tq 4 33 _ ?_
 refine tq 5 34 _ ?_
 (refine tkz 6 35 ?_ ?_ ?_; rotate_left; · (intro w hSw; (try dsimp only at hSw); have c_ := fl_c hSw.2.1; go_simp; (try with_reducible rfl)))
 (try simp only [Act.put, qI, qO, qU])
 (refine tkz 7 36 ?_ ?_ ?_; rotate_left; · (intro w hSw; (try dsimp only at hSw); have c_ := hSw.2.2.2.2.1.cell 0; simp only [qA, qZ] at c_; go_simp; (try with_reducible rfl)))
 (refine tkz 8 37 ?_ ?_ ?_; rotate_left; · (intro w hSw; (try dsimp only at hSw); have c_ := hSw.2.2.2.2.2.1.cell 0; simp only [qA, qZ] at c_; go_simp; (try with_reducible rfl)))
 (refine tkz 9 38 ?_ ?_ ?_; rotate_left; · (intro w hSw; (try dsimp only at hSw); have c_ := hSw.2.2.2.1.cell 0; simp only [qA, qZ] at c_; go_simp; (try with_reducible rfl)))
 refine tq 10 39 _ ?_
 (try simp only [Act.put, qI, qO, qU])
 (refine tkz 11 40 ?_ ?_ ?_; rotate_left; · (intro w hSw; (try dsimp only at hSw); have c_ := hSw.2.2.2.2.2.2.cell 0; have d_ := hSw.2.2.2.2.2.2.cell 1; have e_ := hSw.2.2.2.2.2.2.cell 2; simp only [qA, qZ, qS] at c_ d_ e_; go_simp; (try with_reducible rfl)))
 (try simp only [Act.put, qI, qO, qU])
 refine rdy 12 fun K hK => ?_
 go_simp
 (go_at_call 165; refine (cC (HH.pick 4 rfl)).mono ?_; rintro e u1 ⟨rfl, HX⟩; clear HH; have HH := (((((((((((HX.pick 10 rfl).pick 10 rfl).pick 10 rfl).pick 10 rfl).pick 10 rfl).pick 10 rfl).pick 6 rfl).pick 10 rfl).pick 10 rfl).pick 10 rfl).pick 10 rfl); clear HX)
 refine hK.out _ _ (by (try dsimp only); exact ⟨HH.blk, (HH.pick 3 rfl).blk, (HH.pick 6 rfl).blk, (HH.pick 7 rfl).blk, (HH.pick 8 rfl).blk, (HH.pick 9 rfl).blk, (HH.pick 10 rfl).blk⟩) (fun hHeld => ?_)
 clear hK K
 (try simp only [Act.put, qI, qO, qU])
 refine wpAnyH_done (by kernel_rfl) ?_ _
 refine NoPanic.normal ?_
 clear hHeld cC
 go_wp2_with fail
 go_end0
 exact ⟨rfl, HH⟩
end
section
variable {w0 w w' : World} {xq fq mq dd gq mp q hp hb t n a m most : Nat} {L : List Int} {d : Gd} {root page : Int} {A : Option Addr} {cA : Nat} {P : Pa} {dirty : Bool} {e0 e1 e2 : Ent} {tv av : Value} {tk an : List Int} {l : List Th}
theorem reach_len (Q : List Pg) (root p i : Int) : (reachP Q root p i).length ≤ 512 := by
 unfold reachP; rw [List.length_map]; exact Nat.le_trans (List.length_filter_le _ _) (by simp)
set_option maxRecDepth 100000 in
set_option maxHeartbeats 16000000 in
theorem SepC.flLink0 {x0 x1 x2 : Int} (H : SepC w0 w (blkT xq 175 (wkC fq root page A cA P dirty e0 e1 e2 (tv) (av)) :: ownT (numE .i64) 3 (tv) ([x0, x1, x2]) :: ownT (numE .i64) 3 (av) (an) :: blkT fq 202 (flC gq mq q dd) :: gdT dd gq mp q hp hb t n a m most L (d) :: mapT mq L :: l)) (hp_ : i64B x0) (hc_ : i64B x1) (hlen : an.length ≤ 2000) {qq : Pg} (hq : pgAt d.s.L x1 = some qq) (hl : qq.k.lev = 1 ∨ (qq.k.lev = 2 ∧ qq.k.role = 0)) :
  Calls Tryz.prog 88 #[.pointer (some ⟨xq, 0, none⟩), .int .i64 0] w fun e w' => e = .returned (.tuple #[]) ∧ ∃ av', SepC w0 w' (blkT xq 175 (wkC fq root page A cA P dirty e0 e1 e2 (tv) (av')) :: ownT (numE .i64) 3 (tv) ([x0, x1, x2]) :: ownT (numE .i64) 3 (av') (an ++ (linkG n L d root x0 (idxI page 3) x1 (ofE e0)).2) :: blkT fq 202 (flC gq mq q dd) :: gdT dd gq mp q hp hb t n a m most L ((linkG n L d root x0 (idxI page 3) x1 (ofE e0)).1) :: mapT mq L :: l) := by
 have hI := fun w' => Idx_any page 3 w' (by omega) (by omega)
 have hO := fun w' => Of_any e0.p e0.w e0.u e0.a e0.d e0.s e0.n e0.bad e0.f w'
 have hlk : linkG n L d root x0 (idxI page 3) x1 (ofE e0) = if slotP d.s.L x0 (idxI page 3) = some ⟨1, x1, ofE e0⟩ then (d, []) else (⟨childS n (zapG n (looksF n L d x1) x0 (idxI page 3)).s x0 (idxI page 3) x1 (ofE e0), (zapG n (looksF n L d x1) x0 (idxI page 3)).T, (zapG n (looksF n L d x1) x0 (idxI page 3)).l⟩, reachP (childS n (zapG n (looksF n L d x1) x0 (idxI page 3)).s x0 (idxI page 3) x1 (ofE e0)).L root x0 (idxI page 3)) := rfl
 rw [hlk]
 clear hlk
 have hof : ofE e0 = ⟨e0.w, e0.u, !e0.n⟩ := rfl
 rw [hof]
 clear hof
 generalize (idxI page 3) = ii at *
 have ho := (H.pick 1 rfl).own
 obtain ⟨A_, c_, ev, _, _⟩ := ho.form
 have ev : tv = .slice A_ 3 c_ := ev
 subst ev
 obtain ⟨b_, off, _, eA_, _, _, _⟩ := SlN.get ho.slg (i := 0) (by omega)
 subst eA_
 clear ho
 have hld : ∀ (z : World) (l' : List Th), SepC w0 z (ownT (numE .i64) 3 (.slice (some ⟨b_, off, none⟩) 3 c_) ([x0, x1, x2]) :: l') → (z.cell? ⟨b_, off, none⟩ = some (.int .i64 x0) ∧ z.cell? ⟨b_, off + 1, none⟩ = some (.int .i64 x1) ∧ z.cell? ⟨b_, off + 2, none⟩ = some (.int .i64 x2)) := fun z l' H' => by
  have h0 : ∀ i : Nat, i < 3 → ∀ x, [x0, x1, x2][i]? = some x → z.cell? ⟨b_, off + i, none⟩ = some (.int .i64 x) := fun i hi x hx => by
   obtain ⟨b2_, o2_, y_, e2_, _, h2_, t2_⟩ := SlN.get (H'.own.slg) hi
   cases e2_
   rw [hx] at h2_; cases h2_
   exact t2_
  exact ⟨h0 0 (by omega) x0 rfl, h0 1 (by omega) x1 rfl, h0 2 (by omega) x2 rfl⟩
 have hLk := fun {z : World} {l' : List Th} (H' : SepC w0 z (blkT xq 175 (wkC fq root page A cA P dirty e0 e1 e2 (.slice (some ⟨b_, off, none⟩) 3 c_) (av)) :: ownT (numE .i64) 3 (.slice (some ⟨b_, off, none⟩) 3 c_) ([x0, x1, x2]) :: ownT (numE .i64) 3 (av) (an) :: blkT fq 202 (flC gq mq q dd) :: gdT dd gq mp q hp hb t n a m most L (d) :: mapT mq L :: l')) => H'.flLook x1 hc_ hq hl
 have H1 := H.alloc #[.pointer (some ⟨xq, 0, none⟩)] 170
 clear H hq hl
 by_cases heq : slotP d.s.L x0 ii = some ⟨1, x1, ⟨e0.w, e0.u, !e0.n⟩⟩
 ·rw [if_pos heq]
  simp only [List.append_nil]
  go_enter Tryz.func88, Tryz.ntmps88
  go_upto_region 1 with fail
  generalize w.alloc (.cells #[.pointer (some ⟨xq, 0, none⟩)] 170) = w1 at *
  generalize w.heap.size = xb at *
  go_cut [4, 5, 6] from 8 to 29 (fun pv_ tv_ iv_ wx => ∃ q1 q2 q3 : Nat, pv_ = .pointer (some ⟨q1, 0, none⟩) ∧ tv_ = .pointer (some ⟨q2, 0, none⟩) ∧ iv_ = .pointer (some ⟨q3, 0, none⟩) ∧ SepC w0 wx (blkT q3 3 #[.int .i64 ii] :: blkT q2 3 #[.int .i64 x1] :: blkT q1 3 #[.int .i64 x0] :: blkT xb 170 #[.pointer (some ⟨xq, 0, none⟩)] :: blkT xq 175 (wkC fq root page A cA P dirty e0 e1 e2 (.slice (some ⟨b_, off, none⟩) 3 c_) (av)) :: ownT (numE .i64) 3 (.slice (some ⟨b_, off, none⟩) 3 c_) ([x0, x1, x2]) :: ownT (numE .i64) 3 (av) (an) :: blkT fq 202 (flC gq mq q dd) :: gdT dd gq mp q hp hb t n a m most L (d) :: mapT mq L :: l))
  case first =>
   have wz1 : IntKind.i64.wrap 1 = 1 := by decide
   have wz2 : IntKind.i64.wrap 2 = 2 := by decide
   have wz3 : IntKind.i64.wrap 3 = 3 := by decide
   have H := H1.new (Chg.refl [] w1).drew
   clear H1
   refine wp_region_noPanic ?_
   refine wp_region_held_drew (S := (fun w' => Blk w' xb 170 #[.pointer (some ⟨xq, 0, none⟩)] ∧ Blk w' xq 175 (wkC fq root page A cA P dirty e0 e1 e2 (.slice (some ⟨b_, off, none⟩) 3 c_) av) ∧ (w'.cell? ⟨b_, off, none⟩ = some (.int .i64 x0) ∧ w'.cell? ⟨b_, off + 1, none⟩ = some (.int .i64 x1) ∧ w'.cell? ⟨b_, off + 2, none⟩ = some (.int .i64 x2)))) (by kernel_rfl) ?_ (fun hHeld => ?_)
   ·exact ⟨(H.pick 0 rfl).blk, (H.pick 1 rfl).blk, hld _ _ (H.pick 2 rfl)⟩
   generalize World.drew w1 = wd at *
   (refine tkz 0 8 ?_ ?_ ?_; rotate_left; · (intro w hSw; (try dsimp only at hSw); have c_8 := hSw.1.cell 0; simp only [qA, qZ] at c_8; go_simp; (try with_reducible rfl)))
   refine tq 1 9 _ ?_
   refine tq 2 10 _ ?_
   (refine tkz 3 11 ?_ ?_ ?_; rotate_left; · (intro w hSw; (try dsimp only at hSw); have c_ := wk38 hSw.2.1; go_simp; (try with_reducible rfl)))
   (try simp only [Act.put, qI, qO, qU])
   refine tq 4 12 _ ?_
   refine tq 5 13 _ ?_
   (refine tkz 6 14 ?_ ?_ ?_; rotate_left; · (intro w hSw; (try dsimp only at hSw); have c_9 := hSw.2.2; go_simp; (try with_reducible rfl)))
   (refine tkz 7 15 ?_ ?_ ?_; rotate_left; · (intro w hSw; (try dsimp only at hSw); have c_8 := hSw.1.cell 0; simp only [qA, qZ] at c_8; go_simp; (try with_reducible rfl)))
   (try simp only [Act.put, qI, qO, qU])
   refine tq 8 16 _ ?_
   refine tq 9 17 _ ?_
   (refine tkz 10 18 ?_ ?_ ?_; rotate_left; · (intro w hSw; (try dsimp only at hSw); have c_ := wk38 hSw.2.1; go_simp; (try with_reducible rfl)))
   refine tq 11 19 _ ?_
   (try simp only [Act.put, qI, qO, qU])
   refine tq 12 20 _ ?_
   refine tq 13 21 _ ?_
   (refine tkz 14 22 ?_ ?_ ?_; rotate_left; · (intro w hSw; (try dsimp only at hSw); have c_9 := hSw.2.2; go_simp; (try with_reducible rfl)))
   (refine tkz 15 23 ?_ ?_ ?_; rotate_left; · (intro w hSw; (try dsimp only at hSw); have c_8 := hSw.1.cell 0; simp only [qA, qZ] at c_8; go_simp; (try with_reducible rfl)))
   (try simp only [Act.put, qI, qO, qU])
   refine tq 16 24 _ ?_
   refine tq 17 25 _ ?_
   (refine tkz 18 26 ?_ ?_ ?_; rotate_left; · (intro w hSw; (try dsimp only at hSw); have c_ := wk2 hSw.2.1; go_simp; (try with_reducible rfl)))
   refine tq 19 27 _ ?_
   (try simp only [Act.put, qI, qO, qU])
   refine tq 20 28 _ ?_
   (try simp only [Act.put, qI, qO, qU])
   clear hHeld
   refine boxes3_at 21 22 23 24 25 26 27 4 5 6 29 (z4 := .int .i64 0) (z5 := .int .i64 0) (z6 := .int .i64 0) (y4 := .int .i64 x0) (y5 := .int .i64 x1) (y6 := .int .i64 ii) (xC := .int .i64 ii) (t4 := 3) (t5 := 3) (t6 := 3) rfl rfl rfl rfl rfl rfl rfl (fun _ => rfl) (fun _ => rfl) (fun _ => rfl) (fun _ => rfl) (fun _ => rfl) (fun _ => rfl) (fun _ => rfl) (by intro c x4 x5 x6 h; cases c <;> cases x4 <;> cases x5 <;> cases x6 <;> first | (cases h; done) | kernel_rfl) (by kernel_rfl) (by kernel_rfl) (by kernel_rfl) (by kernel_rfl) (fun _ => rfl) (fun _ => rfl) (fun _ => rfl)
    (by intro v_4 v_5 v_6 v_C u_ K_ hK_; (try simp only [actB, Act.put, qI, qO, qU] at hK_ ⊢); go_simp; (go_at_call 158; refine (hI _).mono ?_; rintro e u_9 ⟨rfl, y_⟩; exact hK_ _ y_.chg)) (by intro a_ u_; go_simp) (by intro a_ u_; go_simp) (by intro a_ u_; go_simp) (by intro b_9 v_8 v_7 u_ K_ hc_9 hf_9 hK_; (try simp only [actB, Act.put, qI, qO, qU] at hK_ ⊢); go_simp; exact hK_) (by intro b_9 v_8 v_7 u_ K_ hc_9 hf_9 hK_; (try simp only [actB, Act.put, qI, qO, qU] at hK_ ⊢); go_simp; exact hK_) (by intro b_9 v_8 v_7 u_ K_ hc_9 hf_9 hK_; (try simp only [actB, Act.put, qI, qO, qU] at hK_ ⊢); go_simp; exact hK_) rfl rfl rfl rfl (by decide) (by decide) H (by intro z_ HZ_; (try dsimp only); exact ⟨(HZ_.pick 0 rfl).blk, (HZ_.pick 1 rfl).blk, hld _ _ (HZ_.pick 2 rfl)⟩) (by intro b_4 b_5 b_6 u_9 HZ_; refine NoPanic.normal ?_; (try simp only [actB, Act.put, qI, qO, qU]); go_wp2_with fail; go_meet; exact ⟨_, _, _, rfl, rfl, rfl, HZ_⟩) (by kernel_rfl) (by simp only [actB, Act.put, qI, qO, qU])
  obtain ⟨q1, q2, q3, rfl, rfl, rfl, H3⟩ := hcut
  clear H1 hI hld
  have xc := (H3.pick 3 rfl).blk.cell 0
  simp only [qA, qZ] at xc
  have cE := wke0 (H3.pick 4 rfl).blk
  go_wp2_with fail
  refine (hO _).mono ?_; rintro e w5 ⟨rfl, y5⟩
  have H4 := (H3.new y5).alloc #[.bool e0.w, .bool e0.u, .bool !e0.n] 54
  clear hO H3 xc cE y5
  go_upto_region 3 with fail
  generalize w5.alloc (.cells #[.bool e0.w, .bool e0.u, .bool !e0.n] 54) = w6 at *
  generalize w5.heap.size = rb at *
  have r0_ := H4.blk.cell 0; have r1_ := H4.blk.cell 1; have r2_ := H4.blk.cell 2; have i0_ := (H4.pick 1 rfl).blk.cell 0; have t0_ := (H4.pick 2 rfl).blk.cell 0; have p0_ := (H4.pick 3 rfl).blk.cell 0; have xc := (H4.pick 4 rfl).blk.cell 0
  simp only [qA, qZ, qS] at r0_ r1_ r2_ i0_ t0_ p0_ xc
  have H5 := (((((((((((H4.pick 0 rfl).pick 1 rfl).pick 3 rfl).pick 3 rfl).pick 4 rfl).pick 10 rfl).pick 10 rfl).pick 10 rfl).pick 10 rfl).pick 10 rfl).pick 10 rfl)
  clear H4
  have hN := SepC.flLayNo 160 xb q2 q1 q3 rb H5 x0 ii ⟨1, x1, ⟨e0.w, e0.u, !e0.n⟩⟩ (by show (1 : Int) ≠ 0; decide) hp_ heq
  simp only [Slt.cl] at hN
  clear hLk
  go_wp2_with fail
  refine hN.mono ?_; rintro e w9 ⟨rfl, H9⟩
  clear hN H5
  go_wp2_with fail
  go_end0
  exact ⟨rfl, av, ((((((((((H9.pick 6 rfl).tail).pick 6 rfl).tail).pick 6 rfl).tail).pick 6 rfl).tail).pick 6 rfl).tail)⟩
 rw [if_neg heq]
 go_enter Tryz.func88, Tryz.ntmps88
 go_upto_region 1 with fail
 generalize w.alloc (.cells #[.pointer (some ⟨xq, 0, none⟩)] 170) = w1 at *
 generalize w.heap.size = xb at *
 go_cut [4, 5, 6] from 8 to 29 (fun pv_ tv_ iv_ wx => ∃ q1 q2 q3 : Nat, pv_ = .pointer (some ⟨q1, 0, none⟩) ∧ tv_ = .pointer (some ⟨q2, 0, none⟩) ∧ iv_ = .pointer (some ⟨q3, 0, none⟩) ∧ SepC w0 wx (blkT q3 3 #[.int .i64 ii] :: blkT q2 3 #[.int .i64 x1] :: blkT q1 3 #[.int .i64 x0] :: blkT xb 170 #[.pointer (some ⟨xq, 0, none⟩)] :: blkT xq 175 (wkC fq root page A cA P dirty e0 e1 e2 (.slice (some ⟨b_, off, none⟩) 3 c_) (av)) :: ownT (numE .i64) 3 (.slice (some ⟨b_, off, none⟩) 3 c_) ([x0, x1, x2]) :: ownT (numE .i64) 3 (av) (an) :: blkT fq 202 (flC gq mq q dd) :: gdT dd gq mp q hp hb t n a m most L (d) :: mapT mq L :: l))
 case first =>
  have wz1 : IntKind.i64.wrap 1 = 1 := by decide
  have wz2 : IntKind.i64.wrap 2 = 2 := by decide
  have wz3 : IntKind.i64.wrap 3 = 3 := by decide
  have H := H1.new (Chg.refl [] w1).drew
  clear H1
  refine wp_region_noPanic ?_
  refine wp_region_held_drew (S := (fun w' => Blk w' xb 170 #[.pointer (some ⟨xq, 0, none⟩)] ∧ Blk w' xq 175 (wkC fq root page A cA P dirty e0 e1 e2 (.slice (some ⟨b_, off, none⟩) 3 c_) av) ∧ (w'.cell? ⟨b_, off, none⟩ = some (.int .i64 x0) ∧ w'.cell? ⟨b_, off + 1, none⟩ = some (.int .i64 x1) ∧ w'.cell? ⟨b_, off + 2, none⟩ = some (.int .i64 x2)))) (by kernel_rfl) ?_ (fun hHeld => ?_)
  ·exact ⟨(H.pick 0 rfl).blk, (H.pick 1 rfl).blk, hld _ _ (H.pick 2 rfl)⟩
  generalize World.drew w1 = wd at *
  (refine tkz 0 8 ?_ ?_ ?_; rotate_left; · (intro w hSw; (try dsimp only at hSw); have c_8 := hSw.1.cell 0; simp only [qA, qZ] at c_8; go_simp; (try with_reducible rfl)))
  refine tq 1 9 _ ?_
  refine tq 2 10 _ ?_
  (refine tkz 3 11 ?_ ?_ ?_; rotate_left; · (intro w hSw; (try dsimp only at hSw); have c_ := wk38 hSw.2.1; go_simp; (try with_reducible rfl)))
  (try simp only [Act.put, qI, qO, qU])
  refine tq 4 12 _ ?_
  refine tq 5 13 _ ?_
  (refine tkz 6 14 ?_ ?_ ?_; rotate_left; · (intro w hSw; (try dsimp only at hSw); have c_9 := hSw.2.2; go_simp; (try with_reducible rfl)))
  (refine tkz 7 15 ?_ ?_ ?_; rotate_left; · (intro w hSw; (try dsimp only at hSw); have c_8 := hSw.1.cell 0; simp only [qA, qZ] at c_8; go_simp; (try with_reducible rfl)))
  (try simp only [Act.put, qI, qO, qU])
  refine tq 8 16 _ ?_
  refine tq 9 17 _ ?_
  (refine tkz 10 18 ?_ ?_ ?_; rotate_left; · (intro w hSw; (try dsimp only at hSw); have c_ := wk38 hSw.2.1; go_simp; (try with_reducible rfl)))
  refine tq 11 19 _ ?_
  (try simp only [Act.put, qI, qO, qU])
  refine tq 12 20 _ ?_
  refine tq 13 21 _ ?_
  (refine tkz 14 22 ?_ ?_ ?_; rotate_left; · (intro w hSw; (try dsimp only at hSw); have c_9 := hSw.2.2; go_simp; (try with_reducible rfl)))
  (refine tkz 15 23 ?_ ?_ ?_; rotate_left; · (intro w hSw; (try dsimp only at hSw); have c_8 := hSw.1.cell 0; simp only [qA, qZ] at c_8; go_simp; (try with_reducible rfl)))
  (try simp only [Act.put, qI, qO, qU])
  refine tq 16 24 _ ?_
  refine tq 17 25 _ ?_
  (refine tkz 18 26 ?_ ?_ ?_; rotate_left; · (intro w hSw; (try dsimp only at hSw); have c_ := wk2 hSw.2.1; go_simp; (try with_reducible rfl)))
  refine tq 19 27 _ ?_
  (try simp only [Act.put, qI, qO, qU])
  refine tq 20 28 _ ?_
  (try simp only [Act.put, qI, qO, qU])
  clear hHeld
  refine boxes3_at 21 22 23 24 25 26 27 4 5 6 29 (z4 := .int .i64 0) (z5 := .int .i64 0) (z6 := .int .i64 0) (y4 := .int .i64 x0) (y5 := .int .i64 x1) (y6 := .int .i64 ii) (xC := .int .i64 ii) (t4 := 3) (t5 := 3) (t6 := 3) rfl rfl rfl rfl rfl rfl rfl (fun _ => rfl) (fun _ => rfl) (fun _ => rfl) (fun _ => rfl) (fun _ => rfl) (fun _ => rfl) (fun _ => rfl) (by intro c x4 x5 x6 h; cases c <;> cases x4 <;> cases x5 <;> cases x6 <;> first | (cases h; done) | kernel_rfl) (by kernel_rfl) (by kernel_rfl) (by kernel_rfl) (by kernel_rfl) (fun _ => rfl) (fun _ => rfl) (fun _ => rfl)
   (by intro v_4 v_5 v_6 v_C u_ K_ hK_; (try simp only [actB, Act.put, qI, qO, qU] at hK_ ⊢); go_simp; (go_at_call 158; refine (hI _).mono ?_; rintro e u_9 ⟨rfl, y_⟩; exact hK_ _ y_.chg)) (by intro a_ u_; go_simp) (by intro a_ u_; go_simp) (by intro a_ u_; go_simp) (by intro b_9 v_8 v_7 u_ K_ hc_9 hf_9 hK_; (try simp only [actB, Act.put, qI, qO, qU] at hK_ ⊢); go_simp; exact hK_) (by intro b_9 v_8 v_7 u_ K_ hc_9 hf_9 hK_; (try simp only [actB, Act.put, qI, qO, qU] at hK_ ⊢); go_simp; exact hK_) (by intro b_9 v_8 v_7 u_ K_ hc_9 hf_9 hK_; (try simp only [actB, Act.put, qI, qO, qU] at hK_ ⊢); go_simp; exact hK_) rfl rfl rfl rfl (by decide) (by decide) H (by intro z_ HZ_; (try dsimp only); exact ⟨(HZ_.pick 0 rfl).blk, (HZ_.pick 1 rfl).blk, hld _ _ (HZ_.pick 2 rfl)⟩) (by intro b_4 b_5 b_6 u_9 HZ_; refine NoPanic.normal ?_; (try simp only [actB, Act.put, qI, qO, qU]); go_wp2_with fail; go_meet; exact ⟨_, _, _, rfl, rfl, rfl, HZ_⟩) (by kernel_rfl) (by simp only [actB, Act.put, qI, qO, qU])
 obtain ⟨q1, q2, q3, rfl, rfl, rfl, H3⟩ := hcut
 clear H1 hI hld
 have xc := (H3.pick 3 rfl).blk.cell 0
 simp only [qA, qZ] at xc
 have cE := wke0 (H3.pick 4 rfl).blk
 go_wp2_with fail
 refine (hO _).mono ?_; rintro e w5 ⟨rfl, y5⟩
 have H4 := (H3.new y5).alloc #[.bool e0.w, .bool e0.u, .bool !e0.n] 54
 clear hO H3 xc cE y5
 go_upto_region 3 with fail
 generalize w5.alloc (.cells #[.bool e0.w, .bool e0.u, .bool !e0.n] 54) = w6 at *
 generalize w5.heap.size = rb at *
 have r0_ := H4.blk.cell 0; have r1_ := H4.blk.cell 1; have r2_ := H4.blk.cell 2; have i0_ := (H4.pick 1 rfl).blk.cell 0; have t0_ := (H4.pick 2 rfl).blk.cell 0; have p0_ := (H4.pick 3 rfl).blk.cell 0; have xc := (H4.pick 4 rfl).blk.cell 0
 simp only [qA, qZ, qS] at r0_ r1_ r2_ i0_ t0_ p0_ xc
 have H5 := (((((((((((H4.pick 0 rfl).pick 1 rfl).pick 3 rfl).pick 3 rfl).pick 4 rfl).pick 10 rfl).pick 10 rfl).pick 10 rfl).pick 10 rfl).pick 10 rfl).pick 10 rfl)
 clear H4
 have hY := SepC.flLayYes 160 (enters_of Tryz.func160 (by kernel_rfl) rfl) xb q2 q1 q3 rb H5 x0 ii ⟨1, x1, ⟨e0.w, e0.u, !e0.n⟩⟩ (by show (1 : Int) ≠ 0; decide) hp_ heq (Nat.le_trans (Nat.add_le_add hlen (reach_len _ _ _ _)) (by decide)) (fun H' => H'.flLinkDo hp_ hc_ (fun H2 => hLk H2))
 simp only [Slt.cl] at hY
 clear hLk
 go_wp2_with fail
 refine hY.mono ?_; rintro e w9 ⟨rfl, av', H9⟩
 clear hY H5
 go_wp2_with fail
 go_end0
 exact ⟨rfl, av', ((((((((((H9.pick 6 rfl).tail).pick 6 rfl).tail).pick 6 rfl).tail).pick 6 rfl).tail).pick 6 rfl).tail)⟩
end
section
variable {w0 w w' : World} {xq fq mq dd gq mp q hp hb t n a m most : Nat} {L : List Int} {d : Gd} {root page : Int} {A : Option Addr} {cA : Nat} {P : Pa} {dirty : Bool} {e0 e1 e2 : Ent} {tv av : Value} {tk an : List Int} {l : List Th}
set_option maxRecDepth 100000 in
set_option maxHeartbeats 16000000 in
theorem SepC.flLink1 {x0 x1 x2 : Int} (H : SepC w0 w (blkT xq 175 (wkC fq root page A cA P dirty e0 e1 e2 (tv) (av)) :: ownT (numE .i64) 3 (tv) ([x0, x1, x2]) :: ownT (numE .i64) 3 (av) (an) :: blkT fq 202 (flC gq mq q dd) :: gdT dd gq mp q hp hb t n a m most L (d) :: mapT mq L :: l)) (hp_ : i64B x1) (hc_ : i64B x2) (hlen : an.length ≤ 2000) {qq : Pg} (hq : pgAt d.s.L x2 = some qq) (hl : qq.k.lev = 1 ∨ (qq.k.lev = 2 ∧ qq.k.role = 0)) :
  Calls Tryz.prog 88 #[.pointer (some ⟨xq, 0, none⟩), .int .i64 1] w fun e w' => e = .returned (.tuple #[]) ∧ ∃ av', SepC w0 w' (blkT xq 175 (wkC fq root page A cA P dirty e0 e1 e2 (tv) (av')) :: ownT (numE .i64) 3 (tv) ([x0, x1, x2]) :: ownT (numE .i64) 3 (av') (an ++ (linkG n L d root x1 (idxI page 2) x2 (ofE e1)).2) :: blkT fq 202 (flC gq mq q dd) :: gdT dd gq mp q hp hb t n a m most L ((linkG n L d root x1 (idxI page 2) x2 (ofE e1)).1) :: mapT mq L :: l) := by
 have hI := fun w' => Idx_any page 2 w' (by omega) (by omega)
 have hO := fun w' => Of_any e1.p e1.w e1.u e1.a e1.d e1.s e1.n e1.bad e1.f w'
 have hlk : linkG n L d root x1 (idxI page 2) x2 (ofE e1) = if slotP d.s.L x1 (idxI page 2) = some ⟨1, x2, ofE e1⟩ then (d, []) else (⟨childS n (zapG n (looksF n L d x2) x1 (idxI page 2)).s x1 (idxI page 2) x2 (ofE e1), (zapG n (looksF n L d x2) x1 (idxI page 2)).T, (zapG n (looksF n L d x2) x1 (idxI page 2)).l⟩, reachP (childS n (zapG n (looksF n L d x2) x1 (idxI page 2)).s x1 (idxI page 2) x2 (ofE e1)).L root x1 (idxI page 2)) := rfl
 rw [hlk]
 clear hlk
 have hof : ofE e1 = ⟨e1.w, e1.u, !e1.n⟩ := rfl
 rw [hof]
 clear hof
 generalize (idxI page 2) = ii at *
 have ho := (H.pick 1 rfl).own
 obtain ⟨A_, c_, ev, _, _⟩ := ho.form
 have ev : tv = .slice A_ 3 c_ := ev
 subst ev
 obtain ⟨b_, off, _, eA_, _, _, _⟩ := SlN.get ho.slg (i := 0) (by omega)
 subst eA_
 clear ho
 have hld : ∀ (z : World) (l' : List Th), SepC w0 z (ownT (numE .i64) 3 (.slice (some ⟨b_, off, none⟩) 3 c_) ([x0, x1, x2]) :: l') → (z.cell? ⟨b_, off, none⟩ = some (.int .i64 x0) ∧ z.cell? ⟨b_, off + 1, none⟩ = some (.int .i64 x1) ∧ z.cell? ⟨b_, off + 2, none⟩ = some (.int .i64 x2)) := fun z l' H' => by
  have h0 : ∀ i : Nat, i < 3 → ∀ x, [x0, x1, x2][i]? = some x → z.cell? ⟨b_, off + i, none⟩ = some (.int .i64 x) := fun i hi x hx => by
   obtain ⟨b2_, o2_, y_, e2_, _, h2_, t2_⟩ := SlN.get (H'.own.slg) hi
   cases e2_
   rw [hx] at h2_; cases h2_
   exact t2_
  exact ⟨h0 0 (by omega) x0 rfl, h0 1 (by omega) x1 rfl, h0 2 (by omega) x2 rfl⟩
 have hLk := fun {z : World} {l' : List Th} (H' : SepC w0 z (blkT xq 175 (wkC fq root page A cA P dirty e0 e1 e2 (.slice (some ⟨b_, off, none⟩) 3 c_) (av)) :: ownT (numE .i64) 3 (.slice (some ⟨b_, off, none⟩) 3 c_) ([x0, x1, x2]) :: ownT (numE .i64) 3 (av) (an) :: blkT fq 202 (flC gq mq q dd) :: gdT dd gq mp q hp hb t n a m most L (d) :: mapT mq L :: l')) => H'.flLook x2 hc_ hq hl
 have H1 := H.alloc #[.pointer (some ⟨xq, 0, none⟩)] 170
 clear H hq hl
 by_cases heq : slotP d.s.L x1 ii = some ⟨1, x2, ⟨e1.w, e1.u, !e1.n⟩⟩
 ·rw [if_pos heq]
  simp only [List.append_nil]
  go_enter Tryz.func88, Tryz.ntmps88
  go_upto_region 1 with fail
  generalize w.alloc (.cells #[.pointer (some ⟨xq, 0, none⟩)] 170) = w1 at *
  generalize w.heap.size = xb at *
  go_cut [4, 5, 6] from 8 to 29 (fun pv_ tv_ iv_ wx => ∃ q1 q2 q3 : Nat, pv_ = .pointer (some ⟨q1, 0, none⟩) ∧ tv_ = .pointer (some ⟨q2, 0, none⟩) ∧ iv_ = .pointer (some ⟨q3, 0, none⟩) ∧ SepC w0 wx (blkT q3 3 #[.int .i64 ii] :: blkT q2 3 #[.int .i64 x2] :: blkT q1 3 #[.int .i64 x1] :: blkT xb 170 #[.pointer (some ⟨xq, 0, none⟩)] :: blkT xq 175 (wkC fq root page A cA P dirty e0 e1 e2 (.slice (some ⟨b_, off, none⟩) 3 c_) (av)) :: ownT (numE .i64) 3 (.slice (some ⟨b_, off, none⟩) 3 c_) ([x0, x1, x2]) :: ownT (numE .i64) 3 (av) (an) :: blkT fq 202 (flC gq mq q dd) :: gdT dd gq mp q hp hb t n a m most L (d) :: mapT mq L :: l))
  case first =>
   have wz1 : IntKind.i64.wrap 1 = 1 := by decide
   have wz2 : IntKind.i64.wrap 2 = 2 := by decide
   have wz3 : IntKind.i64.wrap 3 = 3 := by decide
   have H := H1.new (Chg.refl [] w1).drew
   clear H1
   refine wp_region_noPanic ?_
   refine wp_region_held_drew (S := (fun w' => Blk w' xb 170 #[.pointer (some ⟨xq, 0, none⟩)] ∧ Blk w' xq 175 (wkC fq root page A cA P dirty e0 e1 e2 (.slice (some ⟨b_, off, none⟩) 3 c_) av) ∧ (w'.cell? ⟨b_, off, none⟩ = some (.int .i64 x0) ∧ w'.cell? ⟨b_, off + 1, none⟩ = some (.int .i64 x1) ∧ w'.cell? ⟨b_, off + 2, none⟩ = some (.int .i64 x2)))) (by kernel_rfl) ?_ (fun hHeld => ?_)
   ·exact ⟨(H.pick 0 rfl).blk, (H.pick 1 rfl).blk, hld _ _ (H.pick 2 rfl)⟩
   generalize World.drew w1 = wd at *
   (refine tkz 0 8 ?_ ?_ ?_; rotate_left; · (intro w hSw; (try dsimp only at hSw); have c_8 := hSw.1.cell 0; simp only [qA, qZ] at c_8; go_simp; (try with_reducible rfl)))
   refine tq 1 9 _ ?_
   refine tq 2 10 _ ?_
   (refine tkz 3 11 ?_ ?_ ?_; rotate_left; · (intro w hSw; (try dsimp only at hSw); have c_ := wk38 hSw.2.1; go_simp; (try with_reducible rfl)))
   (try simp only [Act.put, qI, qO, qU])
   refine tq 4 12 _ ?_
   refine tq 5 13 _ ?_
   (refine tkz 6 14 ?_ ?_ ?_; rotate_left; · (intro w hSw; (try dsimp only at hSw); have c_9 := hSw.2.2; go_simp; (try with_reducible rfl)))
   (refine tkz 7 15 ?_ ?_ ?_; rotate_left; · (intro w hSw; (try dsimp only at hSw); have c_8 := hSw.1.cell 0; simp only [qA, qZ] at c_8; go_simp; (try with_reducible rfl)))
   (try simp only [Act.put, qI, qO, qU])
   refine tq 8 16 _ ?_
   refine tq 9 17 _ ?_
   (refine tkz 10 18 ?_ ?_ ?_; rotate_left; · (intro w hSw; (try dsimp only at hSw); have c_ := wk38 hSw.2.1; go_simp; (try with_reducible rfl)))
   refine tq 11 19 _ ?_
   (try simp only [Act.put, qI, qO, qU])
   refine tq 12 20 _ ?_
   refine tq 13 21 _ ?_
   (refine tkz 14 22 ?_ ?_ ?_; rotate_left; · (intro w hSw; (try dsimp only at hSw); have c_9 := hSw.2.2; go_simp; (try with_reducible rfl)))
   (refine tkz 15 23 ?_ ?_ ?_; rotate_left; · (intro w hSw; (try dsimp only at hSw); have c_8 := hSw.1.cell 0; simp only [qA, qZ] at c_8; go_simp; (try with_reducible rfl)))
   (try simp only [Act.put, qI, qO, qU])
   refine tq 16 24 _ ?_
   refine tq 17 25 _ ?_
   (refine tkz 18 26 ?_ ?_ ?_; rotate_left; · (intro w hSw; (try dsimp only at hSw); have c_ := wk2 hSw.2.1; go_simp; (try with_reducible rfl)))
   refine tq 19 27 _ ?_
   (try simp only [Act.put, qI, qO, qU])
   refine tq 20 28 _ ?_
   (try simp only [Act.put, qI, qO, qU])
   clear hHeld
   refine boxes3_at 21 22 23 24 25 26 27 4 5 6 29 (z4 := .int .i64 0) (z5 := .int .i64 0) (z6 := .int .i64 0) (y4 := .int .i64 x1) (y5 := .int .i64 x2) (y6 := .int .i64 ii) (xC := .int .i64 ii) (t4 := 3) (t5 := 3) (t6 := 3) rfl rfl rfl rfl rfl rfl rfl (fun _ => rfl) (fun _ => rfl) (fun _ => rfl) (fun _ => rfl) (fun _ => rfl) (fun _ => rfl) (fun _ => rfl) (by intro c x4 x5 x6 h; cases c <;> cases x4 <;> cases x5 <;> cases x6 <;> first | (cases h; done) | kernel_rfl) (by kernel_rfl) (by kernel_rfl) (by kernel_rfl) (by kernel_rfl) (fun _ => rfl) (fun _ => rfl) (fun _ => rfl)
    (by intro v_4 v_5 v_6 v_C u_ K_ hK_; (try simp only [actB, Act.put, qI, qO, qU] at hK_ ⊢); go_simp; (go_at_call 158; refine (hI _).mono ?_; rintro e u_9 ⟨rfl, y_⟩; exact hK_ _ y_.chg)) (by intro a_ u_; go_simp) (by intro a_ u_; go_simp) (by intro a_ u_; go_simp) (by intro b_9 v_8 v_7 u_ K_ hc_9 hf_9 hK_; (try simp only [actB, Act.put, qI, qO, qU] at hK_ ⊢); go_simp; exact hK_) (by intro b_9 v_8 v_7 u_ K_ hc_9 hf_9 hK_; (try simp only [actB, Act.put, qI, qO, qU] at hK_ ⊢); go_simp; exact hK_) (by intro b_9 v_8 v_7 u_ K_ hc_9 hf_9 hK_; (try simp only [actB, Act.put, qI, qO, qU] at hK_ ⊢); go_simp; exact hK_) rfl rfl rfl rfl (by decide) (by decide) H (by intro z_ HZ_; (try dsimp only); exact ⟨(HZ_.pick 0 rfl).blk, (HZ_.pick 1 rfl).blk, hld _ _ (HZ_.pick 2 rfl)⟩) (by intro b_4 b_5 b_6 u_9 HZ_; refine NoPanic.normal ?_; (try simp only [actB, Act.put, qI, qO, qU]); go_wp2_with fail; go_meet; exact ⟨_, _, _, rfl, rfl, rfl, HZ_⟩) (by kernel_rfl) (by simp only [actB, Act.put, qI, qO, qU])
  obtain ⟨q1, q2, q3, rfl, rfl, rfl, H3⟩ := hcut
  clear H1 hI hld
  have xc := (H3.pick 3 rfl).blk.cell 0
  simp only [qA, qZ] at xc
  have cE := wke1 (H3.pick 4 rfl).blk
  go_wp2_with fail
  refine (hO _).mono ?_; rintro e w5 ⟨rfl, y5⟩
  have H4 := (H3.new y5).alloc #[.bool e1.w, .bool e1.u, .bool !e1.n] 54
  clear hO H3 xc cE y5
  go_upto_region 3 with fail
  generalize w5.alloc (.cells #[.bool e1.w, .bool e1.u, .bool !e1.n] 54) = w6 at *
  generalize w5.heap.size = rb at *
  have r0_ := H4.blk.cell 0; have r1_ := H4.blk.cell 1; have r2_ := H4.blk.cell 2; have i0_ := (H4.pick 1 rfl).blk.cell 0; have t0_ := (H4.pick 2 rfl).blk.cell 0; have p0_ := (H4.pick 3 rfl).blk.cell 0; have xc := (H4.pick 4 rfl).blk.cell 0
  simp only [qA, qZ, qS] at r0_ r1_ r2_ i0_ t0_ p0_ xc
  have H5 := (((((((((((H4.pick 0 rfl).pick 1 rfl).pick 3 rfl).pick 3 rfl).pick 4 rfl).pick 10 rfl).pick 10 rfl).pick 10 rfl).pick 10 rfl).pick 10 rfl).pick 10 rfl)
  clear H4
  have hN := SepC.flLayNo 160 xb q2 q1 q3 rb H5 x1 ii ⟨1, x2, ⟨e1.w, e1.u, !e1.n⟩⟩ (by show (1 : Int) ≠ 0; decide) hp_ heq
  simp only [Slt.cl] at hN
  clear hLk
  go_wp2_with fail
  refine hN.mono ?_; rintro e w9 ⟨rfl, H9⟩
  clear hN H5
  go_wp2_with fail
  go_end0
  exact ⟨rfl, av, ((((((((((H9.pick 6 rfl).tail).pick 6 rfl).tail).pick 6 rfl).tail).pick 6 rfl).tail).pick 6 rfl).tail)⟩
 rw [if_neg heq]
 go_enter Tryz.func88, Tryz.ntmps88
 go_upto_region 1 with fail
 generalize w.alloc (.cells #[.pointer (some ⟨xq, 0, none⟩)] 170) = w1 at *
 generalize w.heap.size = xb at *
 go_cut [4, 5, 6] from 8 to 29 (fun pv_ tv_ iv_ wx => ∃ q1 q2 q3 : Nat, pv_ = .pointer (some ⟨q1, 0, none⟩) ∧ tv_ = .pointer (some ⟨q2, 0, none⟩) ∧ iv_ = .pointer (some ⟨q3, 0, none⟩) ∧ SepC w0 wx (blkT q3 3 #[.int .i64 ii] :: blkT q2 3 #[.int .i64 x2] :: blkT q1 3 #[.int .i64 x1] :: blkT xb 170 #[.pointer (some ⟨xq, 0, none⟩)] :: blkT xq 175 (wkC fq root page A cA P dirty e0 e1 e2 (.slice (some ⟨b_, off, none⟩) 3 c_) (av)) :: ownT (numE .i64) 3 (.slice (some ⟨b_, off, none⟩) 3 c_) ([x0, x1, x2]) :: ownT (numE .i64) 3 (av) (an) :: blkT fq 202 (flC gq mq q dd) :: gdT dd gq mp q hp hb t n a m most L (d) :: mapT mq L :: l))
 case first =>
  have wz1 : IntKind.i64.wrap 1 = 1 := by decide
  have wz2 : IntKind.i64.wrap 2 = 2 := by decide
  have wz3 : IntKind.i64.wrap 3 = 3 := by decide
  have H := H1.new (Chg.refl [] w1).drew
  clear H1
  refine wp_region_noPanic ?_
  refine wp_region_held_drew (S := (fun w' => Blk w' xb 170 #[.pointer (some ⟨xq, 0, none⟩)] ∧ Blk w' xq 175 (wkC fq root page A cA P dirty e0 e1 e2 (.slice (some ⟨b_, off, none⟩) 3 c_) av) ∧ (w'.cell? ⟨b_, off, none⟩ = some (.int .i64 x0) ∧ w'.cell? ⟨b_, off + 1, none⟩ = some (.int .i64 x1) ∧ w'.cell? ⟨b_, off + 2, none⟩ = some (.int .i64 x2)))) (by kernel_rfl) ?_ (fun hHeld => ?_)
  ·exact ⟨(H.pick 0 rfl).blk, (H.pick 1 rfl).blk, hld _ _ (H.pick 2 rfl)⟩
  generalize World.drew w1 = wd at *
  (refine tkz 0 8 ?_ ?_ ?_; rotate_left; · (intro w hSw; (try dsimp only at hSw); have c_8 := hSw.1.cell 0; simp only [qA, qZ] at c_8; go_simp; (try with_reducible rfl)))
  refine tq 1 9 _ ?_
  refine tq 2 10 _ ?_
  (refine tkz 3 11 ?_ ?_ ?_; rotate_left; · (intro w hSw; (try dsimp only at hSw); have c_ := wk38 hSw.2.1; go_simp; (try with_reducible rfl)))
  (try simp only [Act.put, qI, qO, qU])
  refine tq 4 12 _ ?_
  refine tq 5 13 _ ?_
  (refine tkz 6 14 ?_ ?_ ?_; rotate_left; · (intro w hSw; (try dsimp only at hSw); have c_9 := hSw.2.2; go_simp; (try with_reducible rfl)))
  (refine tkz 7 15 ?_ ?_ ?_; rotate_left; · (intro w hSw; (try dsimp only at hSw); have c_8 := hSw.1.cell 0; simp only [qA, qZ] at c_8; go_simp; (try with_reducible rfl)))
  (try simp only [Act.put, qI, qO, qU])
  refine tq 8 16 _ ?_
  refine tq 9 17 _ ?_
  (refine tkz 10 18 ?_ ?_ ?_; rotate_left; · (intro w hSw; (try dsimp only at hSw); have c_ := wk38 hSw.2.1; go_simp; (try with_reducible rfl)))
  refine tq 11 19 _ ?_
  (try simp only [Act.put, qI, qO, qU])
  refine tq 12 20 _ ?_
  refine tq 13 21 _ ?_
  (refine tkz 14 22 ?_ ?_ ?_; rotate_left; · (intro w hSw; (try dsimp only at hSw); have c_9 := hSw.2.2; go_simp; (try with_reducible rfl)))
  (refine tkz 15 23 ?_ ?_ ?_; rotate_left; · (intro w hSw; (try dsimp only at hSw); have c_8 := hSw.1.cell 0; simp only [qA, qZ] at c_8; go_simp; (try with_reducible rfl)))
  (try simp only [Act.put, qI, qO, qU])
  refine tq 16 24 _ ?_
  refine tq 17 25 _ ?_
  (refine tkz 18 26 ?_ ?_ ?_; rotate_left; · (intro w hSw; (try dsimp only at hSw); have c_ := wk2 hSw.2.1; go_simp; (try with_reducible rfl)))
  refine tq 19 27 _ ?_
  (try simp only [Act.put, qI, qO, qU])
  refine tq 20 28 _ ?_
  (try simp only [Act.put, qI, qO, qU])
  clear hHeld
  refine boxes3_at 21 22 23 24 25 26 27 4 5 6 29 (z4 := .int .i64 0) (z5 := .int .i64 0) (z6 := .int .i64 0) (y4 := .int .i64 x1) (y5 := .int .i64 x2) (y6 := .int .i64 ii) (xC := .int .i64 ii) (t4 := 3) (t5 := 3) (t6 := 3) rfl rfl rfl rfl rfl rfl rfl (fun _ => rfl) (fun _ => rfl) (fun _ => rfl) (fun _ => rfl) (fun _ => rfl) (fun _ => rfl) (fun _ => rfl) (by intro c x4 x5 x6 h; cases c <;> cases x4 <;> cases x5 <;> cases x6 <;> first | (cases h; done) | kernel_rfl) (by kernel_rfl) (by kernel_rfl) (by kernel_rfl) (by kernel_rfl) (fun _ => rfl) (fun _ => rfl) (fun _ => rfl)
   (by intro v_4 v_5 v_6 v_C u_ K_ hK_; (try simp only [actB, Act.put, qI, qO, qU] at hK_ ⊢); go_simp; (go_at_call 158; refine (hI _).mono ?_; rintro e u_9 ⟨rfl, y_⟩; exact hK_ _ y_.chg)) (by intro a_ u_; go_simp) (by intro a_ u_; go_simp) (by intro a_ u_; go_simp) (by intro b_9 v_8 v_7 u_ K_ hc_9 hf_9 hK_; (try simp only [actB, Act.put, qI, qO, qU] at hK_ ⊢); go_simp; exact hK_) (by intro b_9 v_8 v_7 u_ K_ hc_9 hf_9 hK_; (try simp only [actB, Act.put, qI, qO, qU] at hK_ ⊢); go_simp; exact hK_) (by intro b_9 v_8 v_7 u_ K_ hc_9 hf_9 hK_; (try simp only [actB, Act.put, qI, qO, qU] at hK_ ⊢); go_simp; exact hK_) rfl rfl rfl rfl (by decide) (by decide) H (by intro z_ HZ_; (try dsimp only); exact ⟨(HZ_.pick 0 rfl).blk, (HZ_.pick 1 rfl).blk, hld _ _ (HZ_.pick 2 rfl)⟩) (by intro b_4 b_5 b_6 u_9 HZ_; refine NoPanic.normal ?_; (try simp only [actB, Act.put, qI, qO, qU]); go_wp2_with fail; go_meet; exact ⟨_, _, _, rfl, rfl, rfl, HZ_⟩) (by kernel_rfl) (by simp only [actB, Act.put, qI, qO, qU])
 obtain ⟨q1, q2, q3, rfl, rfl, rfl, H3⟩ := hcut
 clear H1 hI hld
 have xc := (H3.pick 3 rfl).blk.cell 0
 simp only [qA, qZ] at xc
 have cE := wke1 (H3.pick 4 rfl).blk
 go_wp2_with fail
 refine (hO _).mono ?_; rintro e w5 ⟨rfl, y5⟩
 have H4 := (H3.new y5).alloc #[.bool e1.w, .bool e1.u, .bool !e1.n] 54
 clear hO H3 xc cE y5
 go_upto_region 3 with fail
 generalize w5.alloc (.cells #[.bool e1.w, .bool e1.u, .bool !e1.n] 54) = w6 at *
 generalize w5.heap.size = rb at *
 have r0_ := H4.blk.cell 0; have r1_ := H4.blk.cell 1; have r2_ := H4.blk.cell 2; have i0_ := (H4.pick 1 rfl).blk.cell 0; have t0_ := (H4.pick 2 rfl).blk.cell 0; have p0_ := (H4.pick 3 rfl).blk.cell 0; have xc := (H4.pick 4 rfl).blk.cell 0
 simp only [qA, qZ, qS] at r0_ r1_ r2_ i0_ t0_ p0_ xc
 have H5 := (((((((((((H4.pick 0 rfl).pick 1 rfl).pick 3 rfl).pick 3 rfl).pick 4 rfl).pick 10 rfl).pick 10 rfl).pick 10 rfl).pick 10 rfl).pick 10 rfl).pick 10 rfl)
 clear H4
 have hY := SepC.flLayYes 160 (enters_of Tryz.func160 (by kernel_rfl) rfl) xb q2 q1 q3 rb H5 x1 ii ⟨1, x2, ⟨e1.w, e1.u, !e1.n⟩⟩ (by show (1 : Int) ≠ 0; decide) hp_ heq (Nat.le_trans (Nat.add_le_add hlen (reach_len _ _ _ _)) (by decide)) (fun H' => H'.flLinkDo hp_ hc_ (fun H2 => hLk H2))
 simp only [Slt.cl] at hY
 clear hLk
 go_wp2_with fail
 refine hY.mono ?_; rintro e w9 ⟨rfl, av', H9⟩
 clear hY H5
 go_wp2_with fail
 go_end0
 exact ⟨rfl, av', ((((((((((H9.pick 6 rfl).tail).pick 6 rfl).tail).pick 6 rfl).tail).pick 6 rfl).tail).pick 6 rfl).tail)⟩
end
section
variable {w0 w w' : World} {xq fq mq dd gq mp q hp hb t n a m most : Nat} {L : List Int} {d : Gd} {root page : Int} {A : Option Addr} {cA : Nat} {P : Pa} {dirty : Bool} {e0 e1 e2 : Ent} {tv av : Value} {tk an : List Int} {l : List Th}
set_option maxRecDepth 100000 in
set_option maxHeartbeats 16000000 in
theorem SepC.flLeaf {x0 x1 x2 : Int} (H : SepC w0 w (blkT xq 175 (wkC fq root page A cA P dirty e0 e1 e2 (tv) (av)) :: ownT (numE .i64) 3 (tv) ([x0, x1, x2]) :: ownT (numE .i64) 3 (av) (an) :: blkT fq 202 (flC gq mq q dd) :: gdT dd gq mp q hp hb t n a m most L (d) :: mapT mq L :: l)) (hp_ : i64B x2) (hlen : an.length ≤ 2000) :
  Calls Tryz.prog 89 #[.pointer (some ⟨xq, 0, none⟩)] w fun e w' => e = .returned (.tuple #[]) ∧ ∃ av', SepC w0 w' (blkT xq 175 (wkC fq root page A cA P dirty e0 e1 e2 (tv) (av')) :: ownT (numE .i64) 3 (tv) ([x0, x1, x2]) :: ownT (numE .i64) 3 (av') (an ++ (layG n L d root x2 (idxI page 1) P.g (leafW d (if P.large then Rg.all else ofE e2) P.g dirty)).2) :: blkT fq 202 (flC gq mq q dd) :: gdT dd gq mp q hp hb t n a m most L ((layG n L d root x2 (idxI page 1) P.g (leafW d (if P.large then Rg.all else ofE e2) P.g dirty)).1) :: mapT mq L :: l) := by
 have hI := fun w' => Idx_any page 1 w' (by omega) (by omega)
 have cR := fun {z : World} {l' : List Th} (H' : SepC w0 z (blkT xq 175 (wkC fq root page A cA P dirty e0 e1 e2 (tv) (av)) :: ownT (numE .i64) 3 (tv) ([x0, x1, x2]) :: ownT (numE .i64) 3 (av) (an) :: blkT fq 202 (flC gq mq q dd) :: gdT dd gq mp q hp hb t n a m most L (d) :: mapT mq L :: l')) => H'.flRights
 have hlk : layG n L d root x2 (idxI page 1) P.g (leafW d (if P.large then Rg.all else ofE e2) P.g dirty) = if slotP d.s.L x2 (idxI page 1) = some ⟨2, P.g, leafW d (if P.large then Rg.all else ofE e2) P.g dirty⟩ then (d, []) else (⟨leafS n (zapG n d x2 (idxI page 1)).s x2 (idxI page 1) P.g (atV L P.g) (leafW d (if P.large then Rg.all else ofE e2) P.g dirty), (zapG n d x2 (idxI page 1)).T, (zapG n d x2 (idxI page 1)).l⟩, reachP (leafS n (zapG n d x2 (idxI page 1)).s x2 (idxI page 1) P.g (atV L P.g) (leafW d (if P.large then Rg.all else ofE e2) P.g dirty)).L root x2 (idxI page 1)) := rfl
 rw [hlk]
 clear hlk
 generalize leafW d (if P.large then Rg.all else ofE e2) P.g dirty = rr at *
 obtain ⟨rw_, ru, rx⟩ := rr
 simp only [Rg.cs] at cR
 generalize (idxI page 1) = ii at *
 have ho := (H.pick 1 rfl).own
 obtain ⟨A_, c_, ev, _, _⟩ := ho.form
 have ev : tv = .slice A_ 3 c_ := ev
 subst ev
 obtain ⟨b_, off, _, eA_, _, _, _⟩ := SlN.get ho.slg (i := 0) (by omega)
 subst eA_
 clear ho
 have hld : ∀ (z : World) (l' : List Th), SepC w0 z (ownT (numE .i64) 3 (.slice (some ⟨b_, off, none⟩) 3 c_) ([x0, x1, x2]) :: l') → (z.cell? ⟨b_, off, none⟩ = some (.int .i64 x0) ∧ z.cell? ⟨b_, off + 1, none⟩ = some (.int .i64 x1) ∧ z.cell? ⟨b_, off + 2, none⟩ = some (.int .i64 x2)) := fun z l' H' => by
  have h0 : ∀ i : Nat, i < 3 → ∀ x, [x0, x1, x2][i]? = some x → z.cell? ⟨b_, off + i, none⟩ = some (.int .i64 x) := fun i hi x hx => by
   obtain ⟨b2_, o2_, y_, e2_, _, h2_, t2_⟩ := SlN.get (H'.own.slg) hi
   cases e2_
   rw [hx] at h2_; cases h2_
   exact t2_
  exact ⟨h0 0 (by omega) x0 rfl, h0 1 (by omega) x1 rfl, h0 2 (by omega) x2 rfl⟩
 have H1 := H.alloc #[.pointer (some ⟨xq, 0, none⟩)] 170
 clear H
 by_cases heq : slotP d.s.L x2 ii = some ⟨2, P.g, ⟨rw_, ru, rx⟩⟩
 ·rw [if_pos heq]
  simp only [List.append_nil]
  go_enter Tryz.func89, Tryz.ntmps89
  go_upto_region 1 with fail
  generalize w.alloc (.cells #[.pointer (some ⟨xq, 0, none⟩)] 170) = w1 at *
  generalize w.heap.size = xb at *
  go_cut [2, 3, 4] from 6 to 21 (fun pv_ tv_ iv_ wx => ∃ q1 q2 q3 : Nat, pv_ = .pointer (some ⟨q1, 0, none⟩) ∧ tv_ = .pointer (some ⟨q2, 0, none⟩) ∧ iv_ = .pointer (some ⟨q3, 0, none⟩) ∧ SepC w0 wx (blkT q3 3 #[.int .i64 ii] :: blkT q2 3 #[.int .i64 P.g] :: blkT q1 3 #[.int .i64 x2] :: blkT xb 170 #[.pointer (some ⟨xq, 0, none⟩)] :: blkT xq 175 (wkC fq root page A cA P dirty e0 e1 e2 (.slice (some ⟨b_, off, none⟩) 3 c_) (av)) :: ownT (numE .i64) 3 (.slice (some ⟨b_, off, none⟩) 3 c_) ([x0, x1, x2]) :: ownT (numE .i64) 3 (av) (an) :: blkT fq 202 (flC gq mq q dd) :: gdT dd gq mp q hp hb t n a m most L (d) :: mapT mq L :: l))
  case first =>
   have wz1 : IntKind.i64.wrap 1 = 1 := by decide
   have wz2 : IntKind.i64.wrap 2 = 2 := by decide
   have wz3 : IntKind.i64.wrap 3 = 3 := by decide
   have H := H1.new (Chg.refl [] w1).drew
   clear H1
   refine wp_region_noPanic ?_
   refine wp_region_held_drew (S := (fun w' => Blk w' xb 170 #[.pointer (some ⟨xq, 0, none⟩)] ∧ Blk w' xq 175 (wkC fq root page A cA P dirty e0 e1 e2 (.slice (some ⟨b_, off, none⟩) 3 c_) av) ∧ (w'.cell? ⟨b_, off, none⟩ = some (.int .i64 x0) ∧ w'.cell? ⟨b_, off + 1, none⟩ = some (.int .i64 x1) ∧ w'.cell? ⟨b_, off + 2, none⟩ = some (.int .i64 x2)))) (by kernel_rfl) ?_ (fun hHeld => ?_)
   ·exact ⟨(H.pick 0 rfl).blk, (H.pick 1 rfl).blk, hld _ _ (H.pick 2 rfl)⟩
   generalize World.drew w1 = wd at *
   (refine tkz 0 6 ?_ ?_ ?_; rotate_left; · (intro w hSw; (try dsimp only at hSw); have c_8 := hSw.1.cell 0; simp only [qA, qZ] at c_8; go_simp; (try with_reducible rfl)))
   refine tq 1 7 _ ?_
   refine tq 2 8 _ ?_
   (refine tkz 3 9 ?_ ?_ ?_; rotate_left; · (intro w hSw; (try dsimp only at hSw); have c_ := wk38 hSw.2.1; go_simp; (try with_reducible rfl)))
   (try simp only [Act.put, qI, qO, qU])
   refine tq 4 10 _ ?_
   (refine tkz 5 11 ?_ ?_ ?_; rotate_left; · (intro w hSw; (try dsimp only at hSw); have c_9 := hSw.2.2; go_simp; (try with_reducible rfl)))
   (refine tkz 6 12 ?_ ?_ ?_; rotate_left; · (intro w hSw; (try dsimp only at hSw); have c_8 := hSw.1.cell 0; simp only [qA, qZ] at c_8; go_simp; (try with_reducible rfl)))
   refine tq 7 13 _ ?_
   (try simp only [Act.put, qI, qO, qU])
   refine tq 8 14 _ ?_
   refine tq 9 15 _ ?_
   (refine tkz 10 16 ?_ ?_ ?_; rotate_left; · (intro w hSw; (try dsimp only at hSw); have c_ := wk4 hSw.2.1; go_simp; (try with_reducible rfl)))
   (refine tkz 11 17 ?_ ?_ ?_; rotate_left; · (intro w hSw; (try dsimp only at hSw); have c_8 := hSw.1.cell 0; simp only [qA, qZ] at c_8; go_simp; (try with_reducible rfl)))
   (try simp only [Act.put, qI, qO, qU])
   refine tq 12 18 _ ?_
   refine tq 13 19 _ ?_
   (refine tkz 14 20 ?_ ?_ ?_; rotate_left; · (intro w hSw; (try dsimp only at hSw); have c_ := wk2 hSw.2.1; go_simp; (try with_reducible rfl)))
   (try simp only [Act.put, qI, qO, qU])
   clear hHeld
   refine boxes3_at 15 16 17 18 19 20 21 2 3 4 21 (z4 := .int .i64 0) (z5 := .int .i64 0) (z6 := .int .i64 0) (y4 := .int .i64 x2) (y5 := .int .i64 P.g) (y6 := .int .i64 ii) (xC := .int .i64 ii) (t4 := 3) (t5 := 3) (t6 := 3) rfl rfl rfl rfl rfl rfl rfl (fun _ => rfl) (fun _ => rfl) (fun _ => rfl) (fun _ => rfl) (fun _ => rfl) (fun _ => rfl) (fun _ => rfl) (by intro c x4 x5 x6 h; cases c <;> cases x4 <;> cases x5 <;> cases x6 <;> first | (cases h; done) | kernel_rfl) (by kernel_rfl) (by kernel_rfl) (by kernel_rfl) (by kernel_rfl) (fun _ => rfl) (fun _ => rfl) (fun _ => rfl)
    (by intro v_4 v_5 v_6 v_C u_ K_ hK_; (try simp only [actB, Act.put, qI, qO, qU] at hK_ ⊢); go_simp; (go_at_call 158; refine (hI _).mono ?_; rintro e u_9 ⟨rfl, y_⟩; exact hK_ _ y_.chg)) (by intro a_ u_; go_simp) (by intro a_ u_; go_simp) (by intro a_ u_; go_simp) (by intro b_9 v_8 v_7 u_ K_ hc_9 hf_9 hK_; (try simp only [actB, Act.put, qI, qO, qU] at hK_ ⊢); go_simp; exact hK_) (by intro b_9 v_8 v_7 u_ K_ hc_9 hf_9 hK_; (try simp only [actB, Act.put, qI, qO, qU] at hK_ ⊢); go_simp; exact hK_) (by intro b_9 v_8 v_7 u_ K_ hc_9 hf_9 hK_; (try simp only [actB, Act.put, qI, qO, qU] at hK_ ⊢); go_simp; exact hK_) rfl rfl rfl rfl (by decide) (by decide) H (by intro z_ HZ_; (try dsimp only); exact ⟨(HZ_.pick 0 rfl).blk, (HZ_.pick 1 rfl).blk, hld _ _ (HZ_.pick 2 rfl)⟩) (by intro b_4 b_5 b_6 u_9 HZ_; refine NoPanic.normal ?_; (try simp only [actB, Act.put, qI, qO, qU]); go_wp2_with fail; go_meet; exact ⟨_, _, _, rfl, rfl, rfl, HZ_⟩) (by kernel_rfl) (by simp only [actB, Act.put, qI, qO, qU])
  obtain ⟨q1, q2, q3, rfl, rfl, rfl, H3⟩ := hcut
  clear H1 hI hld
  have xc := (H3.pick 3 rfl).blk.cell 0
  simp only [qA, qZ] at xc
  go_wp2_with fail
  refine (cR (l' := blkT q3 3 #[.int .i64 ii] :: blkT q2 3 #[.int .i64 P.g] :: blkT q1 3 #[.int .i64 x2] :: blkT xb 170 #[.pointer (some ⟨xq, 0, none⟩)] :: l) ((((((((((H3.pick 3 rfl).pick 3 rfl).pick 3 rfl).pick 3 rfl).pick 9 rfl).pick 9 rfl).pick 9 rfl).pick 9 rfl).pick 9 rfl).pick 9 rfl)).mono ?_; rintro e w5 ⟨rfl, HX⟩
  have H4 := HX.alloc #[.bool rw_, .bool ru, .bool rx] 54
  clear cR H3 xc HX
  go_upto_region 3 with fail
  generalize w5.alloc (.cells #[.bool rw_, .bool ru, .bool rx] 54) = w6 at *
  generalize w5.heap.size = rb at *
  have r0_ := H4.blk.cell 0; have r1_ := H4.blk.cell 1; have r2_ := H4.blk.cell 2; have i0_ := (H4.pick 7 rfl).blk.cell 0; have t0_ := (H4.pick 8 rfl).blk.cell 0; have p0_ := (H4.pick 9 rfl).blk.cell 0; have xc := (H4.pick 10 rfl).blk.cell 0
  simp only [qA, qZ, qS] at r0_ r1_ r2_ i0_ t0_ p0_ xc
  have H5 := (((((((((((H4.pick 0 rfl).pick 7 rfl).pick 9 rfl).pick 9 rfl).pick 10 rfl).pick 10 rfl).pick 10 rfl).pick 10 rfl).pick 10 rfl).pick 10 rfl).pick 10 rfl)
  clear H4
  have hN := SepC.flLayNo 164 xb q2 q1 q3 rb H5 x2 ii ⟨2, P.g, ⟨rw_, ru, rx⟩⟩ (by show (2 : Int) ≠ 0; decide) hp_ heq
  simp only [Slt.cl] at hN
  go_wp2_with fail
  refine hN.mono ?_; rintro e w9 ⟨rfl, H9⟩
  clear hN H5
  go_wp2_with fail
  go_end0
  exact ⟨rfl, av, ((((((((((H9.pick 6 rfl).tail).pick 6 rfl).tail).pick 6 rfl).tail).pick 6 rfl).tail).pick 6 rfl).tail)⟩
 rw [if_neg heq]
 go_enter Tryz.func89, Tryz.ntmps89
 go_upto_region 1 with fail
 generalize w.alloc (.cells #[.pointer (some ⟨xq, 0, none⟩)] 170) = w1 at *
 generalize w.heap.size = xb at *
 go_cut [2, 3, 4] from 6 to 21 (fun pv_ tv_ iv_ wx => ∃ q1 q2 q3 : Nat, pv_ = .pointer (some ⟨q1, 0, none⟩) ∧ tv_ = .pointer (some ⟨q2, 0, none⟩) ∧ iv_ = .pointer (some ⟨q3, 0, none⟩) ∧ SepC w0 wx (blkT q3 3 #[.int .i64 ii] :: blkT q2 3 #[.int .i64 P.g] :: blkT q1 3 #[.int .i64 x2] :: blkT xb 170 #[.pointer (some ⟨xq, 0, none⟩)] :: blkT xq 175 (wkC fq root page A cA P dirty e0 e1 e2 (.slice (some ⟨b_, off, none⟩) 3 c_) (av)) :: ownT (numE .i64) 3 (.slice (some ⟨b_, off, none⟩) 3 c_) ([x0, x1, x2]) :: ownT (numE .i64) 3 (av) (an) :: blkT fq 202 (flC gq mq q dd) :: gdT dd gq mp q hp hb t n a m most L (d) :: mapT mq L :: l))
 case first =>
  have wz1 : IntKind.i64.wrap 1 = 1 := by decide
  have wz2 : IntKind.i64.wrap 2 = 2 := by decide
  have wz3 : IntKind.i64.wrap 3 = 3 := by decide
  have H := H1.new (Chg.refl [] w1).drew
  clear H1
  refine wp_region_noPanic ?_
  refine wp_region_held_drew (S := (fun w' => Blk w' xb 170 #[.pointer (some ⟨xq, 0, none⟩)] ∧ Blk w' xq 175 (wkC fq root page A cA P dirty e0 e1 e2 (.slice (some ⟨b_, off, none⟩) 3 c_) av) ∧ (w'.cell? ⟨b_, off, none⟩ = some (.int .i64 x0) ∧ w'.cell? ⟨b_, off + 1, none⟩ = some (.int .i64 x1) ∧ w'.cell? ⟨b_, off + 2, none⟩ = some (.int .i64 x2)))) (by kernel_rfl) ?_ (fun hHeld => ?_)
  ·exact ⟨(H.pick 0 rfl).blk, (H.pick 1 rfl).blk, hld _ _ (H.pick 2 rfl)⟩
  generalize World.drew w1 = wd at *
  (refine tkz 0 6 ?_ ?_ ?_; rotate_left; · (intro w hSw; (try dsimp only at hSw); have c_8 := hSw.1.cell 0; simp only [qA, qZ] at c_8; go_simp; (try with_reducible rfl)))
  refine tq 1 7 _ ?_
  (try simp only [Act.put, qI, qO, qU])
  refine tq 2 8 _ ?_
  (refine tkz 3 9 ?_ ?_ ?_; rotate_left; · (intro w hSw; (try dsimp only at hSw); have c_ := wk38 hSw.2.1; go_simp; (try with_reducible rfl)))
  refine tq 4 10 _ ?_
  (refine tkz 5 11 ?_ ?_ ?_; rotate_left; · (intro w hSw; (try dsimp only at hSw); have c_9 := hSw.2.2; go_simp; (try with_reducible rfl)))
  (try simp only [Act.put, qI, qO, qU])
  (refine tkz 6 12 ?_ ?_ ?_; rotate_left; · (intro w hSw; (try dsimp only at hSw); have c_8 := hSw.1.cell 0; simp only [qA, qZ] at c_8; go_simp; (try with_reducible rfl)))
  refine tq 7 13 _ ?_
  refine tq 8 14 _ ?_
  refine tq 9 15 _ ?_
  (try simp only [Act.put, qI, qO, qU])
  (refine tkz 10 16 ?_ ?_ ?_; rotate_left; · (intro w hSw; (try dsimp only at hSw); have c_ := wk4 hSw.2.1; go_simp; (try with_reducible rfl)))
  (refine tkz 11 17 ?_ ?_ ?_; rotate_left; · (intro w hSw; (try dsimp only at hSw); have c_8 := hSw.1.cell 0; simp only [qA, qZ] at c_8; go_simp; (try with_reducible rfl)))
  refine tq 12 18 _ ?_
  refine tq 13 19 _ ?_
  (try simp only [Act.put, qI, qO, qU])
  (refine tkz 14 20 ?_ ?_ ?_; rotate_left; · (intro w hSw; (try dsimp only at hSw); have c_ := wk2 hSw.2.1; go_simp; (try with_reducible rfl)))
  (try simp only [Act.put, qI, qO, qU])
  clear hHeld
  refine boxes3_at 15 16 17 18 19 20 21 2 3 4 21 (z4 := .int .i64 0) (z5 := .int .i64 0) (z6 := .int .i64 0) (y4 := .int .i64 x2) (y5 := .int .i64 P.g) (y6 := .int .i64 ii) (xC := .int .i64 ii) (t4 := 3) (t5 := 3) (t6 := 3) rfl rfl rfl rfl rfl rfl rfl (fun _ => rfl) (fun _ => rfl) (fun _ => rfl) (fun _ => rfl) (fun _ => rfl) (fun _ => rfl) (fun _ => rfl) (by intro c x4 x5 x6 h; cases c <;> cases x4 <;> cases x5 <;> cases x6 <;> first | (cases h; done) | kernel_rfl) (by kernel_rfl) (by kernel_rfl) (by kernel_rfl) (by kernel_rfl) (fun _ => rfl) (fun _ => rfl) (fun _ => rfl)
   (by intro v_4 v_5 v_6 v_C u_ K_ hK_; (try simp only [actB, Act.put, qI, qO, qU] at hK_ ⊢); go_simp; (go_at_call 158; refine (hI _).mono ?_; rintro e u_9 ⟨rfl, y_⟩; exact hK_ _ y_.chg)) (by intro a_ u_; go_simp) (by intro a_ u_; go_simp) (by intro a_ u_; go_simp) (by intro b_9 v_8 v_7 u_ K_ hc_9 hf_9 hK_; (try simp only [actB, Act.put, qI, qO, qU] at hK_ ⊢); go_simp; exact hK_) (by intro b_9 v_8 v_7 u_ K_ hc_9 hf_9 hK_; (try simp only [actB, Act.put, qI, qO, qU] at hK_ ⊢); go_simp; exact hK_) (by intro b_9 v_8 v_7 u_ K_ hc_9 hf_9 hK_; (try simp only [actB, Act.put, qI, qO, qU] at hK_ ⊢); go_simp; exact hK_) rfl rfl rfl rfl (by decide) (by decide) H (by intro z_ HZ_; (try dsimp only); exact ⟨(HZ_.pick 0 rfl).blk, (HZ_.pick 1 rfl).blk, hld _ _ (HZ_.pick 2 rfl)⟩) (by intro b_4 b_5 b_6 u_9 HZ_; refine NoPanic.normal ?_; (try simp only [actB, Act.put, qI, qO, qU]); go_wp2_with fail; go_meet; exact ⟨_, _, _, rfl, rfl, rfl, HZ_⟩) (by kernel_rfl) (by simp only [actB, Act.put, qI, qO, qU])
 obtain ⟨q1, q2, q3, rfl, rfl, rfl, H3⟩ := hcut
 clear H1 hI hld
 have xc := (H3.pick 3 rfl).blk.cell 0
 simp only [qA, qZ] at xc
 go_wp2_with fail
 refine (cR (l' := blkT q3 3 #[.int .i64 ii] :: blkT q2 3 #[.int .i64 P.g] :: blkT q1 3 #[.int .i64 x2] :: blkT xb 170 #[.pointer (some ⟨xq, 0, none⟩)] :: l) ((((((((((H3.pick 3 rfl).pick 3 rfl).pick 3 rfl).pick 3 rfl).pick 9 rfl).pick 9 rfl).pick 9 rfl).pick 9 rfl).pick 9 rfl).pick 9 rfl)).mono ?_; rintro e w5 ⟨rfl, HX⟩
 have H4 := HX.alloc #[.bool rw_, .bool ru, .bool rx] 54
 clear cR H3 xc HX
 go_upto_region 3 with fail
 generalize w5.alloc (.cells #[.bool rw_, .bool ru, .bool rx] 54) = w6 at *
 generalize w5.heap.size = rb at *
 have r0_ := H4.blk.cell 0; have r1_ := H4.blk.cell 1; have r2_ := H4.blk.cell 2; have i0_ := (H4.pick 7 rfl).blk.cell 0; have t0_ := (H4.pick 8 rfl).blk.cell 0; have p0_ := (H4.pick 9 rfl).blk.cell 0; have xc := (H4.pick 10 rfl).blk.cell 0
 simp only [qA, qZ, qS] at r0_ r1_ r2_ i0_ t0_ p0_ xc
 have H5 := (((((((((((H4.pick 0 rfl).pick 7 rfl).pick 9 rfl).pick 9 rfl).pick 10 rfl).pick 10 rfl).pick 10 rfl).pick 10 rfl).pick 10 rfl).pick 10 rfl).pick 10 rfl)
 clear H4
 have hY := SepC.flLayYes 164 (enters_of Tryz.func164 (by kernel_rfl) rfl) xb q2 q1 q3 rb H5 x2 ii ⟨2, P.g, ⟨rw_, ru, rx⟩⟩ (by show (2 : Int) ≠ 0; decide) hp_ heq (Nat.le_trans (Nat.add_le_add hlen (reach_len _ _ _ _)) (by decide)) (fun H' => H'.flLeafDo hp_)
 simp only [Slt.cl] at hY
 go_wp2_with fail
 refine hY.mono ?_; rintro e w9 ⟨rfl, av', H9⟩
 clear hY H5
 go_wp2_with fail
 go_end0
 exact ⟨rfl, av', ((((((((((H9.pick 6 rfl).tail).pick 6 rfl).tail).pick 6 rfl).tail).pick 6 rfl).tail).pick 6 rfl).tail)⟩
end
end Go.Proofs.YtmbgepafpcbakaaGreatDoor
