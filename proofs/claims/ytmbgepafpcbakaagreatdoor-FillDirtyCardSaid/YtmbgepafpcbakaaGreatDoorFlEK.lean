/-
 The program's filler: look, lay.
-/
import Derived.Test.YtmbgepafpcbakaaGreatDoorFlAK
import Derived.Test.YtmbgepafpcbakaaGreatDoorGFpK
import Derived.Deep.CutRange
namespace Go.Proofs.YtmbgepafpcbakaaGreatDoor
open Go.RowKit Go.Maps Go.Shelf
theorem slot_want {P : List Pg} {p i : Int} {x : Slt} (h : x.kind ≠ 0) : decide (slotV P p i = x) = decide (slotP P p i = some x) := by
 unfold slotV
 cases e : slotP P p i with
 | none => simp only [Option.getD_none, reduceCtorEq, decide_false, decide_eq_false_iff_not]; intro e2; rw [← e2] at h; exact h rfl
 | some y => simp
section
variable {w0 w w' : World} {xq fq mq dd gq mp q hp hb t n a m most : Nat} {L : List Int} {d : Gd} {root page : Int} {A : Option Addr} {cA : Nat} {P : Pa} {dirty : Bool} {e0 e1 e2 : Ent} {tv av : Value} {tk an : List Int} {l : List Th}
set_option maxRecDepth 100000 in
set_option maxHeartbeats 4000000 in
theorem SepC.flLook1 (H : SepC w0 w (blkT xq 175 (wkC fq root page A cA P dirty e0 e1 e2 (tv) (av)) :: ownT (numE .i64) 3 (tv) (tk) :: ownT (numE .i64) 3 (av) (an) :: blkT fq 202 (flC gq mq q dd) :: gdT dd gq mp q hp hb t n a m most L (d) :: mapT mq L :: l)) (p : Int) (hp_ : i64B p) {qq : Pg} (hq : pgAt d.s.L p = some qq) (hl : qq.k.lev = 1) : Calls Tryz.prog 161 #[.pointer (some ⟨xq, 0, none⟩), .int .i64 p] w fun e w' => e = .returned (.tuple #[]) ∧ SepC w0 w' (blkT xq 175 (wkC fq root page A cA P dirty e0 e1 e2 (tv) (av)) :: ownT (numE .i64) 3 (tv) (tk) :: ownT (numE .i64) 3 (av) (an) :: blkT fq 202 (flC gq mq q dd) :: gdT dd gq mp q hp hb t n a m most L (lookAt n L d p) :: mapT mq L :: l) := by
 obtain ⟨qf, ⟨kg, kl, kr⟩, qs⟩ := qq
 have hl : kl = 1 := hl
 subst hl
 have cK := fun {z : World} {l' : List Th} (H' : SepC w0 z (gdT dd gq mp q hp hb t n a m most L (d) :: l')) => H'.kKey p hp_
 unfold keyV at cK
 simp only [hq, Option.map_some, Option.getD_some, Option.isSome_some, Ky.cs] at cK
 have hlk : lookAt n L d p = if kr = 0 then lookG n L d kg else d := by unfold lookAt; rw [hq]
 rw [hlk]
 clear hlk hq
 by_cases hr : kr = 0
 ·subst hr
  simp only [if_true]
  have cL := fun {z : World} {l' : List Th} (H' : SepC w0 z (gdT dd gq mp q hp hb t n a m most L (d) :: l')) => H'.kLook kg
  generalize lookG n L d kg = d1 at *
  have c0 := wk0 H.blk; have d0 := fl_c (H.pick 3 rfl).blk
  go_enter Tryz.func161, Tryz.ntmps161
  go_wp2_with fail
  refine (cK (H.pick 4 rfl)).mono ?_; rintro e w1 ⟨rfl, y1⟩
  have H1 := (H.new y1).alloc #[.int .i64 kg, .int .i64 1, .int .i64 0] 85
  clear cK H y1 c0 d0
  have k1_ := H1.blk.cell 1; have k2_ := H1.blk.cell 2
  simp only [qA, qZ, qS] at k1_ k2_
  go_upto_region 3 with fail
  generalize w1.alloc (.cells #[.int .i64 kg, .int .i64 1, .int .i64 0] 85) = w2 at *
  generalize w1.heap.size = kb at *
  clear k1_ k2_
  have HH := H1.new (Chg.refl [] w2).drew
  clear H1
  refine wp_region_noPanic ?_
  refine wp_region_held_drew (S := (fun w' => Blk w' xq 175 (wkC fq root page A cA P dirty e0 e1 e2 tv av) ∧ Blk w' fq 202 (flC gq mq q dd) ∧ Blk w' kb 85 #[.int .i64 kg, .int .i64 1, .int .i64 0])) (by kernel_rfl) ?_ (fun hHeld => ?_)
  ·exact ⟨(HH.pick 1 rfl).blk, (HH.pick 4 rfl).blk, HH.blk⟩
  refine tq 0 27 _ ?_
  refine tq 1 28 _ ?_
  refine tq 2 29 _ ?_
  (refine tkz 3 30 ?_ ?_ ?_; rotate_left; · (intro w hSw; (try dsimp only at hSw); have c_ := wk0 hSw.1; go_simp; (try with_reducible rfl)))
  (try simp only [Act.put, qI, qO, qU])
  refine tq 4 31 _ ?_
  refine tq 5 32 _ ?_
  (refine tkz 6 33 ?_ ?_ ?_; rotate_left; · (intro w hSw; (try dsimp only at hSw); have c_ := fl_c hSw.2.1; go_simp; (try with_reducible rfl)))
  refine tq 7 34 _ ?_
  (try simp only [Act.put, qI, qO, qU])
  (refine tkz 8 35 ?_ ?_ ?_; rotate_left; · (intro w hSw; (try dsimp only at hSw); have c_ := hSw.2.2.cell 0; simp only [qA, qZ] at c_; go_simp; (try with_reducible rfl)))
  (try simp only [Act.put, qI, qO, qU])
  refine rdy 9 fun K hK => ?_
  go_simp
  (go_at_call 67; refine (cL (HH.pick 5 rfl)).mono ?_; rintro e u1 ⟨rfl, HX⟩; clear HH; have HH := (((((((HX.pick 6 rfl).pick 1 rfl).pick 6 rfl).pick 6 rfl).pick 6 rfl).pick 6 rfl).pick 6 rfl); clear HX)
  refine hK.out _ _ (by (try dsimp only); exact ⟨(HH.pick 1 rfl).blk, (HH.pick 4 rfl).blk, HH.blk⟩) (fun hHeld => ?_)
  clear hK K
  (try simp only [Act.put, qI, qO, qU])
  refine wpAnyH_done (by kernel_rfl) ?_ _
  refine NoPanic.normal ?_
  clear hHeld cL
  go_wp2_with fail
  ((try simp only [Exit.inBlock, Exit.then]); refine bodyPost_ret (results_none rfl _ _ _) rfl ?_)
  exact ⟨rfl, HH.tail⟩
 simp only [if_neg hr]
 have hrb : (kr != 0) = true := by simpa using hr
 replace hr := Lib.hid hr
 have c0 := wk0 H.blk; have d0 := fl_c (H.pick 3 rfl).blk
 go_enter Tryz.func161, Tryz.ntmps161
 go_wp2_with fail
 refine (cK (H.pick 4 rfl)).mono ?_; rintro e w1 ⟨rfl, y1⟩
 have H1 := (H.new y1).alloc #[.int .i64 kg, .int .i64 1, .int .i64 kr] 85
 clear cK H y1 c0 d0
 have k1_ := H1.blk.cell 1; have k2_ := H1.blk.cell 2
 simp only [qA, qZ, qS] at k1_ k2_
 go_wp2_with fail
 ((try simp only [Exit.inBlock, Exit.then]); refine bodyPost_ret (results_none rfl _ _ _) rfl ?_)
 exact ⟨rfl, H1.tail⟩
set_option maxRecDepth 100000 in
set_option maxHeartbeats 4000000 in
theorem SepC.flLook2 (H : SepC w0 w (blkT xq 175 (wkC fq root page A cA P dirty e0 e1 e2 (tv) (av)) :: ownT (numE .i64) 3 (tv) (tk) :: ownT (numE .i64) 3 (av) (an) :: blkT fq 202 (flC gq mq q dd) :: gdT dd gq mp q hp hb t n a m most L (d) :: mapT mq L :: l)) (p : Int) (hp_ : i64B p) {qq : Pg} (hq : pgAt d.s.L p = some qq) (hl : qq.k.lev = 2) (hr : qq.k.role = 0) : Calls Tryz.prog 161 #[.pointer (some ⟨xq, 0, none⟩), .int .i64 p] w fun e w' => e = .returned (.tuple #[]) ∧ SepC w0 w' (blkT xq 175 (wkC fq root page A cA P dirty e0 e1 e2 (tv) (av)) :: ownT (numE .i64) 3 (tv) (tk) :: ownT (numE .i64) 3 (av) (an) :: blkT fq 202 (flC gq mq q dd) :: gdT dd gq mp q hp hb t n a m most L ((kidsF d.s.L p).foldl (lookAt n L) d) :: mapT mq L :: l) := by
 have G := (H.pick 4 rfl).gIn
 have hok := G.ok
 clear G
 obtain ⟨qf, ⟨kg, kl, kr⟩, qs⟩ := qq
 have hl : kl = 2 := hl
 have hr : kr = 0 := hr
 subst hl; subst hr
 have cK := fun {z : World} {l' : List Th} (H' : SepC w0 z (gdT dd gq mp q hp hb t n a m most L (d) :: l')) => H'.kKey p hp_
 unfold keyV at cK
 simp only [hq, Option.map_some, Option.getD_some, Option.isSome_some, Ky.cs] at cK
 have hkid := fun (j : Nat) (hj : j < 8) => look_kid hok hq rfl (j := j) hj
 have hnone := fun (j : Nat) => look_none hok (p := p) (j := j)
 have hS := fun (j : Nat) {z : World} {l' : List Th} (H' : SepC w0 z (gdT dd gq mp q hp hb t n a m most L (lookR n L d p j) :: l')) => H'.kSlot p (j : Int) hp_
 rw [kids_run hok.sr hq]
 have h0 : lookR n L d p 0 = d := rfl
 obtain ⟨D, hD⟩ : ∃ D : Nat → Gd, ∀ j, lookR n L d p j = D j := ⟨_, fun _ => rfl⟩
 simp only [hD] at hkid hnone hS h0 ⊢
 rw [← h0] at H cK
 clear hD hok hq
 have hOne := fun (j : Nat) (x : Int) (hx : i64B x) (hc : ∃ c, pgAt (D j).s.L x = some c ∧ c.k.lev = 1) {z : World} {l' : List Th} (H' : SepC w0 z (blkT xq 175 (wkC fq root page A cA P dirty e0 e1 e2 (tv) (av)) :: ownT (numE .i64) 3 (tv) (tk) :: ownT (numE .i64) 3 (av) (an) :: blkT fq 202 (flC gq mq q dd) :: gdT dd gq mp q hp hb t n a m most L (D j) :: mapT mq L :: l')) => H'.flLook1 x hx hc.choose_spec.1 hc.choose_spec.2
 clear h0
 replace hkid := Lib.hid hkid; replace hnone := Lib.hid hnone
 have c0 := wk0 H.blk; have d0 := fl_c (H.pick 3 rfl).blk
 go_enter Tryz.func161, Tryz.ntmps161
 go_wp2_with fail
 refine (cK (H.pick 4 rfl)).mono ?_; rintro e w1 ⟨rfl, y1⟩
 have H1 := (H.new y1).alloc #[.int .i64 kg, .int .i64 2, .int .i64 0] 85
 clear cK H y1 c0 d0
 have k1_ := H1.blk.cell 1; have k2_ := H1.blk.cell 2
 simp only [qA, qZ, qS] at k1_ k2_
 go_wp2_with fail
 replace H1 := H1.tail
 clear k1_ k2_
 go_loopw [37] (fun s37 wr => ∃ j : Nat, j ≤ 8 ∧ s37 = .int .i64 j ∧ SepC w0 wr (blkT xq 175 (wkC fq root page A cA P dirty e0 e1 e2 (tv) (av)) :: ownT (numE .i64) 3 (tv) (tk) :: ownT (numE .i64) 3 (av) (an) :: blkT fq 202 (flC gq mq q dd) :: gdT dd gq mp q hp hb t n a m most L (D j) :: mapT mq L :: l)) (fun s37 _ => 8 - (intOf s37).toNat)
 case atStart => exact ⟨0, by omega, rfl, H1⟩
 clear H1
 obtain ⟨j, hj, rfl, H⟩ := hrel
 by_cases hlt : j < 8
 ·have hltz : (j : Int) < 8 := by omega
  have c0 := wk0 H.blk; have d0 := fl_c (H.pick 3 rfl).blk
  have hSj := hS j (H.pick 4 rfl)
  have hk := hkid.out j hlt; have hn := hnone.out j
  generalize (slotP (D j).s.L p (j : Int)).isSome = is1 at *
  generalize slotV (D j).s.L p (j : Int) = x at *
  obtain ⟨xk, xt, ⟨xw, xu, xx⟩⟩ := x
  simp only [Slt.cl] at hSj
  simp only at hk hn
  replace hk := Lib.hid hk; replace hn := Lib.hid hn
  by_cases hxk : xk = 1
  ·subst hxk
   obtain ⟨h1, h2, h3⟩ := hk.out rfl
   have hC := fun {z : World} {l' : List Th} (H' : SepC w0 z (blkT xq 175 (wkC fq root page A cA P dirty e0 e1 e2 (tv) (av)) :: ownT (numE .i64) 3 (tv) (tk) :: ownT (numE .i64) 3 (av) (an) :: blkT fq 202 (flC gq mq q dd) :: gdT dd gq mp q hp hb t n a m most L (D j) :: mapT mq L :: l')) => hOne j xt h2 h1 H'
   rw [← h3] at hC
   clear h1 h2 h3 hk hn
   go_wp2_with fail
   refine hSj.mono ?_; rintro e w2 ⟨rfl, y2⟩
   have H2 := (H.new y2).alloc #[.int .i64 1, .int .i64 xt, .bool xw, .bool xu, .bool xx] 99
   have s0_ := H2.blk.cell 0; have s1_ := H2.blk.cell 1
   simp only [qA, qZ, qS] at s0_ s1_
   clear hSj H y2 c0 d0
   go_wp2_with fail
   refine (hC H2.tail).mono ?_; rintro e w4 ⟨rfl, H4⟩
   clear hC H2 s0_ s1_
   go_wp2_with fail
   go_roundw
   case rel => exact ⟨j + 1, by omega, by go_num, H4⟩
   case measure => simp [intOf]; omega
  have hxb : (xk == 1) = false := by simpa using hxk
  have h3 := hn.out hxk
  clear hk hn
  replace h3 := Lib.hid h3; replace hxk := Lib.hid hxk
  go_wp2_with fail
  refine hSj.mono ?_; rintro e w2 ⟨rfl, y2⟩
  have H2 := (H.new y2).alloc #[.int .i64 xk, .int .i64 xt, .bool xw, .bool xu, .bool xx] 99
  have s0_ := H2.blk.cell 0; have s1_ := H2.blk.cell 1
  simp only [qA, qZ, qS] at s0_ s1_
  clear hSj H y2 c0 d0
  go_wp2_with fail
  replace H2 := H2.tail
  clear s0_ s1_
  go_roundw
  case rel => exact ⟨j + 1, by omega, by go_num, by rw [h3.out]; exact H2⟩
  case measure => simp [intOf]; omega
 have ej : j = 8 := by omega
 subst ej
 have hltz : ¬ ((8 : Nat) : Int) < 8 := by omega
 go_wp2_with fail
 go_end0
 exact ⟨rfl, H⟩
set_option maxRecDepth 100000 in
set_option maxHeartbeats 4000000 in
theorem SepC.flLayNo (f : FuncId) (c0_ c1_ c2_ c3_ c4_ : Nat) (H : SepC w0 w (blkT xq 175 (wkC fq root page A cA P dirty e0 e1 e2 (tv) (av)) :: ownT (numE .i64) 3 (tv) (tk) :: ownT (numE .i64) 3 (av) (an) :: blkT fq 202 (flC gq mq q dd) :: gdT dd gq mp q hp hb t n a m most L (d) :: mapT mq L :: l)) (p i : Int) (want : Slt) (hw0 : want.kind ≠ 0) (hp_ : i64B p) (heq : slotP d.s.L p i = some want) : Calls Tryz.prog 159 #[.pointer (some ⟨xq, 0, none⟩), .int .i64 p, .int .i64 i, .agg want.cl.toArray, .func (.func f) #[] #[.pointer (some ⟨c0_, 0, none⟩), .pointer (some ⟨c1_, 0, none⟩), .pointer (some ⟨c2_, 0, none⟩), .pointer (some ⟨c3_, 0, none⟩), .pointer (some ⟨c4_, 0, none⟩)]] w fun e w' => e = .returned (.tuple #[]) ∧ SepC w0 w' (blkT xq 175 (wkC fq root page A cA P dirty e0 e1 e2 (tv) (av)) :: ownT (numE .i64) 3 (tv) (tk) :: ownT (numE .i64) 3 (av) (an) :: blkT fq 202 (flC gq mq q dd) :: gdT dd gq mp q hp hb t n a m most L (d) :: mapT mq L :: l) := by
 have hE := fun w' => run_eqSl (slotV d.s.L p i) want w'
 rw [slot_want hw0] at hE
 have cS := fun {z : World} {l' : List Th} (H' : SepC w0 z (gdT dd gq mp q hp hb t n a m most L (d) :: l')) => H'.kSlot p i hp_
 generalize slotV d.s.L p i = x at *
 obtain ⟨xk, xt, ⟨xw, xu, xx⟩⟩ := x
 obtain ⟨wk_, wt_, ⟨ww, wu, wx⟩⟩ := want
 simp only [Slt.cl] at cS hE ⊢
 rw [decide_eq_true heq] at hE
 clear heq
 have H1 := H.alloc #[.int .i64 wk_, .int .i64 wt_, .bool ww, .bool wu, .bool wx] 99
 clear H
 have c0 := wk0 (H1.pick 1 rfl).blk; have d0 := fl_c (H1.pick 4 rfl).blk
 go_enter Tryz.func159, Tryz.ntmps159
 go_wp2_with fail
 skip
 refine (cS (H1.pick 5 rfl)).mono ?_; rintro e w2 ⟨rfl, y2⟩
 have H2 := (H1.new y2).alloc #[.int .i64 xk, .int .i64 xt, .bool xw, .bool xu, .bool xx] 99
 clear cS H1 y2 c0 d0
 go_upto_region 2 with fail
 generalize w2.alloc (.cells #[.int .i64 xk, .int .i64 xt, .bool xw, .bool xu, .bool xx] 99) = w3 at *
 generalize w2.heap.size = sb at *
 generalize w.heap.size = wb_ at *
 have x0_ := H2.blk.cell 0; have x1_ := H2.blk.cell 1; have x2_ := H2.blk.cell 2; have x3_ := H2.blk.cell 3; have x4_ := H2.blk.cell 4; have v0_ := (H2.pick 1 rfl).blk.cell 0; have v1_ := (H2.pick 1 rfl).blk.cell 1; have v2_ := (H2.pick 1 rfl).blk.cell 2; have v3_ := (H2.pick 1 rfl).blk.cell 3; have v4_ := (H2.pick 1 rfl).blk.cell 4
 simp only [qA, qZ, qS] at x0_ x1_ x2_ x3_ x4_ v0_ v1_ v2_ v3_ v4_
 go_wp2_with fail
 ((try simp only [Exit.inBlock, Exit.then]); refine bodyPost_ret (results_none rfl _ _ _) rfl ?_)
 exact ⟨rfl, H2.tail.tail⟩
set_option maxRecDepth 100000 in
set_option maxHeartbeats 8000000 in
theorem SepC.flLayYes {d2 : Gd} (f : FuncId) (eg : ∀ args w, (callFunc f args).run Tryz.prog w = .ok (.enter f args) w) (c0_ c1_ c2_ c3_ c4_ : Nat) (H : SepC w0 w (blkT xq 175 (wkC fq root page A cA P dirty e0 e1 e2 (tv) (av)) :: ownT (numE .i64) 3 (tv) (tk) :: ownT (numE .i64) 3 (av) (an) :: blkT fq 202 (flC gq mq q dd) :: gdT dd gq mp q hp hb t n a m most L (d) :: mapT mq L :: l)) (p i : Int) (want : Slt) (hw0 : want.kind ≠ 0) (hp_ : i64B p) (heq : ¬ slotP d.s.L p i = some want) (hlen : an.length + (reachP d2.s.L root p i).length ≤ 100000)
  (hf : ∀ {z : World}, SepC w0 z (blkT xq 175 (wkC fq root page A cA P dirty e0 e1 e2 (tv) (av)) :: ownT (numE .i64) 3 (tv) (tk) :: ownT (numE .i64) 3 (av) (an) :: blkT fq 202 (flC gq mq q dd) :: gdT dd gq mp q hp hb t n a m most L (d) :: mapT mq L :: l) → Calls Tryz.prog f #[.pointer (some ⟨c0_, 0, none⟩), .pointer (some ⟨c1_, 0, none⟩), .pointer (some ⟨c2_, 0, none⟩), .pointer (some ⟨c3_, 0, none⟩), .pointer (some ⟨c4_, 0, none⟩)] z fun e w' => e = .returned (.tuple #[]) ∧ SepC w0 w' (blkT xq 175 (wkC fq root page A cA P dirty e0 e1 e2 (tv) (av)) :: ownT (numE .i64) 3 (tv) (tk) :: ownT (numE .i64) 3 (av) (an) :: blkT fq 202 (flC gq mq q dd) :: gdT dd gq mp q hp hb t n a m most L (d2) :: mapT mq L :: l)) :
  Calls Tryz.prog 159 #[.pointer (some ⟨xq, 0, none⟩), .int .i64 p, .int .i64 i, .agg want.cl.toArray, .func (.func f) #[] #[.pointer (some ⟨c0_, 0, none⟩), .pointer (some ⟨c1_, 0, none⟩), .pointer (some ⟨c2_, 0, none⟩), .pointer (some ⟨c3_, 0, none⟩), .pointer (some ⟨c4_, 0, none⟩)]] w fun e w' => e = .returned (.tuple #[]) ∧ ∃ av', SepC w0 w' (blkT xq 175 (wkC fq root page A cA P dirty e0 e1 e2 (tv) (av')) :: ownT (numE .i64) 3 (tv) (tk) :: ownT (numE .i64) 3 (av') (an ++ reachP d2.s.L root p i) :: blkT fq 202 (flC gq mq q dd) :: gdT dd gq mp q hp hb t n a m most L (d2) :: mapT mq L :: l) := by
 have hE := fun w' => run_eqSl (slotV d.s.L p i) want w'
 rw [slot_want hw0] at hE
 have cS := fun {z : World} {l' : List Th} (H' : SepC w0 z (gdT dd gq mp q hp hb t n a m most L (d) :: l')) => H'.kSlot p i hp_
 generalize slotV d.s.L p i = x at *
 obtain ⟨xk, xt, ⟨xw, xu, xx⟩⟩ := x
 obtain ⟨wk_, wt_, ⟨ww, wu, wx⟩⟩ := want
 simp only [Slt.cl] at cS hE ⊢
 rw [decide_eq_false heq] at hE
 clear heq
 have cR := fun {z : World} {l' : List Th} (H' : SepC w0 z (gdT dd gq mp q hp hb t n a m most L (d2) :: l')) => H'.kReach root p i
 generalize reachP d2.s.L root p i = rp at *
 have H1 := H.alloc #[.int .i64 wk_, .int .i64 wt_, .bool ww, .bool wu, .bool wx] 99
 clear H
 have c0 := wk0 (H1.pick 1 rfl).blk; have d0 := fl_c (H1.pick 4 rfl).blk
 go_enter Tryz.func159, Tryz.ntmps159
 go_wp2_with fail
 skip
 refine (cS (H1.pick 5 rfl)).mono ?_; rintro e w2 ⟨rfl, y2⟩
 have H2 := (H1.new y2).alloc #[.int .i64 xk, .int .i64 xt, .bool xw, .bool xu, .bool xx] 99
 clear cS H1 y2 c0 d0
 go_upto_region 2 with fail
 generalize w2.alloc (.cells #[.int .i64 xk, .int .i64 xt, .bool xw, .bool xu, .bool xx] 99) = w3 at *
 generalize w2.heap.size = sb at *
 generalize w.heap.size = wb_ at *
 have x0_ := H2.blk.cell 0; have x1_ := H2.blk.cell 1; have x2_ := H2.blk.cell 2; have x3_ := H2.blk.cell 3; have x4_ := H2.blk.cell 4; have v0_ := (H2.pick 1 rfl).blk.cell 0; have v1_ := (H2.pick 1 rfl).blk.cell 1; have v2_ := (H2.pick 1 rfl).blk.cell 2; have v3_ := (H2.pick 1 rfl).blk.cell 3; have v4_ := (H2.pick 1 rfl).blk.cell 4
 simp only [qA, qZ, qS] at x0_ x1_ x2_ x3_ x4_ v0_ v1_ v2_ v3_ v4_
 go_wp2_with fail
 clear x0_ x1_ x2_ x3_ x4_ v0_ v1_ v2_ v3_ v4_ hE
 refine (hf H2.tail.tail).mono ?_; rintro e w5 ⟨rfl, H5⟩
 clear hf H2
 have ho := (H5.pick 2 rfl).own
 obtain ⟨A_, c_, ev, _, _⟩ := ho.form
 obtain ⟨kn, hkn⟩ : ∃ kn, an.length = kn := ⟨_, rfl⟩
 obtain ⟨km, hkm⟩ : ∃ km, rp.length = km := ⟨_, rfl⟩
 rw [hkn] at ev
 rw [hkn, hkm] at hlen
 rw [hkm] at cR
 subst ev
 clear ho
 replace hkn := Lib.hid hkn; replace hkm := Lib.hid hkm
 go_upto_region 4 with fail
 have HH := H5.new (Chg.refl [] w5).drew
 clear H5
 refine wp_region_noPanic ?_
 refine late_region (S := (fun w' => Blk w' xq 175 (wkC fq root page A cA P dirty e0 e1 e2 tv (.slice A_ kn c_)) ∧ Blk w' fq 202 (flC gq mq q dd))) (Z := 22) (by kernel_rfl) ⟨HH.blk, (HH.pick 3 rfl).blk⟩ (fun hHeld => ?_)
 generalize World.drew w5 = wd at *
 (refine lk 0 30 ?_ ?_ ?_; rotate_left; · (intro w hSw; go_simp; (try with_reducible rfl)))
 (try simp only [Act.put, qI, qO, qU])
 (refine lk 1 31 ?_ ?_ ?_; rotate_left; · (intro w hSw; go_simp; (try with_reducible rfl)))
 (try simp only [Act.put, qI, qO, qU])
 (refine lk 2 32 ?_ ?_ ?_; rotate_left; · (intro w hSw; go_simp; (try with_reducible rfl)))
 (try simp only [Act.put, qI, qO, qU])
 (refine lk 3 33 ?_ ?_ ?_; rotate_left; · (intro w hSw; go_simp; (try with_reducible rfl)))
 (try simp only [Act.put, qI, qO, qU])
 (refine lk 4 34 ?_ ?_ ?_; rotate_left; · (intro w hSw; (try dsimp only at hSw); have c_ := wk39 hSw.1; go_simp; (try with_reducible rfl)))
 (try simp only [Act.put, qI, qO, qU])
 (refine lk 5 35 ?_ ?_ ?_; rotate_left; · (intro w hSw; go_simp; (try with_reducible rfl)))
 (try simp only [Act.put, qI, qO, qU])
 (refine lk 6 36 ?_ ?_ ?_; rotate_left; · (intro w hSw; go_simp; (try with_reducible rfl)))
 (try simp only [Act.put, qI, qO, qU])
 (refine lk 7 37 ?_ ?_ ?_; rotate_left; · (intro w hSw; go_simp; (try with_reducible rfl)))
 (try simp only [Act.put, qI, qO, qU])
 (refine lk 8 38 ?_ ?_ ?_; rotate_left; · (intro w hSw; (try dsimp only at hSw); have c_ := wk0 hSw.1; go_simp; (try with_reducible rfl)))
 (try simp only [Act.put, qI, qO, qU])
 (refine lk 9 39 ?_ ?_ ?_; rotate_left; · (intro w hSw; go_simp; (try with_reducible rfl)))
 (try simp only [Act.put, qI, qO, qU])
 (refine lk 10 40 ?_ ?_ ?_; rotate_left; · (intro w hSw; go_simp; (try with_reducible rfl)))
 (try simp only [Act.put, qI, qO, qU])
 (refine lk 11 41 ?_ ?_ ?_; rotate_left; · (intro w hSw; (try dsimp only at hSw); have c_ := fl_c hSw.2; go_simp; (try with_reducible rfl)))
 (try simp only [Act.put, qI, qO, qU])
 (refine lk 12 42 ?_ ?_ ?_; rotate_left; · (intro w hSw; go_simp; (try with_reducible rfl)))
 (try simp only [Act.put, qI, qO, qU])
 (refine lk 13 43 ?_ ?_ ?_; rotate_left; · (intro w hSw; go_simp; (try with_reducible rfl)))
 (try simp only [Act.put, qI, qO, qU])
 (refine lk 14 44 ?_ ?_ ?_; rotate_left; · (intro w hSw; go_simp; (try with_reducible rfl)))
 (try simp only [Act.put, qI, qO, qU])
 (refine lk 15 45 ?_ ?_ ?_; rotate_left; · (intro w hSw; (try dsimp only at hSw); have c_ := wk1 hSw.1; go_simp; (try with_reducible rfl)))
 (try simp only [Act.put, qI, qO, qU])
 (refine lk 16 46 ?_ ?_ ?_; rotate_left; · (intro w hSw; go_simp; (try with_reducible rfl)))
 (try simp only [Act.put, qI, qO, qU])
 (refine lk 17 47 ?_ ?_ ?_; rotate_left; · (intro w hSw; go_simp; (try with_reducible rfl)))
 (try simp only [Act.put, qI, qO, qU])
 refine lrdy 18 fun K hK => ?_
 go_simp
 (go_at_call 216; refine (cR (HH.pick 4 rfl)).mono ?_; rintro e u1 ⟨A2, c2, rfl, HX⟩; clear HH; have HH := (((((((HX.pick 6 rfl).pick 2 rfl).pick 6 rfl).pick 6 rfl).pick 6 rfl).pick 6 rfl).pick 6 rfl); clear HX)
 refine hK.out _ _ (fun _ => by (try dsimp only); exact ⟨(HH.pick 1 rfl).blk, (HH.pick 4 rfl).blk⟩) ?_
 clear hK K
 (try simp only [Act.put, qI, qO, qU])
 have hHeld := (show Blk _ xq 175 (wkC fq root page A cA P dirty e0 e1 e2 tv (.slice A_ kn c_)) ∧ Blk _ fq 202 (flC gq mq q dd) from ⟨(HH.pick 1 rfl).blk, (HH.pick 4 rfl).blk⟩)
 refine lrdy 19 fun K hK => ?_
 refine step_append_G (E := numE .i64) (some 49) rfl rfl (.tmp 34) (.tmp 48) 43 rfl 3 (.int .i64 0) 8 Tryz.underlying43 int_info rfl (.slice A_ kn c_) an rfl (HH.pick 3 rfl).own A2 km c2 rp rfl HH.own.src hkm.out (by rw [hkn.out]; omega) (fun v' u' ho5 hc5 hb5 => ?_)
 obtain ⟨A5, c5, rfl, hx1, hx2⟩ := ho5.form
 clear hx1 hx2
 have H4 := (((((((((HH.pick 3 rfl).app ho5 hc5 hb5).pick 6 rfl).pick 6 rfl).pick 6 rfl).pick 6 rfl).pick 5 rfl).pick 5 rfl).pick 6 rfl)
 clear ho5 hc5 hb5 HH
 refine hK.out _ _ (fun _ => by (try dsimp only); exact ⟨H4.blk, (H4.pick 4 rfl).blk⟩) ?_
 clear hK K
 (try simp only [Act.put, qI, qO, qU])
 have hHeld := (show Blk _ xq 175 (wkC fq root page A cA P dirty e0 e1 e2 tv (.slice A_ kn c_)) ∧ Blk _ fq 202 (flC gq mq q dd) from ⟨H4.blk, (H4.pick 4 rfl).blk⟩)
 refine lrdy 20 fun K hK => ?_
 go_simp
 refine hK.out _ _ (fun _ => by (try dsimp only); exact hHeld) ?_
 clear hK K
 (try simp only [Act.put, qI, qO, qU])
 refine lrdy 21 fun K hK => ?_
 go_simp
 refine hK.out _ _ (fun _ => by (try dsimp only); exact hHeld) ?_
 clear hK K
 (try simp only [Act.put, qI, qO, qU])
 have f39 := H4.blk.frozen 39; have c39 := wk39 H4.blk
 have H6 := H4.cellSet 39 (.slice A5 (an ++ rp).length c5)
 rw [wk_set39] at H6
 clear H4
 refine lrdy 22 fun K hK => ?_
 go_simp
 refine hK.out _ _ (fun e => absurd rfl e) ?_
 clear hK K
 (try simp only [Act.put, qI, qO, qU])
 refine late_done (by kernel_rfl) ?_ _
 refine NoPanic.normal ?_
 clear f39 c39
 go_wp2_with fail
 go_end0
 have el : (an ++ rp).length = kn + km := by rw [List.length_append, hkn.out, hkm.out]
 rw [el] at H6
 (try simp only [hkn.out, hkm.out])
 refine ⟨by first | exact rfl | exact trivial, .slice A5 (kn + km) c5, (((((((H6.pick 6 rfl).pick 6 rfl).pick 6 rfl).pick 4 rfl).pick 6 rfl).pick 5 rfl).pick 6 rfl).tail⟩
end
end Go.Proofs.YtmbgepafpcbakaaGreatDoor
