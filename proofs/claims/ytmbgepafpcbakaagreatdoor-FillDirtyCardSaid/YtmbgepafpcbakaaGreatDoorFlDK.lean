/-
 The program's filler: room, take.
-/
import Derived.Test.YtmbgepafpcbakaaGreatDoorFlAK
import Derived.Test.YtmbgepafpcbakaaGreatDoorGFpK
import Derived.Deep.CutRange
namespace Go.Proofs.YtmbgepafpcbakaaGreatDoor
open Go.RowKit Go.Maps Go.Shelf
section
variable {w0 w w' : World} {xq fq mq dd gq mp q hp hb t n a m most : Nat} {L : List Int} {d : Gd} {root page : Int} {A : Option Addr} {cA : Nat} {P : Pa} {dirty : Bool} {e0 e1 e2 : Ent} {tv av : Value} {tk an : List Int} {l : List Th}
theorem SepC.kLeft (H : SepC w0 w (gdT dd gq mp q hp hb t n a m most L (d) :: l)) : Calls Tryz.prog 42 #[.pointer (some ⟨q, 0, none⟩)] w fun e w' => e = .returned (.int .i64 d.s.fr.length) ∧ Chg [] w w' := by
 obtain ⟨G, v, H1⟩ := H.gO
 exact H1.at2.sLeft
theorem SepC.dropOwn {P1 P2 P3 P4 P5 P6 Q : Th} (H : SepC w0 w (P1 :: P2 :: P3 :: P4 :: P5 :: P6 :: Q :: l)) : SepC w0 w (P1 :: P2 :: P3 :: P4 :: P5 :: P6 :: l) :=
 (H.pick 6 rfl).tail
set_option maxHeartbeats 1000000 in
theorem SepC.flNot {xb : Nat} (H : SepC w0 w (blkT xb 170 #[.pointer (some ⟨xq, 0, none⟩)] :: blkT xq 175 (wkC fq root page A cA P dirty e0 e1 e2 (tv) (av)) :: ownT (numE .i64) 3 (tv) (tk) :: ownT (numE .i64) 3 (av) (an) :: blkT fq 202 (flC gq mq q dd) :: gdT dd gq mp q hp hb t n a m most L (d) :: mapT mq L :: l)) (x : Int) : Calls Tryz.prog 214 #[.int .i64 x, .pointer (some ⟨xb, 0, none⟩)] w fun e w' => e = .returned (.bool (!tk.contains x)) ∧ Chg [] w w' := by
 have ho := (H.pick 2 rfl).own
 obtain ⟨A_, c_, rfl, _, _⟩ := ho.form
 have c38 := wk38 (H.pick 1 rfl).blk
 have b0 := H.blk.cell 0
 simp only [qA, qZ] at b0
 have hC := fun z (y_ : Chg [] w z) => Contains_any A_ tk.length c_ tk x z (ho.slg.new y_)
 generalize tk.contains x = cb at *
 generalize tk.length = N at *
 clear H ho
 go_enter Tryz.func214, Tryz.ntmps214
 go_wp2_with fail
 refine (hC _ (Chg.refl [] w)).mono ?_; rintro e w1 ⟨rfl, rfl⟩
 go_wp2_with fail
 go_ret
 exact ⟨rfl, Chg.refl [] _⟩
set_option maxRecDepth 100000 in
set_option maxHeartbeats 8000000 in
theorem SepC.flRoom (H : SepC w0 w (blkT xq 175 (wkC fq root page A cA P dirty e0 e1 e2 (tv) (av)) :: ownT (numE .i64) 3 (tv) (tk) :: ownT (numE .i64) 3 (av) (an) :: blkT fq 202 (flC gq mq q dd) :: gdT dd gq mp q hp hb t n a m most L (d) :: mapT mq L :: l)) : Calls Tryz.prog 156 #[.pointer (some ⟨xq, 0, none⟩)] w fun e w' => e = .returned (.bool (roomF d tk).isSome) ∧ SepC w0 w' (blkT xq 175 (wkC fq root page A cA P dirty e0 e1 e2 (tv) (av)) :: ownT (numE .i64) 3 (tv) (tk) :: ownT (numE .i64) 3 (av) (an) :: blkT fq 202 (flC gq mq q dd) :: gdT dd gq mp q hp hb t n a m most L ((roomF d tk).getD d) :: mapT mq L :: l) := by
 have G := (H.pick 4 rfl).gIn
 have hok := G.ok.sr
 clear G
 have cL := fun {z : World} {l' : List Th} (H' : SepC w0 z (gdT dd gq mp q hp hb t n a m most L (d) :: l')) => H'.kLeft
 have H1 := H.alloc #[.pointer (some ⟨xq, 0, none⟩)] 170
 clear H
 have b0 := H1.blk.cell 0; have c0 := wk0 (H1.pick 1 rfl).blk; have d0 := fl_c (H1.pick 4 rfl).blk
 simp only [qA, qZ] at b0
 by_cases hf : d.s.fr.length = 0
 rotate_left
 ·rw [room_free hf]
  have hlf : 0 < d.s.fr.length := by omega
  simp only [Option.isSome_some, Option.getD_some]
  generalize d.s.fr.length = N at *
  replace hf := Lib.hid hf
  go_enter Tryz.func156, Tryz.ntmps156
  go_wp2_with fail
  refine (cL (H1.pick 5 rfl)).mono ?_; rintro e w2 ⟨rfl, y2⟩
  clear cL b0 c0 d0
  go_wp2_with fail
  go_ret
  exact ⟨rfl, (H1.new y2).tail⟩
 have hfull := room_full (pins := tk) hf hok
 obtain ⟨RR, hRR⟩ : ∃ RR, roomF d tk = RR := ⟨_, rfl⟩
 rw [hRR] at hfull ⊢
 clear hRR
 have cAl := fun {z : World} {l' : List Th} (H' : SepC w0 z (gdT dd gq mp q hp hb t n a m most L (d) :: l')) => H'.kPages
 have cD := fun (x : Int) (hx : i64B x) {z : World} {l' : List Th} (H' : SepC w0 z (gdT dd gq mp q hp hb t n a m most L (d) :: l')) => H'.kDrop x hx
 have hNot := fun {xb : Nat} {z : World} {l' : List Th} (H' : SepC w0 z (blkT xb 170 #[.pointer (some ⟨xq, 0, none⟩)] :: blkT xq 175 (wkC fq root page A cA P dirty e0 e1 e2 (tv) (av)) :: ownT (numE .i64) 3 (tv) (tk) :: ownT (numE .i64) 3 (av) (an) :: blkT fq 202 (flC gq mq q dd) :: gdT dd gq mp q hp hb t n a m most L (d) :: mapT mq L :: l')) (x : Int) => H'.flNot x
 have hle := hok.le256
 have hFr : ∀ x ∈ d.s.L.map Pg.f, IntKind.i64.min ≤ x ∧ x ≤ IntKind.i64.max := fun x hx => by
  obtain ⟨q_, hq_, rfl⟩ := List.mem_map.1 hx
  have h1 := hok.inL hq_; have h2 := hok.le; have h3 := hok.n256
  have h4 : IntKind.i64.min = -9223372036854775808 := rfl; have h5 : IntKind.i64.max = 9223372036854775807 := rfl
  omega
 have hLm : (d.s.L.map Pg.f).length = d.s.L.length := List.length_map _
 obtain ⟨N7, hN7⟩ : ∃ N7, d.s.L.length = N7 := ⟨_, rfl⟩
 rw [hN7] at hfull hle hLm
 rw [hLm] at cAl
 generalize hz_ : d.s.L.map Pg.f = F7 at *
 clear hz_ hN7 hok
 rw [hf] at cL
 clear hf
 replace hLm := Lib.hid hLm; replace hfull := Lib.hid hfull; replace hle := Lib.hid hle
 go_enter Tryz.func156, Tryz.ntmps156
 go_wp2_with fail
 skip
 refine (cL (H1.pick 5 rfl)).mono ?_; rintro e w2 ⟨rfl, y2⟩
 replace H1 := H1.new y2
 clear cL y2 b0 c0 d0
 have b0 := H1.blk.cell 0; have c0 := wk0 (H1.pick 1 rfl).blk; have d0 := fl_c (H1.pick 4 rfl).blk
 simp only [qA, qZ] at b0
 go_wp2_with fail
 refine (cAl (H1.pick 5 rfl)).mono ?_; rintro e w3 ⟨A7, c7, rfl, HX⟩
 clear cAl H1 b0 c0 d0
 generalize w.heap.size = xb at *
 have HX0 : SepC w0 w3 (blkT xb 170 #[.pointer (some ⟨xq, 0, none⟩)] :: blkT xq 175 (wkC fq root page A cA P dirty e0 e1 e2 (tv) (av)) :: ownT (numE .i64) 3 (tv) (tk) :: ownT (numE .i64) 3 (av) (an) :: blkT fq 202 (flC gq mq q dd) :: gdT dd gq mp q hp hb t n a m most L (d) :: mapT mq L :: ownT (numE .i64) 3 (.slice A7 N7 c7) F7 :: l) := ((((((((HX.pick 0 rfl).pick 7 rfl).pick 2 rfl).pick 7 rfl).pick 7 rfl).pick 7 rfl).pick 7 rfl).pick 7 rfl)
 clear HX
 have hs7 := (ownI_G.2 (HX0.pick 7 rfl).own).slk hFr (by have := hle.out; have := hLm.out; omega)
 have hI := indexI_any (fun x => !tk.contains x) 214 xb (enters_of Tryz.func214 (by kernel_rfl) rfl) A7 N7 c7 F7 w3 (fun x W hW => hNot (l' := ownT (numE .i64) 3 (.slice A7 N7 c7) F7 :: l) (HX0.new hW) x) hs7
 clear hNot hs7
 generalize hfi : fstI (fun x => !tk.contains x) F7 = fi at *
 clear hfi
 go_wp2_with fail
 refine hI.mono ?_; rintro e w4 ⟨rfl, y4⟩
 clear hI
 have HH := HX0.new y4
 clear HX0 y4
 rcases hfull.out with ⟨h1, h2⟩ | ⟨j, f, h1, h2, h3, h4, h5, h6⟩
 ·subst h1
  subst h2
  clear cD hfull
  go_upto_region 5 with fail
  replace HH := HH.new (Chg.refl [] w4).drew
  refine wp_region_noPanic ?_
  refine wp_region_held_drew (S := (fun w' => Blk w' xb 170 #[.pointer (some ⟨xq, 0, none⟩)] ∧ Blk w' xq 175 (wkC fq root page A cA P dirty e0 e1 e2 tv av) ∧ Blk w' fq 202 (flC gq mq q dd))) (by kernel_rfl) ?_ (fun hHeld => ?_)
  ·exact ⟨HH.blk, (HH.pick 1 rfl).blk, (HH.pick 4 rfl).blk⟩
  refine tq 0 25 _ ?_
  refine tq 1 26 _ ?_
  refine tq 2 27 _ ?_
  (refine tko 3 28 ?_)
  (try simp only [Act.put, qI, qO, qU])
  (refine tko 4 29 ?_)
  (refine tko 5 30 ?_)
  (refine tko 6 31 ?_)
  (refine tko 7 32 ?_)
  (try simp only [Act.put, qI, qO, qU])
  (refine tko 8 33 ?_)
  (refine tko 9 34 ?_)
  (refine tko 10 35 ?_)
  (refine tko 11 36 ?_)
  (try simp only [Act.put, qI, qO, qU])
  (refine tko 12 37 ?_)
  (refine tko 13 38 ?_)
  (refine tko 14 39 ?_)
  refine tq 15 40 _ ?_
  (try simp only [Act.put, qI, qO, qU])
  refine tq 16 2 _ ?_
  (try simp only [Act.put, qI, qO, qU])
  refine wpAnyH_done (by kernel_rfl) ?_ _
  refine NoPanic.normal ?_
  go_wp2_with fail
  go_ret
  exact ⟨rfl, HH.tail.dropOwn⟩
 subst h1
 subst h2
 have hjN : decide ((j : Int) ≥ 0) = true := by simp
 have hjz : (j : Int) < (N7 : Int) := by omega
 have hcD := fun {z : World} {l' : List Th} (H' : SepC w0 z (gdT dd gq mp q hp hb t n a m most L (d) :: l')) => cD f h6 H'
 rw [h5] at hcD
 clear cD hfull
 obtain ⟨b_, off, x_, eA_, _, hx, hat⟩ := SlN.get ((HH.pick 7 rfl).own.slg) h3
 subst eA_
 rw [h4] at hx; cases hx
 have hld := fun (z : World) (l' : List Th) (H' : SepC w0 z (ownT (numE .i64) 3 (.slice (some ⟨b_, off, none⟩) N7 c7) F7 :: l')) => (show z.cell? ⟨b_, off + j, none⟩ = some (.int .i64 f) from by
  obtain ⟨b2_, o2_, x2_, e2_, _, h2_, t2_⟩ := SlN.get (H'.own.slg) h3
  cases e2_
  rw [h4] at h2_; cases h2_
  exact t2_)
 clear hat h5 h4
 go_upto_region 5 with fail
 replace HH := HH.new (Chg.refl [] w4).drew
 refine wp_region_noPanic ?_
 refine wp_region_held_drew (S := (fun w' => Blk w' xb 170 #[.pointer (some ⟨xq, 0, none⟩)] ∧ Blk w' xq 175 (wkC fq root page A cA P dirty e0 e1 e2 tv av) ∧ Blk w' fq 202 (flC gq mq q dd) ∧ w'.cell? ⟨b_, off + j, none⟩ = some (.int .i64 f))) (by kernel_rfl) ?_ (fun hHeld => ?_)
 ·exact ⟨HH.blk, (HH.pick 1 rfl).blk, (HH.pick 4 rfl).blk, hld _ _ (HH.pick 7 rfl)⟩
 refine tq 0 25 _ ?_
 refine tq 1 26 _ ?_
 refine tq 2 27 _ ?_
 (refine tkz 3 28 ?_ ?_ ?_; rotate_left; · (intro w hSw; (try dsimp only at hSw); have c_ := hSw.1.cell 0; simp only [qA, qZ] at c_; go_simp; (try with_reducible rfl)))
 (try simp only [Act.put, qI, qO, qU])
 refine tq 4 29 _ ?_
 refine tq 5 30 _ ?_
 (refine tkz 6 31 ?_ ?_ ?_; rotate_left; · (intro w hSw; (try dsimp only at hSw); have c_ := wk0 hSw.2.1; go_simp; (try with_reducible rfl)))
 refine tq 7 32 _ ?_
 (try simp only [Act.put, qI, qO, qU])
 refine tq 8 33 _ ?_
 (refine tkz 9 34 ?_ ?_ ?_; rotate_left; · (intro w hSw; (try dsimp only at hSw); have c_ := fl_c hSw.2.2.1; go_simp; (try with_reducible rfl)))
 refine tq 10 35 _ ?_
 refine tq 11 36 _ ?_
 (try simp only [Act.put, qI, qO, qU])
 refine tq 12 37 _ ?_
 (refine tkz 13 38 ?_ ?_ ?_; rotate_left; · (intro w hSw; (try dsimp only at hSw); have c_ := hSw.2.2.2; go_simp; (try with_reducible rfl)))
 (try simp only [Act.put, qI, qO, qU])
 refine rdy 14 fun K hK => ?_
 go_simp
 (go_at_call 65; refine (hcD (HH.pick 5 rfl)).mono ?_; rintro e u1 ⟨rfl, HY⟩; clear HH; have HH := (((((HY.pick 5 rfl).pick 5 rfl).pick 5 rfl).pick 5 rfl).pick 5 rfl); clear HY)
 refine hK.out _ _ (by (try dsimp only); exact ⟨HH.blk, (HH.pick 1 rfl).blk, (HH.pick 4 rfl).blk, hld _ _ (HH.pick 7 rfl)⟩) (fun hHeld => ?_)
 clear hK K
 (try simp only [Act.put, qI, qO, qU])
 refine tq 15 40 _ ?_
 refine tq 16 2 _ ?_
 (try simp only [Act.put, qI, qO, qU])
 refine wpAnyH_done (by kernel_rfl) ?_ _
 refine NoPanic.normal ?_
 clear hld hcD
 go_wp2_with fail
 go_ret
 exact ⟨rfl, HH.tail.dropOwn⟩
set_option maxRecDepth 100000 in
set_option maxHeartbeats 8000000 in
theorem SepC.flTake (H : SepC w0 w (blkT xq 175 (wkC fq root page A cA P dirty e0 e1 e2 (tv) (av)) :: ownT (numE .i64) 3 (tv) (tk) :: ownT (numE .i64) 3 (av) (an) :: blkT fq 202 (flC gq mq q dd) :: gdT dd gq mp q hp hb t n a m most L (d) :: mapT mq L :: l)) (hlen : tk.length ≤ 1000) (k : Ky) : Calls Tryz.prog 87 #[.pointer (some ⟨xq, 0, none⟩), .agg k.cs] w fun e w' => e = .returned (.bool (takeF n L d tk k).2.isSome) ∧ ∃ tv', SepC w0 w' (blkT xq 175 (wkC fq root page A cA P dirty e0 e1 e2 (tv') (av)) :: ownT (numE .i64) 3 (tv') (pinF tk (takeF n L d tk k).2) :: ownT (numE .i64) 3 (av) (an) :: blkT fq 202 (flC gq mq q dd) :: gdT dd gq mp q hp hb t n a m most L ((takeF n L d tk k).1) :: mapT mq L :: l) := by
 have cF := fun {z : World} {l' : List Th} (H' : SepC w0 z (gdT dd gq mp q hp hb t n a m most L (d) :: l')) => H'.kFind k
 have cR := fun {z : World} {l' : List Th} (H' : SepC w0 z (blkT xq 175 (wkC fq root page A cA P dirty e0 e1 e2 (tv) (av)) :: ownT (numE .i64) 3 (tv) (tk) :: ownT (numE .i64) 3 (av) (an) :: blkT fq 202 (flC gq mq q dd) :: gdT dd gq mp q hp hb t n a m most L (d) :: mapT mq L :: l')) => H'.flRoom
 cases hp_ : pgOf d.s.L k with
 | some tp =>
  rw [take_there hp_]
  unfold findV at cF
  rw [hp_] at cF
  simp only [Option.map_some, Option.getD_some, Option.isSome_some, pinF] at cF ⊢
  clear hp_ cR
  generalize tp.f = tf at *
  obtain ⟨kg, kl, kr⟩ := k
  simp only [Ky.cs] at cF ⊢
  have H1 := H.alloc #[.int .i64 kg, .int .i64 kl, .int .i64 kr] 85
  clear H
  go_enter Tryz.func87, Tryz.ntmps87
  go_upto_region 1 with fail
  generalize w.alloc (.cells #[.int .i64 kg, .int .i64 kl, .int .i64 kr] 85) = w1 at *
  generalize w.heap.size = kb at *
  have HH := H1.new (Chg.refl [] w1).drew
  clear H1
  refine wp_region_noPanic ?_
  refine wp_region_held_drew (S := (fun w' => Blk w' kb 85 #[.int .i64 kg, .int .i64 kl, .int .i64 kr] ∧ Blk w' xq 175 (wkC fq root page A cA P dirty e0 e1 e2 tv av) ∧ Blk w' fq 202 (flC gq mq q dd))) (by kernel_rfl) ?_ (fun hHeld => ?_)
  ·exact ⟨HH.blk, (HH.pick 1 rfl).blk, (HH.pick 4 rfl).blk⟩
  refine tq 0 8 _ ?_
  refine tq 1 9 _ ?_
  (try simp only [Act.put, qI, qO, qU])
  refine tq 2 10 _ ?_
  (refine tkz 3 11 ?_ ?_ ?_; rotate_left; · (intro w hSw; (try dsimp only at hSw); have c_ := wk0 hSw.2.1; go_simp; (try with_reducible rfl)))
  refine tq 4 12 _ ?_
  refine tq 5 13 _ ?_
  (try simp only [Act.put, qI, qO, qU])
  (refine tkz 6 14 ?_ ?_ ?_; rotate_left; · (intro w hSw; (try dsimp only at hSw); have c_ := fl_c hSw.2.2; go_simp; (try with_reducible rfl)))
  (refine tkz 7 15 ?_ ?_ ?_; rotate_left; · (intro w hSw; (try dsimp only at hSw); have c_ := hSw.1.cell 0; have d_ := hSw.1.cell 1; have e_ := hSw.1.cell 2; simp only [qA, qZ, qS] at c_ d_ e_; go_simp; (try with_reducible rfl)))
  (try simp only [Act.put, qI, qO, qU])
  refine rdy 8 fun K hK => ?_
  go_simp
  (go_at_call 38; refine (cF (HH.pick 5 rfl)).mono ?_; rintro e u1 ⟨rfl, y1⟩; replace HH := HH.new y1; clear y1)
  refine hK.out _ _ (by (try dsimp only); exact ⟨HH.blk, (HH.pick 1 rfl).blk, (HH.pick 4 rfl).blk⟩) (fun hHeld => ?_)
  clear hK K
  (try simp only [Act.put, qI, qO, qU])
  refine tq 9 7 _ ?_
  refine tq 10 17 _ ?_
  refine tq 11 18 _ ?_
  (try simp only [Act.put, qI, qO, qU])
  refine tq 12 5 _ ?_
  refine tq 13 6 _ ?_
  (try simp only [Act.put, qI, qO, qU])
  refine wpAnyH_done (by kernel_rfl) ?_ _
  refine NoPanic.normal ?_
  clear hHeld cF
  have HZ := HH.tail
  clear HH
  have ho := (HZ.pick 1 rfl).own
  obtain ⟨A_, c_, ev, _, _⟩ := ho.form
  obtain ⟨kn, hkn⟩ : ∃ kn, tk.length = kn := ⟨_, rfl⟩
  rw [hkn] at ev hlen
  subst ev
  have c38 := wk38 HZ.blk
  replace hkn := Lib.hid hkn
  have H2 := HZ.alloc #[.int .i64 tf] 3
  have ho4 := ho.new ((Chg.refl [] u1).alloc (.cells #[.int .i64 tf] 3))
  have hsrc : Src (u1.alloc (.cells #[.int .i64 tf] 3)) (numE .i64).k (some ⟨u1.heap.size, 0, none⟩) 1 1 ((numE .i64).all [tf]) := (OwnG.lit (E := numE .i64) (L := [tf]) (Blk.new u1 3 #[.int .i64 tf]) (by simp)).src
  clear ho HZ
  go_wp2_with (at_builtin; (refine wpList_append_G (E := numE .i64) rfl _ _ 43 rfl 3 (.int .i64 0) 8 Tryz.underlying43 int_info rfl (.slice A_ kn c_) tk rfl ho4 (some ⟨u1.heap.size, 0, none⟩) 1 1 [tf] rfl hsrc rfl (by rw [hkn.out]; omega) ?_); (intro v5 w5 ho5 hc5 hb5); (clear hsrc c38); (have H5 := (H2.pick 2 rfl).app ho5 hc5 hb5); (obtain ⟨A5, c5, rfl, _, _⟩ := ho5.form); (clear ho4 H2 ho5 hc5 hb5); (have H8 := H5.pick 2 rfl); (have f38 := H8.blk.frozen 38); (have c38 := wk38 H8.blk); (have H9 := H8.cellSet 38 (.slice A5 (tk ++ [tf]).length c5)); (rw [wk_set38] at H9); (clear H8 H5))
  go_ret
  have el : (tk ++ [tf]).length = kn + 1 := by rw [List.length_append, hkn.out]; rfl
  rw [el] at H9
  (try simp only [hkn.out])
  exact ⟨rfl, .slice A5 (kn + 1) c5, (((((((H9.pick 6 rfl).pick 6 rfl).pick 6 rfl).pick 6 rfl).pick 5 rfl).pick 5 rfl).pick 6 rfl).tail⟩
 | none =>
  unfold findV at cF
  rw [hp_] at cF
  simp only [Option.map_none, Option.getD_none, Option.isSome_none] at cF
  cases hr_ : roomF d tk with
  | none =>
   rw [take_none hp_ hr_]
   rw [hr_] at cR
   simp only [Option.isSome_none, Option.getD_none, pinF] at cR ⊢
   clear hp_ hr_
   obtain ⟨kg, kl, kr⟩ := k
   simp only [Ky.cs] at cF ⊢
   have H1 := H.alloc #[.int .i64 kg, .int .i64 kl, .int .i64 kr] 85
   clear H
   go_enter Tryz.func87, Tryz.ntmps87
   go_upto_region 1 with fail
   generalize w.alloc (.cells #[.int .i64 kg, .int .i64 kl, .int .i64 kr] 85) = w1 at *
   generalize w.heap.size = kb at *
   have HH := H1.new (Chg.refl [] w1).drew
   clear H1
   refine wp_region_noPanic ?_
   refine wp_region_held_drew (S := (fun w' => Blk w' kb 85 #[.int .i64 kg, .int .i64 kl, .int .i64 kr] ∧ Blk w' xq 175 (wkC fq root page A cA P dirty e0 e1 e2 tv av) ∧ Blk w' fq 202 (flC gq mq q dd))) (by kernel_rfl) ?_ (fun hHeld => ?_)
   ·exact ⟨HH.blk, (HH.pick 1 rfl).blk, (HH.pick 4 rfl).blk⟩
   refine tq 0 8 _ ?_
   refine tq 1 9 _ ?_
   refine tq 2 10 _ ?_
   (try simp only [Act.put, qI, qO, qU])
   (refine tkz 3 11 ?_ ?_ ?_; rotate_left; · (intro w hSw; (try dsimp only at hSw); have c_ := wk0 hSw.2.1; go_simp; (try with_reducible rfl)))
   refine tq 4 12 _ ?_
   refine tq 5 13 _ ?_
   (refine tkz 6 14 ?_ ?_ ?_; rotate_left; · (intro w hSw; (try dsimp only at hSw); have c_ := fl_c hSw.2.2; go_simp; (try with_reducible rfl)))
   (try simp only [Act.put, qI, qO, qU])
   (refine tkz 7 15 ?_ ?_ ?_; rotate_left; · (intro w hSw; (try dsimp only at hSw); have c_ := hSw.1.cell 0; have d_ := hSw.1.cell 1; have e_ := hSw.1.cell 2; simp only [qA, qZ, qS] at c_ d_ e_; go_simp; (try with_reducible rfl)))
   (try simp only [Act.put, qI, qO, qU])
   refine rdy 8 fun K hK => ?_
   go_simp
   (go_at_call 38; refine (cF (HH.pick 5 rfl)).mono ?_; rintro e u1 ⟨rfl, y1⟩; replace HH := HH.new y1; clear y1)
   refine hK.out _ _ (by (try dsimp only); exact ⟨HH.blk, (HH.pick 1 rfl).blk, (HH.pick 4 rfl).blk⟩) (fun hHeld => ?_)
   clear hK K
   (try simp only [Act.put, qI, qO, qU])
   refine tq 9 7 _ ?_
   refine tq 10 17 _ ?_
   refine tq 11 18 _ ?_
   refine tq 12 5 _ ?_
   (try simp only [Act.put, qI, qO, qU])
   refine tq 13 6 _ ?_
   (try simp only [Act.put, qI, qO, qU])
   refine wpAnyH_done (by kernel_rfl) ?_ _
   refine NoPanic.normal ?_
   clear hHeld cF
   go_wp2_with fail
   refine (cR HH.tail).mono ?_; rintro e u2 ⟨rfl, HX⟩
   clear cR HH
   go_wp2_with fail
   go_ret
   exact ⟨rfl, tv, HX⟩
  | some d2 =>
   rw [take_some hp_ hr_]
   have hgf : getF_ n L d2 k = (makeG n L d2 k, if makeGB n L d2 k then some (makeGV n L d2 k) else none) := rfl
   rw [hgf]
   rw [hr_] at cR
   simp only [Option.isSome_some, Option.getD_some] at cR ⊢
   clear hgf hp_ hr_
   have cM := fun {z : World} {l' : List Th} (H' : SepC w0 z (gdT dd gq mp q hp hb t n a m most L (d2) :: l')) => H'.kMake k
   generalize makeGB n L d2 k = mb at *
   generalize makeGV n L d2 k = mv at *
   generalize makeG n L d2 k = d3 at *
   cases mb
   ·simp only [Bool.false_eq_true, if_false, Option.isSome_none, pinF]
    obtain ⟨kg, kl, kr⟩ := k
    simp only [Ky.cs] at cF cM ⊢
    have H1 := H.alloc #[.int .i64 kg, .int .i64 kl, .int .i64 kr] 85
    clear H
    go_enter Tryz.func87, Tryz.ntmps87
    go_upto_region 1 with fail
    generalize w.alloc (.cells #[.int .i64 kg, .int .i64 kl, .int .i64 kr] 85) = w1 at *
    generalize w.heap.size = kb at *
    have HH := H1.new (Chg.refl [] w1).drew
    clear H1
    refine wp_region_noPanic ?_
    refine wp_region_held_drew (S := (fun w' => Blk w' kb 85 #[.int .i64 kg, .int .i64 kl, .int .i64 kr] ∧ Blk w' xq 175 (wkC fq root page A cA P dirty e0 e1 e2 tv av) ∧ Blk w' fq 202 (flC gq mq q dd))) (by kernel_rfl) ?_ (fun hHeld => ?_)
    ·exact ⟨HH.blk, (HH.pick 1 rfl).blk, (HH.pick 4 rfl).blk⟩
    refine tq 0 8 _ ?_
    refine tq 1 9 _ ?_
    refine tq 2 10 _ ?_
    (refine tkz 3 11 ?_ ?_ ?_; rotate_left; · (intro w hSw; (try dsimp only at hSw); have c_ := wk0 hSw.2.1; go_simp; (try with_reducible rfl)))
    (try simp only [Act.put, qI, qO, qU])
    refine tq 4 12 _ ?_
    refine tq 5 13 _ ?_
    (refine tkz 6 14 ?_ ?_ ?_; rotate_left; · (intro w hSw; (try dsimp only at hSw); have c_ := fl_c hSw.2.2; go_simp; (try with_reducible rfl)))
    (refine tkz 7 15 ?_ ?_ ?_; rotate_left; · (intro w hSw; (try dsimp only at hSw); have c_ := hSw.1.cell 0; have d_ := hSw.1.cell 1; have e_ := hSw.1.cell 2; simp only [qA, qZ, qS] at c_ d_ e_; go_simp; (try with_reducible rfl)))
    (try simp only [Act.put, qI, qO, qU])
    refine rdy 8 fun K hK => ?_
    go_simp
    (go_at_call 38; refine (cF (HH.pick 5 rfl)).mono ?_; rintro e u1 ⟨rfl, y1⟩; replace HH := HH.new y1; clear y1)
    refine hK.out _ _ (by (try dsimp only); exact ⟨HH.blk, (HH.pick 1 rfl).blk, (HH.pick 4 rfl).blk⟩) (fun hHeld => ?_)
    clear hK K
    (try simp only [Act.put, qI, qO, qU])
    refine tq 9 7 _ ?_
    (try simp only [Act.put, qI, qO, qU])
    refine tq 10 17 _ ?_
    refine tq 11 18 _ ?_
    refine tq 12 5 _ ?_
    refine tq 13 6 _ ?_
    (try simp only [Act.put, qI, qO, qU])
    refine wpAnyH_done (by kernel_rfl) ?_ _
    refine NoPanic.normal ?_
    clear hHeld cF
    go_wp2_with fail
    refine (cR (l' := blkT kb 85 #[.int .i64 kg, .int .i64 kl, .int .i64 kr] :: l) (((((((HH.pick 0 rfl).pick 6 rfl).pick 6 rfl).pick 6 rfl).pick 6 rfl).pick 6 rfl).pick 6 rfl)).mono ?_; rintro e u2 ⟨rfl, HX⟩
    clear cR HH
    have HH0 := (((((((HX.pick 5 rfl).pick 5 rfl).pick 5 rfl).pick 5 rfl).pick 5 rfl).pick 5 rfl).pick 6 rfl)
    clear HX
    go_upto_region 3 with fail
    have HH := HH0.new (Chg.refl [] _).drew
    clear HH0
    refine wp_region_noPanic ?_
    refine wp_region_held_drew (S := (fun w' => Blk w' kb 85 #[.int .i64 kg, .int .i64 kl, .int .i64 kr] ∧ Blk w' xq 175 (wkC fq root page A cA P dirty e0 e1 e2 tv av) ∧ Blk w' fq 202 (flC gq mq q dd))) (by kernel_rfl) ?_ (fun hHeld => ?_)
    ·exact ⟨HH.blk, (HH.pick 1 rfl).blk, (HH.pick 4 rfl).blk⟩
    refine tq 0 26 _ ?_
    (try simp only [Act.put, qI, qO, qU])
    refine tq 1 27 _ ?_
    refine tq 2 28 _ ?_
    (refine tkz 3 29 ?_ ?_ ?_; rotate_left; · (intro w hSw; (try dsimp only at hSw); have c_ := wk0 hSw.2.1; go_simp; (try with_reducible rfl)))
    refine tq 4 30 _ ?_
    (try simp only [Act.put, qI, qO, qU])
    refine tq 5 31 _ ?_
    (refine tkz 6 32 ?_ ?_ ?_; rotate_left; · (intro w hSw; (try dsimp only at hSw); have c_ := fl_c hSw.2.2; go_simp; (try with_reducible rfl)))
    (refine tkz 7 33 ?_ ?_ ?_; rotate_left; · (intro w hSw; (try dsimp only at hSw); have c_ := hSw.1.cell 0; have d_ := hSw.1.cell 1; have e_ := hSw.1.cell 2; simp only [qA, qZ, qS] at c_ d_ e_; go_simp; (try with_reducible rfl)))
    (try simp only [Act.put, qI, qO, qU])
    refine rdy 8 fun K hK => ?_
    go_simp
    (go_at_call 157; refine (cM (HH.pick 5 rfl)).mono ?_; rintro e u3 ⟨rfl, HX⟩; clear HH; have HH := (((((((HX.pick 6 rfl).pick 1 rfl).pick 6 rfl).pick 6 rfl).pick 6 rfl).pick 6 rfl).pick 6 rfl); clear HX)
    refine hK.out _ _ (by (try dsimp only); exact ⟨HH.blk, (HH.pick 1 rfl).blk, (HH.pick 4 rfl).blk⟩) (fun hHeld => ?_)
    clear hK K
    (try simp only [Act.put, qI, qO, qU])
    refine tq 9 25 _ ?_
    refine tq 10 35 _ ?_
    (try simp only [Act.put, qI, qO, qU])
    refine tq 11 36 _ ?_
    refine tq 12 5 _ ?_
    refine tq 13 6 _ ?_
    (try simp only [Act.put, qI, qO, qU])
    refine wpAnyH_done (by kernel_rfl) ?_ _
    refine NoPanic.normal ?_
    clear hHeld cM
    have HZ := HH.tail
    clear HH
    go_wp2_with fail
    go_ret
    exact ⟨rfl, tv, HZ⟩
   simp only [if_true, Option.isSome_some, pinF]
   obtain ⟨kg, kl, kr⟩ := k
   simp only [Ky.cs] at cF cM ⊢
   have H1 := H.alloc #[.int .i64 kg, .int .i64 kl, .int .i64 kr] 85
   clear H
   go_enter Tryz.func87, Tryz.ntmps87
   go_upto_region 1 with fail
   generalize w.alloc (.cells #[.int .i64 kg, .int .i64 kl, .int .i64 kr] 85) = w1 at *
   generalize w.heap.size = kb at *
   have HH := H1.new (Chg.refl [] w1).drew
   clear H1
   refine wp_region_noPanic ?_
   refine wp_region_held_drew (S := (fun w' => Blk w' kb 85 #[.int .i64 kg, .int .i64 kl, .int .i64 kr] ∧ Blk w' xq 175 (wkC fq root page A cA P dirty e0 e1 e2 tv av) ∧ Blk w' fq 202 (flC gq mq q dd))) (by kernel_rfl) ?_ (fun hHeld => ?_)
   ·exact ⟨HH.blk, (HH.pick 1 rfl).blk, (HH.pick 4 rfl).blk⟩
   refine tq 0 8 _ ?_
   refine tq 1 9 _ ?_
   (try simp only [Act.put, qI, qO, qU])
   refine tq 2 10 _ ?_
   (refine tkz 3 11 ?_ ?_ ?_; rotate_left; · (intro w hSw; (try dsimp only at hSw); have c_ := wk0 hSw.2.1; go_simp; (try with_reducible rfl)))
   refine tq 4 12 _ ?_
   refine tq 5 13 _ ?_
   (try simp only [Act.put, qI, qO, qU])
   (refine tkz 6 14 ?_ ?_ ?_; rotate_left; · (intro w hSw; (try dsimp only at hSw); have c_ := fl_c hSw.2.2; go_simp; (try with_reducible rfl)))
   (refine tkz 7 15 ?_ ?_ ?_; rotate_left; · (intro w hSw; (try dsimp only at hSw); have c_ := hSw.1.cell 0; have d_ := hSw.1.cell 1; have e_ := hSw.1.cell 2; simp only [qA, qZ, qS] at c_ d_ e_; go_simp; (try with_reducible rfl)))
   (try simp only [Act.put, qI, qO, qU])
   refine rdy 8 fun K hK => ?_
   go_simp
   (go_at_call 38; refine (cF (HH.pick 5 rfl)).mono ?_; rintro e u1 ⟨rfl, y1⟩; replace HH := HH.new y1; clear y1)
   refine hK.out _ _ (by (try dsimp only); exact ⟨HH.blk, (HH.pick 1 rfl).blk, (HH.pick 4 rfl).blk⟩) (fun hHeld => ?_)
   clear hK K
   (try simp only [Act.put, qI, qO, qU])
   refine tq 9 7 _ ?_
   refine tq 10 17 _ ?_
   refine tq 11 18 _ ?_
   (try simp only [Act.put, qI, qO, qU])
   refine tq 12 5 _ ?_
   refine tq 13 6 _ ?_
   (try simp only [Act.put, qI, qO, qU])
   refine wpAnyH_done (by kernel_rfl) ?_ _
   refine NoPanic.normal ?_
   clear hHeld cF
   go_wp2_with fail
   refine (cR (l' := blkT kb 85 #[.int .i64 kg, .int .i64 kl, .int .i64 kr] :: l) (((((((HH.pick 0 rfl).pick 6 rfl).pick 6 rfl).pick 6 rfl).pick 6 rfl).pick 6 rfl).pick 6 rfl)).mono ?_; rintro e u2 ⟨rfl, HX⟩
   clear cR HH
   have HH0 := (((((((HX.pick 5 rfl).pick 5 rfl).pick 5 rfl).pick 5 rfl).pick 5 rfl).pick 5 rfl).pick 6 rfl)
   clear HX
   go_upto_region 3 with fail
   have HH := HH0.new (Chg.refl [] _).drew
   clear HH0
   refine wp_region_noPanic ?_
   refine wp_region_held_drew (S := (fun w' => Blk w' kb 85 #[.int .i64 kg, .int .i64 kl, .int .i64 kr] ∧ Blk w' xq 175 (wkC fq root page A cA P dirty e0 e1 e2 tv av) ∧ Blk w' fq 202 (flC gq mq q dd))) (by kernel_rfl) ?_ (fun hHeld => ?_)
   ·exact ⟨HH.blk, (HH.pick 1 rfl).blk, (HH.pick 4 rfl).blk⟩
   refine tq 0 26 _ ?_
   refine tq 1 27 _ ?_
   refine tq 2 28 _ ?_
   (try simp only [Act.put, qI, qO, qU])
   (refine tkz 3 29 ?_ ?_ ?_; rotate_left; · (intro w hSw; (try dsimp only at hSw); have c_ := wk0 hSw.2.1; go_simp; (try with_reducible rfl)))
   refine tq 4 30 _ ?_
   refine tq 5 31 _ ?_
   (refine tkz 6 32 ?_ ?_ ?_; rotate_left; · (intro w hSw; (try dsimp only at hSw); have c_ := fl_c hSw.2.2; go_simp; (try with_reducible rfl)))
   (try simp only [Act.put, qI, qO, qU])
   (refine tkz 7 33 ?_ ?_ ?_; rotate_left; · (intro w hSw; (try dsimp only at hSw); have c_ := hSw.1.cell 0; have d_ := hSw.1.cell 1; have e_ := hSw.1.cell 2; simp only [qA, qZ, qS] at c_ d_ e_; go_simp; (try with_reducible rfl)))
   (try simp only [Act.put, qI, qO, qU])
   refine rdy 8 fun K hK => ?_
   go_simp
   (go_at_call 157; refine (cM (HH.pick 5 rfl)).mono ?_; rintro e u3 ⟨rfl, HX⟩; clear HH; have HH := (((((((HX.pick 6 rfl).pick 1 rfl).pick 6 rfl).pick 6 rfl).pick 6 rfl).pick 6 rfl).pick 6 rfl); clear HX)
   refine hK.out _ _ (by (try dsimp only); exact ⟨HH.blk, (HH.pick 1 rfl).blk, (HH.pick 4 rfl).blk⟩) (fun hHeld => ?_)
   clear hK K
   (try simp only [Act.put, qI, qO, qU])
   refine tq 9 25 _ ?_
   refine tq 10 35 _ ?_
   refine tq 11 36 _ ?_
   refine tq 12 5 _ ?_
   (try simp only [Act.put, qI, qO, qU])
   refine tq 13 6 _ ?_
   (try simp only [Act.put, qI, qO, qU])
   refine wpAnyH_done (by kernel_rfl) ?_ _
   refine NoPanic.normal ?_
   clear hHeld cM
   have HZ := HH.tail
   clear HH
   have ho := (HZ.pick 1 rfl).own
   obtain ⟨A_, c_, ev, _, _⟩ := ho.form
   obtain ⟨kn, hkn⟩ : ∃ kn, tk.length = kn := ⟨_, rfl⟩
   rw [hkn] at ev hlen
   subst ev
   have c38 := wk38 HZ.blk
   replace hkn := Lib.hid hkn
   have H2 := HZ.alloc #[.int .i64 mv] 3
   have ho4 := ho.new ((Chg.refl [] u3).alloc (.cells #[.int .i64 mv] 3))
   have hsrc : Src (u3.alloc (.cells #[.int .i64 mv] 3)) (numE .i64).k (some ⟨u3.heap.size, 0, none⟩) 1 1 ((numE .i64).all [mv]) := (OwnG.lit (E := numE .i64) (L := [mv]) (Blk.new u3 3 #[.int .i64 mv]) (by simp)).src
   clear ho HZ
   go_wp2_with (at_builtin; (refine wpList_append_G (E := numE .i64) rfl _ _ 43 rfl 3 (.int .i64 0) 8 Tryz.underlying43 int_info rfl (.slice A_ kn c_) tk rfl ho4 (some ⟨u3.heap.size, 0, none⟩) 1 1 [mv] rfl hsrc rfl (by rw [hkn.out]; omega) ?_); (intro v5 w5 ho5 hc5 hb5); (clear hsrc c38); (have H5 := (H2.pick 2 rfl).app ho5 hc5 hb5); (obtain ⟨A5, c5, rfl, _, _⟩ := ho5.form); (clear ho4 H2 ho5 hc5 hb5); (have H8 := H5.pick 2 rfl); (have f38 := H8.blk.frozen 38); (have c38 := wk38 H8.blk); (have H9 := H8.cellSet 38 (.slice A5 (tk ++ [mv]).length c5)); (rw [wk_set38] at H9); (clear H8 H5))
   go_ret
   have el : (tk ++ [mv]).length = kn + 1 := by rw [List.length_append, hkn.out]; rfl
   rw [el] at H9
   (try simp only [hkn.out])
   exact ⟨rfl, .slice A5 (kn + 1) c5, (((((((H9.pick 6 rfl).pick 6 rfl).pick 6 rfl).pick 6 rfl).pick 5 rfl).pick 5 rfl).pick 6 rfl).tail⟩
end
end Go.Proofs.YtmbgepafpcbakaaGreatDoor
