/-
 FillFinds: the law, walked from contracts.
-/
import Derived.Test.YtmbgepafpcbakaaGreatDoorFlNK
import Derived.Test.YtmbgepafpcbakaaGreatDoorStoreWK
import Derived.Deep.CutRange
namespace Go.Proofs.YtmbgepafpcbakaaGreatDoor
open Go.RowKit Go.Maps
theorem words_run {W : List Int} (hW : W.length = 8 * 40) : ∃ K : Nat → List Int, K 0 = [] ∧ K 40 = W ∧ (∀ i, i < 40 → K (i + 1) = K i ++ frameW 40 W (i : Int)) ∧ (∀ i, i < 40 → (K i).length = 8 * i) ∧ ∀ i : Nat, i < 40 → (frameW 40 W (i : Int)).length = 8 :=
 ⟨fun i => W.take (8 * i), by simp, by show W.take (8 * 40) = W; rw [← hW, List.take_length], fun i hi => (frameW_take (n := 40) hW hi).1, fun i hi => by simp only [List.length_take]; omega, fun i hi => (frameW_take (n := 40) hW hi).2⟩
theorem pages_rg {d : Gd} (h : FdO d) : (∀ x ∈ d.s.L.map Pg.f, IntKind.i64.min ≤ x ∧ x ≤ IntKind.i64.max) ∧ d.s.L.length ≤ 8 := by
 have h1 : IntKind.i64.min = -9223372036854775808 := rfl
 have h2 : IntKind.i64.max = 9223372036854775807 := rfl
 have hc := h.gd.sr.cnt
 refine ⟨fun x hx => ?_, by omega⟩
 have := h.gd.sr.mem x (List.mem_append_left _ hx)
 omega
set_option maxRecDepth 100000 in
set_option maxHeartbeats 20000000 in
theorem lawFillFinds_any (A : Option Addr) (n c : Nat) (P : List Pu) (B : Option Addr) (m e0 : Nat) (L : List Fst) (rt pg kd : Nat) (us : Bool) (w : World) (hP : SlP w A n P) (hl : FopsIn w B m L) (hE : ErrIn w)  (hrt : rt ≤ 255) (hpg : pg ≤ 65535) (hkd : kd ≤ 255):
  Calls Tryz.prog 4 #[.slice A n c, .slice B m e0, .int .u8 rt, .int .u16 pg, .int .u8 kd, .bool us] w fun e w' => e = .returned (.bool true) ∧ Chg [] w w' := by
 have hHd := fun w' (h : ErrIn w') => FHead_any w' h
 have hGr := fun z => Great17_any A n c B m e0 z
 have hmm := hl.sl.len
 have hm9 := hl.sl.le
 replace hmm := Lib.hid hmm
 have H0 := SepC.nil w
 cases hg_ : (decide (n > 600) || decide (m > 60))
 rotate_left
 ·rw [hg_] at hGr
  go_enter Tryz.func4, Tryz.ntmps4
  go_wp2_with fail
  refine (hHd _ (hE.new H0.1)).mono ?_; rintro e z1 ⟨rfl, y1⟩
  have H1 := H0.new y1
  clear H0 y1 hHd
  go_wp2_with fail
  refine (Made16_at (hP.self H1.1)).mono ?_; intro e z2 hMP
  unfold MadeP16 at hMP
  obtain ⟨wb, dd, gq, mp, q, hp, hb, t, rfl, HM⟩ := hMP
  have H := H1.merge HM
  clear H1 HM hP
  go_wp2_with fail
  refine (hGr _).mono ?_; rintro e z3 ⟨rfl, rfl⟩
  clear hGr
  go_wp2_with fail
  go_ret
  exact ⟨rfl, H.1⟩
 rw [hg_] at hGr
 clear hg_
 go_enter Tryz.func4, Tryz.ntmps4
 go_wp2_with fail
 refine (hHd _ (hE.new H0.1)).mono ?_; rintro e z1 ⟨rfl, y1⟩
 have H1 := H0.new y1
 clear H0 y1 hHd
 go_wp2_with fail
 refine (Made16_at (hP.self H1.1)).mono ?_; intro e z2 hMP
 unfold MadeP16 at hMP
 obtain ⟨wb, dd, gq, mp, q, hp, hb, t, rfl, HM⟩ := hMP
 have H := H1.merge HM
 clear H1 HM hP
 go_wp2_with fail
 refine (hGr _).mono ?_; rintro e z3 ⟨rfl, rfl⟩
 clear hGr
 go_wp2_with fail
 refine H.fMade.mono ?_; rintro e z4 ⟨fq, mq, rfl, H_⟩
 clear H
 have H := H_
 clear H_
 go_wp2_with fail
 refine (H.tNew 4 (by omega) (by omega)).mono ?_; rintro e z5 ⟨t2, rfl, H_⟩
 clear H
 have H := (((((H_.pick 0 rfl).pick 4 rfl).pick 4 rfl).pick 4 rfl).pick 4 rfl)
 clear H_
 have w_ := wdC_cells (H.pick 1 rfl).blk
 go_wp2_with fail
 refine (H.mmNew hp t2).mono ?_; rintro e z6 ⟨mm, rfl, H_⟩
 clear H w_
 have H := ((((((H_.pick 5 rfl).pick 1 rfl).pick 5 rfl).pick 5 rfl).pick 5 rfl).pick 5 rfl)
 clear H_
 go_wp2_with fail
 replace H : SepC w _ (gdT dd gq mp q hp hb t 40 4 8 8 gl16 (opsF (gd0 (madeG P)) (L.take 0)) :: blkT wb 51 (wdC hp gq q t dd) :: blkT fq 202 (flC gq mq q dd) :: mapT mq gl16 :: blkT mm 156 (mmC t2 hp) :: tlbT t2 4 [] :: []) := H
 go_loopw [18] (fun s_ wr => ∃ k : Nat, k ≤ m ∧ s_ = .int .i64 k ∧ SepC w wr (gdT dd gq mp q hp hb t 40 4 8 8 gl16 (opsF (gd0 (madeG P)) (L.take k)) :: blkT wb 51 (wdC hp gq q t dd) :: blkT fq 202 (flC gq mq q dd) :: mapT mq gl16 :: blkT mm 156 (mmC t2 hp) :: tlbT t2 4 [] :: [])) (fun s_ _ => m - (intOf s_).toNat)
 case atStart => exact ⟨0, Nat.zero_le _, rfl, H⟩
 clear H
 obtain ⟨k, hk, rfl, H⟩ := hrel
 by_cases hlt : k < m
 ·have hltz : (k : Int) < (m : Int) := by omega
  obtain ⟨b, off, o, rfl, ho, c0, c1, c2, c3, c4, c5, c6, c7, c8⟩ := fopE_cells (hl.new H.1).sl hlt
  have hD := H.fDo o (hl.at_ ho) (FdO.take L k (FdO.made P)) (hE.new H.1)
  rw [← opsF_take ho] at hD
  simp only [Fst.cs] at hD
  generalize (doF (opsF (gd0 (madeG P)) (L.take k)) o).2 = R_ at hD
  clear H
  go_wp2_with fail
  refine hD.mono ?_; rintro e w2 ⟨A9, c9, rfl, H2⟩
  clear hD c0 c1 c2 c3 c4 c5 c6 c7 c8
  go_wp2_with fail
  go_roundw
  case rel => exact ⟨k + 1, by omega, by go_num, H2.tail⟩
  case measure => simp [intOf]; omega
 have ek : k = m := by omega
 subst ek
 have hltz : ¬ (k : Int) < (k : Int) := by omega
 rw [List.take_of_length_le (Nat.le_of_eq hmm.out)] at H
 have hd : FdO (opsF (gd0 (madeG P)) L) := FdO.opsF L (FdO.made P)
 obtain ⟨d, hd_⟩ : ∃ d, opsF (gd0 (madeG P)) L = d := ⟨_, rfl⟩
 rw [hd_] at H hd
 clear hd_ hltz hlt hk hmm hm9 hl
 obtain ⟨G, hG, hG5⟩ : ∃ G : Nat, rt % 16 = G ∧ G < 16 := ⟨_, rfl, by omega⟩
 obtain ⟨N, hN, hN5⟩ : ∃ N : Nat, pg % 512 = N ∧ N < 512 := ⟨_, rfl, by omega⟩
 obtain ⟨K3, hK3, hK5⟩ : ∃ K3 : Nat, kd % 3 = K3 ∧ K3 < 3 := ⟨_, rfl, by omega⟩
 have hm1 : (rt : Int) % 16 = (G : Int) := by omega
 have hm1t : Int.tmod (rt : Int) 16 = (G : Int) := by rw [Int.tmod_eq_emod_of_nonneg (by omega)]; exact hm1
 have hm2 : (pg : Int) % 512 = (N : Int) := by omega
 have hm2t : Int.tmod (pg : Int) 512 = (N : Int) := by rw [Int.tmod_eq_emod_of_nonneg (by omega)]; exact hm2
 have hm3 : (kd : Int) % 3 = (K3 : Int) := by omega
 have hm3t : Int.tmod (kd : Int) 3 = (K3 : Int) := by rw [Int.tmod_eq_emod_of_nonneg (by omega)]; exact hm3
 clear hG hN hK3
 obtain ⟨P, how, code, hwk⟩ := walkO_split d G N K3 us
 have hE1 := fun {z : World} (hc : Chg [] w z) => hE.new hc
 have hW := fun {z : World} {l' : List Th} (H' : SepC w z (gdT dd gq mp q hp hb t 40 4 8 8 gl16 (d) :: l')) (hE' : ErrIn z) => H'.gWalk hE' ((G : Int)) ((N : Int)) (K3 : Int) us hwk
 unfold pathV at hW
 by_cases hh : how = 0
 rotate_left
 ·have hhb : (how != 0) = true := by simpa using hh
  replace hh := Lib.hid hh
  have w_ := wdC_cells (H.pick 1 rfl).blk
  go_wp2_with fail
  refine (hW H (hE1 H.1)).mono ?_; rintro e z7 ⟨A9, c9, rfl, y1, ho9, hl9⟩
  have H8 := (H.lay (P := ownT atE 104 (.slice A9 P.ats.length c9) P.ats) y1 ⟨rfl, ho9⟩ hl9).alloc #[.slice A9 P.ats.length c9, .int .i64 P.g, .bool P.r.w, .bool P.r.u, .bool P.r.x, .bool P.large, .bool P.dirty] 76
  clear H hW y1 ho9 hl9 w_
  go_wp2_with fail
  go_ret
  exact ⟨rfl, H8.1⟩
 subst hh
 obtain ⟨kb_, hkb⟩ : ∃ kb_, decide ((K3 : Int) = 1) = kb_ := ⟨_, rfl⟩
 have hkb2 : ((K3 : Int) == 1) = kb_ := hkb
 have hkb3 : decide (K3 = 1) = kb_ := by rw [← hkb]; by_cases e : K3 = 1 <;> simp [e]; omega
 have hkb4 : (K3 == 1) = kb_ := hkb3
 obtain ⟨tf, D1, A1, f1, f2, hd1, hfv, hfi, se, hall⟩ := finds_seen hd (root := (G : Int)) (page := (N : Int)) (walk_path hwk) kb_
 have hats := (walk_got hwk).2.2.2.1
 have hgb : 0 ≤ P.g ∧ P.g < 16 := ⟨(walk_got hwk).2.1, (walk_got hwk).2.2.1⟩
 replace hgb := Lib.hid hgb
 have hWl : D1.s.W.length = 8 * 40 := hd1.gd.sr.len
 obtain ⟨hw7, hn7⟩ := pages_rg hd1
 clear hwk
 have hF1 := fun {z : World} {l' : List Th} {A9 : Option Addr} {c9 : Nat} (H' : SepC w z (blkT fq 202 (flC gq mq q dd) :: gdT dd gq mp q hp hb t 40 4 8 8 gl16 (d) :: mapT mq gl16 :: l')) (hA' : SlA z A9 P.ats.length P.ats) => H'.flFill (root := (G : Int)) (page := (N : Int)) (cA := c9) (written := kb_) hA' hats hd (by omega)
 unfold pathV at hF1
 rw [f1] at hF1
 have hF2 := fun {z : World} {l' : List Th} {A9 : Option Addr} {c9 : Nat} (H' : SepC w z (blkT fq 202 (flC gq mq q dd) :: gdT dd gq mp q hp hb t 40 4 8 8 gl16 (D1) :: mapT mq gl16 :: l')) (hA' : SlA z A9 P.ats.length P.ats) => H'.flFill (root := (G : Int)) (page := (N : Int)) (cA := c9) (written := kb_) hA' hats hd1 (by omega)
 unfold pathV at hF2
 rw [f2] at hF2
 simp only [List.length_nil] at hF1 hF2
 clear f1 f2 hats hd hd1
 have cK := fun {z : World} {l' : List Th} (H' : SepC w z (gdT dd gq mp q hp hb t 40 4 8 8 gl16 (D1) :: l')) => H'.kFind ⟨(G : Int), 3, 0⟩
 simp only [hfv, hfi, Ky.cs] at cK
 clear hfv hfi
 have cM := fun {z : World} {l' : List Th} (H' : SepC w z (gdT dd gq mp q hp hb t 40 4 8 8 gl16 (D1) :: blkT mm 156 (mmC t2 hp) :: l')) => H'.gMWalk tf (N : Int)
 simp only [se.f, se.r, se.is, Rg.cs] at cM
 clear se
 have cP := fun {z : World} {l' : List Th} (H' : SepC w z (gdT dd gq mp q hp hb t 40 4 8 8 gl16 (D1) :: l')) => H'.kProt P.g
 have cA := fun {z : World} {l' : List Th} (H' : SepC w z (gdT dd gq mp q hp hb t 40 4 8 8 gl16 (D1) :: l')) => H'.kPages
 simp only [List.length_map] at cA
 have hF7l : (D1.s.L.map Pg.f).length = D1.s.L.length := List.length_map _
 obtain ⟨N7, hN7⟩ : ∃ N7, D1.s.L.length = N7 := ⟨_, rfl⟩
 rw [hN7] at cA hn7 hF7l
 obtain ⟨F7, hF7⟩ : ∃ F7, D1.s.L.map Pg.f = F7 := ⟨_, rfl⟩
 rw [hF7] at cA hw7 hF7l
 clear hN7 hF7
 replace hF7l := Lib.hid hF7l
 have cW0 := fun {z : World} {l' : List Th} (H' : SepC w z (gdT dd gq mp q hp hb t 40 4 8 8 gl16 (d) :: l')) => H'.kWords
 have cW1 := fun {z : World} {l' : List Th} (H' : SepC w z (gdT dd gq mp q hp hb t 40 4 8 8 gl16 (D1) :: l')) => H'.kWords
 simp only [show 8 * gl16.length = 128 from rfl, hall] at cW0 cW1
 clear hall
 generalize allG d.s.W gl16 = WA at *
 obtain ⟨K, hK0, hKe, hKs, hKl, hKf⟩ := words_run hWl
 have cF := fun (i : Nat) (hi : i < 40) {z : World} {l' : List Th} (H' : SepC w z (gdT dd gq mp q hp hb t 40 4 8 8 gl16 (D1) :: l')) => Frame_at hp hb 40 D1.s.W (i : Int) z H'.kMem
 skip
 replace hK0 := Lib.hid hK0; replace hKe := Lib.hid hKe; replace hKs := Lib.hid hKs; replace hKl := Lib.hid hKl; replace hKf := Lib.hid hKf; replace hWl := Lib.hid hWl; replace hw7 := Lib.hid hw7; replace hkb := Lib.hid hkb
 have w_ := wdC_cells (H.pick 1 rfl).blk
 go_wp2_with fail
 refine (hW H (hE1 H.1)).mono ?_; rintro e z7 ⟨A9, c9, rfl, y1, ho9, hl9⟩
 have H8 := (H.lay (P := ownT atE 104 (.slice A9 P.ats.length c9) P.ats) y1 ⟨rfl, ho9⟩ hl9).alloc #[.slice A9 P.ats.length c9, .int .i64 P.g, .bool P.r.w, .bool P.r.u, .bool P.r.x, .bool P.large, .bool P.dirty] 76
 clear H hW y1 ho9 hl9 w_
 go_upto_region 22 with fail
 generalize z7.alloc (.cells #[.slice A9 P.ats.length c9, .int .i64 P.g, .bool P.r.w, .bool P.r.u, .bool P.r.x, .bool P.large, .bool P.dirty] 76) = z8 at *
 generalize z7.heap.size = sb at *
 have H := ((((((((H8.pick 7 rfl).pick 7 rfl).pick 3 rfl).pick 3 rfl).pick 7 rfl).pick 7 rfl).pick 7 rfl).pick 7 rfl)
 clear H8
 have w_ := wdC_cells (H.pick 1 rfl).blk
 go_wp2_with fail
 refine (cW0 H).mono ?_; rintro e z9 ⟨Aw, cw, rfl, H_⟩
 clear cW0 H w_
 have hsl := (ownA_G.2 (H_.pick 6 rfl).own).sla
 have s_ := (H_.pick 5 rfl).blk.cell 0; have s1_ := (H_.pick 5 rfl).blk.cell 1; have s2_ := (H_.pick 5 rfl).blk.cell 2; have s3_ := (H_.pick 5 rfl).blk.cell 3; have s4_ := (H_.pick 5 rfl).blk.cell 4; have s5_ := (H_.pick 5 rfl).blk.cell 5; have s6_ := (H_.pick 5 rfl).blk.cell 6
 simp only [qA, qZ, qS] at s_ s1_ s2_ s3_ s4_ s5_ s6_
 have H := (((((((((H_.pick 0 rfl).pick 8 rfl).pick 8 rfl).pick 8 rfl).pick 8 rfl).pick 6 rfl).pick 8 rfl).pick 7 rfl).pick 8 rfl)
 clear H_
 go_wp2_with fail
 refine (hF1 H hsl).mono ?_; rintro e z10 ⟨An1, cn1, rfl, H_⟩
 clear hF1 H hsl
 clear s_ s1_ s2_ s3_ s4_ s5_ s6_
 have H := (((((((((H_.tail.pick 8 rfl).pick 8 rfl).pick 8 rfl).pick 8 rfl).pick 8 rfl).pick 7 rfl).pick 6 rfl).pick 8 rfl).pick 8 rfl)
 clear H_
 have w_ := wdC_cells (H.pick 1 rfl).blk
 go_wp2_with fail
 refine (cK H).mono ?_; rintro e z11 ⟨rfl, y_⟩
 replace H := H.new y_
 clear cK y_ w_
 go_wp2_with fail
 refine (cM (((((((((H.pick 8 rfl).pick 8 rfl).pick 7 rfl).pick 7 rfl).pick 7 rfl).pick 7 rfl).pick 7 rfl).pick 8 rfl).pick 8 rfl)).mono ?_; rintro e z12 ⟨rfl, y_⟩
 have HX := (H.new y_).alloc #[.bool (P.r.w && ((P.dirty || kb_) && !protB D1 P.g)), .bool P.r.u, .bool P.r.x] 54
 clear cM y_ H
 go_upto_region 26 with fail
 generalize z12.alloc (.cells #[.bool (P.r.w && ((P.dirty || kb_) && !protB D1 P.g)), .bool P.r.u, .bool P.r.x] 54) = z13 at *
 generalize z12.heap.size = r1 at *
 generalize P.r.w = pw at *
 generalize P.dirty = pd at *
 generalize protB D1 P.g = pr at *
 generalize P.r.u = pu at *
 generalize P.r.x = px at *
 generalize P.large = pl at *
 generalize P.g = pg_ at *
 have s_ := (HX.pick 5 rfl).blk.cell 0; have s1_ := (HX.pick 5 rfl).blk.cell 1; have s2_ := (HX.pick 5 rfl).blk.cell 2; have s3_ := (HX.pick 5 rfl).blk.cell 3; have s4_ := (HX.pick 5 rfl).blk.cell 4; have s5_ := (HX.pick 5 rfl).blk.cell 5; have s6_ := (HX.pick 5 rfl).blk.cell 6
 simp only [qA, qZ, qS] at s_ s1_ s2_ s3_ s4_ s5_ s6_
 have HY := HX.alloc #[.bool pw, .bool pu, .bool px] 54
 clear HX
 go_upto_region 27 with fail
 generalize z13.alloc (.cells #[.bool pw, .bool pu, .bool px] 54) = z14 at *
 generalize z13.heap.size = wt at *
 clear s_ s1_ s2_ s3_ s4_ s5_ s6_
 have H : SepC w z14 (blkT wt 54 #[.bool pw, .bool pu, .bool px] :: blkT r1 54 #[.bool (pw && ((pd || kb_) && !pr)), .bool pu, .bool px] :: gdT dd gq mp q hp hb t 40 4 8 8 gl16 (D1) :: blkT wb 51 (wdC hp gq q t dd) :: blkT fq 202 (flC gq mq q dd) :: mapT mq gl16 :: blkT sb 76 #[.slice A9 P.ats.length c9, .int .i64 pg_, .bool pw, .bool pu, .bool px, .bool pl, .bool pd] :: ownT atE 104 (.slice A9 P.ats.length c9) P.ats :: blkT mm 156 (mmC t2 hp) :: tlbT t2 4 [] :: ownT (numE .u64) 59 (.slice Aw 128 cw) WA :: []) := HY
 clear HY
 go_cut [] from 146 to 166 (fun wx => SepC w wx (blkT wt 54 #[.bool (pw && ((pd || kb_) && !pr)), .bool pu, .bool px] :: blkT r1 54 #[.bool (pw && ((pd || kb_) && !pr)), .bool pu, .bool px] :: gdT dd gq mp q hp hb t 40 4 8 8 gl16 (D1) :: blkT wb 51 (wdC hp gq q t dd) :: blkT fq 202 (flC gq mq q dd) :: mapT mq gl16 :: blkT sb 76 #[.slice A9 P.ats.length c9, .int .i64 pg_, .bool pw, .bool pu, .bool px, .bool pl, .bool pd] :: ownT atE 104 (.slice A9 P.ats.length c9) P.ats :: blkT mm 156 (mmC t2 hp) :: tlbT t2 4 [] :: ownT (numE .u64) 59 (.slice Aw 128 cw) WA :: []))
 case first =>
  cases pw
  ·simp only [Bool.false_and] at H ⊢
   have HH := H.new (Chg.refl [] _).drew
   clear H
   refine wp_region_noPanic ?_
   refine late_region (S := (fun w' => Blk w' wb 51 (wdC hp gq q t dd) ∧ Blk w' sb 76 #[.slice A9 P.ats.length c9, .int .i64 pg_, .bool false, .bool pu, .bool px, .bool pl, .bool pd] ∧ Blk w' wt 54 #[.bool false, .bool pu, .bool px])) (Z := 21) (by kernel_rfl) ⟨(HH.pick 3 rfl).blk, (HH.pick 6 rfl).blk, HH.blk⟩ (fun hHeld => ?_)
   generalize World.drew z14 = wd at *
   (refine lk 0 146 ?_ ?_ ?_; rotate_left; · (intro w hSw; go_simp; (try with_reducible rfl)))
   (try simp only [Act.put, qI, qO, qU])
   (refine lk 1 147 ?_ ?_ ?_; rotate_left; · (intro w hSw; (try dsimp only at hSw); have c_ := hSw.2.2.cell 0; simp only [qA, qZ] at c_; go_simp; (try with_reducible rfl)))
   (try simp only [Act.put, qI, qO, qU])
   (refine lk 2 148 ?_ ?_ ?_; rotate_left; · (intro w hSw; go_simp; (try with_reducible rfl)))
   (try simp only [Act.put, qI, qO, qU])
   (refine late_off 3 (some 149) rfl rfl (by kernel_rfl) (by kernel_rfl) (by kernel_rfl) (by kernel_rfl) (fun _ _ _ h => h) (by rfl) (by assumption) ?_)
   (try simp only [Act.put, qI, qO, qU])
   (refine late_off 4 (some 150) rfl rfl (by kernel_rfl) (by kernel_rfl) (by kernel_rfl) (by kernel_rfl) (fun _ _ _ h => h) (by rfl) (by assumption) ?_)
   (try simp only [Act.put, qI, qO, qU])
   (refine late_off 5 (some 151) rfl rfl (by kernel_rfl) (by kernel_rfl) (by kernel_rfl) (by kernel_rfl) (fun _ _ _ h => h) (by rfl) (by assumption) ?_)
   (try simp only [Act.put, qI, qO, qU])
   (refine late_off 6 (some 152) rfl rfl (by kernel_rfl) (by kernel_rfl) (by kernel_rfl) (by kernel_rfl) (fun _ _ _ h => h) (by rfl) (by assumption) ?_)
   (try simp only [Act.put, qI, qO, qU])
   (refine late_off 7 (some 153) rfl rfl (by kernel_rfl) (by kernel_rfl) (by kernel_rfl) (by kernel_rfl) (fun _ _ _ h => h) (by rfl) (by assumption) ?_)
   (try simp only [Act.put, qI, qO, qU])
   (refine late_off 8 (some 154) rfl rfl (by kernel_rfl) (by kernel_rfl) (by kernel_rfl) (by kernel_rfl) (fun _ _ _ h => h) (by rfl) (by assumption) ?_)
   (try simp only [Act.put, qI, qO, qU])
   (refine lk 9 155 ?_ ?_ ?_; rotate_left; · (intro w hSw; go_simp; (try with_reducible rfl)))
   (try simp only [Act.put, qI, qO, qU])
   (refine lk 10 156 ?_ ?_ ?_; rotate_left; · (intro w hSw; go_simp; (try with_reducible rfl)))
   (try simp only [Act.put, qI, qO, qU])
   (refine late_off 11 (some 157) rfl rfl (by kernel_rfl) (by kernel_rfl) (by kernel_rfl) (by kernel_rfl) (fun _ _ _ h => h) (by rfl) (by assumption) ?_)
   (try simp only [Act.put, qI, qO, qU])
   (refine late_off 12 (some 158) rfl rfl (by kernel_rfl) (by kernel_rfl) (by kernel_rfl) (by kernel_rfl) (fun _ _ _ h => h) (by rfl) (by assumption) ?_)
   (try simp only [Act.put, qI, qO, qU])
   (refine late_off 13 (some 159) rfl rfl (by kernel_rfl) (by kernel_rfl) (by kernel_rfl) (by kernel_rfl) (fun _ _ _ h => h) (by rfl) (by assumption) ?_)
   (try simp only [Act.put, qI, qO, qU])
   (refine late_off 14 (some 160) rfl rfl (by kernel_rfl) (by kernel_rfl) (by kernel_rfl) (by kernel_rfl) (fun _ _ _ h => h) (by rfl) (by assumption) ?_)
   (try simp only [Act.put, qI, qO, qU])
   (refine late_off 15 (some 161) rfl rfl (by kernel_rfl) (by kernel_rfl) (by kernel_rfl) (by kernel_rfl) (fun _ _ _ h => h) (by rfl) (by assumption) ?_)
   (try simp only [Act.put, qI, qO, qU])
   (refine late_off 16 (some 162) rfl rfl (by kernel_rfl) (by kernel_rfl) (by kernel_rfl) (by kernel_rfl) (fun _ _ _ h => h) (by rfl) (by assumption) ?_)
   (try simp only [Act.put, qI, qO, qU])
   (refine late_off 17 (some 163) rfl rfl (by kernel_rfl) (by kernel_rfl) (by kernel_rfl) (by kernel_rfl) (fun _ _ _ h => h) (by rfl) (by assumption) ?_)
   (try simp only [Act.put, qI, qO, qU])
   (refine late_off 18 (some 164) rfl rfl (by kernel_rfl) (by kernel_rfl) (by kernel_rfl) (by kernel_rfl) (fun _ _ _ h => h) (by rfl) (by assumption) ?_)
   (try simp only [Act.put, qI, qO, qU])
   (refine lk 19 165 ?_ ?_ ?_; rotate_left; · (intro w hSw; go_simp; (try with_reducible rfl)))
   (try simp only [Act.put, qI, qO, qU])
   refine lrdy 20 fun K hK => ?_
   go_simp
   refine hK.out _ _ (fun _ => by (try dsimp only); exact hHeld) ?_
   clear hK K
   (try simp only [Act.put, qI, qO, qU])
   have hHeld := hHeld
   have e0_ := HH.blk.cell 0; have f0_ := HH.blk.frozen 0
   simp only [qA, qZ] at e0_
   refine lrdy 21 fun K hK => ?_
   go_simp
   have HH3 := HH.cellSet 0 (.bool (false))
   simp only [qI, qO] at HH3
   refine hK.out _ _ (fun e => absurd rfl e) ?_
   clear hK K
   (try simp only [Act.put, qI, qO, qU])
   refine late_done (by kernel_rfl) ?_ _
   refine NoPanic.normal ?_
   clear e0_ f0_ HH
   generalize World.setCell wd ⟨wt, 0, none⟩ (.bool (false)) = w9 at *
   go_wp2_with fail
   go_meet
   exact HH3
  cases pd
  ·cases kb_
   ·simp only [Bool.true_and, Bool.false_and, Bool.or_false] at H ⊢
    have HH := H.new (Chg.refl [] _).drew
    clear H
    refine wp_region_noPanic ?_
    refine late_region (S := (fun w' => Blk w' wb 51 (wdC hp gq q t dd) ∧ Blk w' sb 76 #[.slice A9 P.ats.length c9, .int .i64 pg_, .bool true, .bool pu, .bool px, .bool pl, .bool false] ∧ Blk w' wt 54 #[.bool true, .bool pu, .bool px])) (Z := 21) (by kernel_rfl) ⟨(HH.pick 3 rfl).blk, (HH.pick 6 rfl).blk, HH.blk⟩ (fun hHeld => ?_)
    generalize World.drew z14 = wd at *
    (refine lk 0 146 ?_ ?_ ?_; rotate_left; · (intro w hSw; go_simp; (try with_reducible rfl)))
    (try simp only [Act.put, qI, qO, qU])
    (refine lk 1 147 ?_ ?_ ?_; rotate_left; · (intro w hSw; (try dsimp only at hSw); have c_ := hSw.2.2.cell 0; simp only [qA, qZ] at c_; go_simp; (try with_reducible rfl)))
    (try simp only [Act.put, qI, qO, qU])
    (refine lk 2 148 ?_ ?_ ?_; rotate_left; · (intro w hSw; go_simp; (try with_reducible rfl)))
    (try simp only [Act.put, qI, qO, qU])
    (refine lk 3 149 ?_ ?_ ?_; rotate_left; · (intro w hSw; go_simp; (try with_reducible rfl)))
    (try simp only [Act.put, qI, qO, qU])
    (refine lk 4 150 ?_ ?_ ?_; rotate_left; · (intro w hSw; (try dsimp only at hSw); have c_ := hSw.2.1.cell 6; simp only [qA, qZ, qS] at c_; go_simp; (try with_reducible rfl)))
    (try simp only [Act.put, qI, qO, qU])
    (refine lk 5 151 ?_ ?_ ?_; rotate_left; · (intro w hSw; go_simp; (try with_reducible rfl)))
    (try simp only [Act.put, qI, qO, qU])
    (refine lk 6 152 ?_ ?_ ?_; rotate_left; · (intro w hSw; go_simp; (try with_reducible rfl)))
    (try simp only [Act.put, qI, qO, qU])
    (refine lk 7 153 ?_ ?_ ?_; rotate_left; · (intro w hSw; go_simp; (try with_reducible rfl)))
    (try simp only [Act.put, qI, qO, qU])
    (refine lk 8 154 ?_ ?_ ?_; rotate_left; · (intro w hSw; go_simp; (try with_reducible rfl)))
    (try simp only [Act.put, qI, qO, qU])
    (refine lk 9 155 ?_ ?_ ?_; rotate_left; · (intro w hSw; go_simp; (try with_reducible rfl)))
    (try simp only [Act.put, qI, qO, qU])
    (refine lk 10 156 ?_ ?_ ?_; rotate_left; · (intro w hSw; go_simp; (try with_reducible rfl)))
    (try simp only [Act.put, qI, qO, qU])
    (refine late_off 11 (some 157) rfl rfl (by kernel_rfl) (by kernel_rfl) (by kernel_rfl) (by kernel_rfl) (fun _ _ _ h => h) (by rfl) (by assumption) ?_)
    (try simp only [Act.put, qI, qO, qU])
    (refine late_off 12 (some 158) rfl rfl (by kernel_rfl) (by kernel_rfl) (by kernel_rfl) (by kernel_rfl) (fun _ _ _ h => h) (by rfl) (by assumption) ?_)
    (try simp only [Act.put, qI, qO, qU])
    (refine late_off 13 (some 159) rfl rfl (by kernel_rfl) (by kernel_rfl) (by kernel_rfl) (by kernel_rfl) (fun _ _ _ h => h) (by rfl) (by assumption) ?_)
    (try simp only [Act.put, qI, qO, qU])
    (refine late_off 14 (some 160) rfl rfl (by kernel_rfl) (by kernel_rfl) (by kernel_rfl) (by kernel_rfl) (fun _ _ _ h => h) (by rfl) (by assumption) ?_)
    (try simp only [Act.put, qI, qO, qU])
    (refine late_off 15 (some 161) rfl rfl (by kernel_rfl) (by kernel_rfl) (by kernel_rfl) (by kernel_rfl) (fun _ _ _ h => h) (by rfl) (by assumption) ?_)
    (try simp only [Act.put, qI, qO, qU])
    (refine late_off 16 (some 162) rfl rfl (by kernel_rfl) (by kernel_rfl) (by kernel_rfl) (by kernel_rfl) (fun _ _ _ h => h) (by rfl) (by assumption) ?_)
    (try simp only [Act.put, qI, qO, qU])
    (refine late_off 17 (some 163) rfl rfl (by kernel_rfl) (by kernel_rfl) (by kernel_rfl) (by kernel_rfl) (fun _ _ _ h => h) (by rfl) (by assumption) ?_)
    (try simp only [Act.put, qI, qO, qU])
    (refine late_off 18 (some 164) rfl rfl (by kernel_rfl) (by kernel_rfl) (by kernel_rfl) (by kernel_rfl) (fun _ _ _ h => h) (by rfl) (by assumption) ?_)
    (try simp only [Act.put, qI, qO, qU])
    (refine lk 19 165 ?_ ?_ ?_; rotate_left; · (intro w hSw; go_simp; (try with_reducible rfl)))
    (try simp only [Act.put, qI, qO, qU])
    refine lrdy 20 fun K hK => ?_
    go_simp
    refine hK.out _ _ (fun _ => by (try dsimp only); exact hHeld) ?_
    clear hK K
    (try simp only [Act.put, qI, qO, qU])
    have hHeld := hHeld
    have e0_ := HH.blk.cell 0; have f0_ := HH.blk.frozen 0
    simp only [qA, qZ] at e0_
    refine lrdy 21 fun K hK => ?_
    go_simp
    have HH3 := HH.cellSet 0 (.bool (false))
    simp only [qI, qO] at HH3
    refine hK.out _ _ (fun e => absurd rfl e) ?_
    clear hK K
    (try simp only [Act.put, qI, qO, qU])
    refine late_done (by kernel_rfl) ?_ _
    refine NoPanic.normal ?_
    clear e0_ f0_ HH
    generalize World.setCell wd ⟨wt, 0, none⟩ (.bool (false)) = w9 at *
    go_wp2_with fail
    go_meet
    exact HH3
   simp only [Bool.true_and, Bool.or_true] at H ⊢
   have HH := H.new (Chg.refl [] _).drew
   clear H
   refine wp_region_noPanic ?_
   refine late_region (S := (fun w' => Blk w' wb 51 (wdC hp gq q t dd) ∧ Blk w' sb 76 #[.slice A9 P.ats.length c9, .int .i64 pg_, .bool true, .bool pu, .bool px, .bool pl, .bool false] ∧ Blk w' wt 54 #[.bool true, .bool pu, .bool px])) (Z := 21) (by kernel_rfl) ⟨(HH.pick 3 rfl).blk, (HH.pick 6 rfl).blk, HH.blk⟩ (fun hHeld => ?_)
   generalize World.drew z14 = wd at *
   (refine lk 0 146 ?_ ?_ ?_; rotate_left; · (intro w hSw; go_simp; (try with_reducible rfl)))
   (try simp only [Act.put, qI, qO, qU])
   (refine lk 1 147 ?_ ?_ ?_; rotate_left; · (intro w hSw; (try dsimp only at hSw); have c_ := hSw.2.2.cell 0; simp only [qA, qZ] at c_; go_simp; (try with_reducible rfl)))
   (try simp only [Act.put, qI, qO, qU])
   (refine lk 2 148 ?_ ?_ ?_; rotate_left; · (intro w hSw; go_simp; (try with_reducible rfl)))
   (try simp only [Act.put, qI, qO, qU])
   (refine lk 3 149 ?_ ?_ ?_; rotate_left; · (intro w hSw; go_simp; (try with_reducible rfl)))
   (try simp only [Act.put, qI, qO, qU])
   (refine lk 4 150 ?_ ?_ ?_; rotate_left; · (intro w hSw; (try dsimp only at hSw); have c_ := hSw.2.1.cell 6; simp only [qA, qZ, qS] at c_; go_simp; (try with_reducible rfl)))
   (try simp only [Act.put, qI, qO, qU])
   (refine lk 5 151 ?_ ?_ ?_; rotate_left; · (intro w hSw; go_simp; (try with_reducible rfl)))
   (try simp only [Act.put, qI, qO, qU])
   (refine lk 6 152 ?_ ?_ ?_; rotate_left; · (intro w hSw; go_simp; (try with_reducible rfl)))
   (try simp only [Act.put, qI, qO, qU])
   (refine lk 7 153 ?_ ?_ ?_; rotate_left; · (intro w hSw; go_simp; (try with_reducible rfl)))
   (try simp only [Act.put, qI, qO, qU])
   (refine lk 8 154 ?_ ?_ ?_; rotate_left; · (intro w hSw; go_simp; (try with_reducible rfl)))
   (try simp only [Act.put, qI, qO, qU])
   (refine lk 9 155 ?_ ?_ ?_; rotate_left; · (intro w hSw; go_simp; (try with_reducible rfl)))
   (try simp only [Act.put, qI, qO, qU])
   (refine lk 10 156 ?_ ?_ ?_; rotate_left; · (intro w hSw; go_simp; (try with_reducible rfl)))
   (try simp only [Act.put, qI, qO, qU])
   (refine lk 11 157 ?_ ?_ ?_; rotate_left; · (intro w hSw; go_simp; (try with_reducible rfl)))
   (try simp only [Act.put, qI, qO, qU])
   (refine lk 12 158 ?_ ?_ ?_; rotate_left; · (intro w hSw; go_simp; (try with_reducible rfl)))
   (try simp only [Act.put, qI, qO, qU])
   (refine lk 13 159 ?_ ?_ ?_; rotate_left; · (intro w hSw; go_simp; (try with_reducible rfl)))
   (try simp only [Act.put, qI, qO, qU])
   (refine lk 14 160 ?_ ?_ ?_; rotate_left; · (intro w hSw; (try dsimp only at hSw); have c_ := wdC_cells hSw.1; go_simp; (try with_reducible rfl)))
   (try simp only [Act.put, qI, qO, qU])
   (refine lk 15 161 ?_ ?_ ?_; rotate_left; · (intro w hSw; go_simp; (try with_reducible rfl)))
   (try simp only [Act.put, qI, qO, qU])
   (refine lk 16 162 ?_ ?_ ?_; rotate_left; · (intro w hSw; (try dsimp only at hSw); have c_ := hSw.2.1.cell 1; simp only [qA, qZ, qS] at c_; go_simp; (try with_reducible rfl)))
   (try simp only [Act.put, qI, qO, qU])
   refine lrdy 17 fun K hK => ?_
   go_simp
   (go_at_call 40; refine (cP (HH.pick 2 rfl)).mono ?_; rintro e u1 ⟨rfl, HX⟩; clear HH; have HH := (HX.pick 2 rfl).pick 2 rfl; clear HX)
   refine hK.out _ _ (fun _ => by (try dsimp only); exact ⟨(HH.pick 3 rfl).blk, (HH.pick 6 rfl).blk, HH.blk⟩) ?_
   clear hK K
   (try simp only [Act.put, qI, qO, qU])
   have hHeld := (show Blk _ wb 51 (wdC hp gq q t dd) ∧ Blk _ sb 76 #[.slice A9 P.ats.length c9, .int .i64 pg_, .bool true, .bool pu, .bool px, .bool pl, .bool false] ∧ Blk _ wt 54 #[.bool true, .bool pu, .bool px] from ⟨(HH.pick 3 rfl).blk, (HH.pick 6 rfl).blk, HH.blk⟩)
   (refine lk 18 164 ?_ ?_ ?_; rotate_left; · (intro w hSw; go_simp; (try with_reducible rfl)))
   (try simp only [Act.put, qI, qO, qU])
   (refine lk 19 165 ?_ ?_ ?_; rotate_left; · (intro w hSw; go_simp; (try with_reducible rfl)))
   (try simp only [Act.put, qI, qO, qU])
   refine lrdy 20 fun K hK => ?_
   go_simp
   refine hK.out _ _ (fun _ => by (try dsimp only); exact hHeld) ?_
   clear hK K
   (try simp only [Act.put, qI, qO, qU])
   have hHeld := hHeld
   have e0_ := HH.blk.cell 0; have f0_ := HH.blk.frozen 0
   simp only [qA, qZ] at e0_
   refine lrdy 21 fun K hK => ?_
   go_simp
   have HH3 := HH.cellSet 0 (.bool (!pr))
   simp only [qI, qO] at HH3
   refine hK.out _ _ (fun e => absurd rfl e) ?_
   clear hK K
   (try simp only [Act.put, qI, qO, qU])
   refine late_done (by kernel_rfl) ?_ _
   refine NoPanic.normal ?_
   clear e0_ f0_ HH
   generalize World.setCell u1 ⟨wt, 0, none⟩ (.bool (!pr)) = w9 at *
   go_wp2_with fail
   go_meet
   exact HH3
  simp only [Bool.true_and, Bool.true_or] at H ⊢
  have HH := H.new (Chg.refl [] _).drew
  clear H
  refine wp_region_noPanic ?_
  refine late_region (S := (fun w' => Blk w' wb 51 (wdC hp gq q t dd) ∧ Blk w' sb 76 #[.slice A9 P.ats.length c9, .int .i64 pg_, .bool true, .bool pu, .bool px, .bool pl, .bool true] ∧ Blk w' wt 54 #[.bool true, .bool pu, .bool px])) (Z := 21) (by kernel_rfl) ⟨(HH.pick 3 rfl).blk, (HH.pick 6 rfl).blk, HH.blk⟩ (fun hHeld => ?_)
  generalize World.drew z14 = wd at *
  (refine lk 0 146 ?_ ?_ ?_; rotate_left; · (intro w hSw; go_simp; (try with_reducible rfl)))
  (try simp only [Act.put, qI, qO, qU])
  (refine lk 1 147 ?_ ?_ ?_; rotate_left; · (intro w hSw; (try dsimp only at hSw); have c_ := hSw.2.2.cell 0; simp only [qA, qZ] at c_; go_simp; (try with_reducible rfl)))
  (try simp only [Act.put, qI, qO, qU])
  (refine lk 2 148 ?_ ?_ ?_; rotate_left; · (intro w hSw; go_simp; (try with_reducible rfl)))
  (try simp only [Act.put, qI, qO, qU])
  (refine lk 3 149 ?_ ?_ ?_; rotate_left; · (intro w hSw; go_simp; (try with_reducible rfl)))
  (try simp only [Act.put, qI, qO, qU])
  (refine lk 4 150 ?_ ?_ ?_; rotate_left; · (intro w hSw; (try dsimp only at hSw); have c_ := hSw.2.1.cell 6; simp only [qA, qZ, qS] at c_; go_simp; (try with_reducible rfl)))
  (try simp only [Act.put, qI, qO, qU])
  (refine lk 5 151 ?_ ?_ ?_; rotate_left; · (intro w hSw; go_simp; (try with_reducible rfl)))
  (try simp only [Act.put, qI, qO, qU])
  (refine late_off 6 (some 152) rfl rfl (by kernel_rfl) (by kernel_rfl) (by kernel_rfl) (by kernel_rfl) (fun _ _ _ h => h) (by rfl) (by assumption) ?_)
  (try simp only [Act.put, qI, qO, qU])
  (refine late_off 7 (some 153) rfl rfl (by kernel_rfl) (by kernel_rfl) (by kernel_rfl) (by kernel_rfl) (fun _ _ _ h => h) (by rfl) (by assumption) ?_)
  (try simp only [Act.put, qI, qO, qU])
  (refine lk 8 154 ?_ ?_ ?_; rotate_left; · (intro w hSw; go_simp; (try with_reducible rfl)))
  (try simp only [Act.put, qI, qO, qU])
  (refine lk 9 155 ?_ ?_ ?_; rotate_left; · (intro w hSw; go_simp; (try with_reducible rfl)))
  (try simp only [Act.put, qI, qO, qU])
  (refine lk 10 156 ?_ ?_ ?_; rotate_left; · (intro w hSw; go_simp; (try with_reducible rfl)))
  (try simp only [Act.put, qI, qO, qU])
  (refine lk 11 157 ?_ ?_ ?_; rotate_left; · (intro w hSw; go_simp; (try with_reducible rfl)))
  (try simp only [Act.put, qI, qO, qU])
  (refine lk 12 158 ?_ ?_ ?_; rotate_left; · (intro w hSw; go_simp; (try with_reducible rfl)))
  (try simp only [Act.put, qI, qO, qU])
  (refine lk 13 159 ?_ ?_ ?_; rotate_left; · (intro w hSw; go_simp; (try with_reducible rfl)))
  (try simp only [Act.put, qI, qO, qU])
  (refine lk 14 160 ?_ ?_ ?_; rotate_left; · (intro w hSw; (try dsimp only at hSw); have c_ := wdC_cells hSw.1; go_simp; (try with_reducible rfl)))
  (try simp only [Act.put, qI, qO, qU])
  (refine lk 15 161 ?_ ?_ ?_; rotate_left; · (intro w hSw; go_simp; (try with_reducible rfl)))
  (try simp only [Act.put, qI, qO, qU])
  (refine lk 16 162 ?_ ?_ ?_; rotate_left; · (intro w hSw; (try dsimp only at hSw); have c_ := hSw.2.1.cell 1; simp only [qA, qZ, qS] at c_; go_simp; (try with_reducible rfl)))
  (try simp only [Act.put, qI, qO, qU])
  refine lrdy 17 fun K hK => ?_
  go_simp
  (go_at_call 40; refine (cP (HH.pick 2 rfl)).mono ?_; rintro e u1 ⟨rfl, HX⟩; clear HH; have HH := (HX.pick 2 rfl).pick 2 rfl; clear HX)
  refine hK.out _ _ (fun _ => by (try dsimp only); exact ⟨(HH.pick 3 rfl).blk, (HH.pick 6 rfl).blk, HH.blk⟩) ?_
  clear hK K
  (try simp only [Act.put, qI, qO, qU])
  have hHeld := (show Blk _ wb 51 (wdC hp gq q t dd) ∧ Blk _ sb 76 #[.slice A9 P.ats.length c9, .int .i64 pg_, .bool true, .bool pu, .bool px, .bool pl, .bool true] ∧ Blk _ wt 54 #[.bool true, .bool pu, .bool px] from ⟨(HH.pick 3 rfl).blk, (HH.pick 6 rfl).blk, HH.blk⟩)
  (refine lk 18 164 ?_ ?_ ?_; rotate_left; · (intro w hSw; go_simp; (try with_reducible rfl)))
  (try simp only [Act.put, qI, qO, qU])
  (refine lk 19 165 ?_ ?_ ?_; rotate_left; · (intro w hSw; go_simp; (try with_reducible rfl)))
  (try simp only [Act.put, qI, qO, qU])
  refine lrdy 20 fun K hK => ?_
  go_simp
  refine hK.out _ _ (fun _ => by (try dsimp only); exact hHeld) ?_
  clear hK K
  (try simp only [Act.put, qI, qO, qU])
  have hHeld := hHeld
  have e0_ := HH.blk.cell 0; have f0_ := HH.blk.frozen 0
  simp only [qA, qZ] at e0_
  refine lrdy 21 fun K hK => ?_
  go_simp
  have HH3 := HH.cellSet 0 (.bool (!pr))
  simp only [qI, qO] at HH3
  refine hK.out _ _ (fun e => absurd rfl e) ?_
  clear hK K
  (try simp only [Act.put, qI, qO, qU])
  refine late_done (by kernel_rfl) ?_ _
  refine NoPanic.normal ?_
  clear e0_ f0_ HH
  generalize World.setCell u1 ⟨wt, 0, none⟩ (.bool (!pr)) = w9 at *
  go_wp2_with fail
  go_meet
  exact HH3
 clear H cP
 have H := (((((((((((hcut.pick 0 rfl).pick 1 rfl).pick 10 rfl).pick 10 rfl).pick 10 rfl).pick 10 rfl).pick 10 rfl).pick 10 rfl).pick 10 rfl).pick 10 rfl).pick 10 rfl)
 clear hcut
 generalize (pw && ((pd || kb_) && !pr)) = xw at *
 have hq := fun w' => run_eqR (⟨xw, pu, px⟩ : Rg) (⟨xw, pu, px⟩ : Rg) w'
 simp only [Rg.eqb_self, Rg.cs] at hq
 have w_ := wdC_cells (H.pick 1 rfl).blk
 go_wp2_with fail
 refine (cA H).mono ?_; rintro e z15 ⟨A7, c7, rfl, H_⟩
 clear H w_
 have H := ((((((((((((H_.pick 0 rfl).pick 11 rfl).pick 11 rfl).pick 11 rfl).pick 11 rfl).pick 11 rfl).pick 11 rfl).pick 11 rfl).pick 11 rfl).pick 11 rfl).pick 11 rfl).pick 11 rfl)
 clear H_
 have H9 := H.ownNil (numE .u64) 59
 clear H
 replace H9 : SepC w _ (ownT (numE .u64) 59 (.slice none 0 0) [] :: gdT dd gq mp q hp hb t 40 4 8 8 gl16 (D1) :: blkT wb 51 (wdC hp gq q t dd) :: blkT fq 202 (flC gq mq q dd) :: mapT mq gl16 :: blkT sb 76 #[.slice A9 P.ats.length c9, .int .i64 pg_, .bool pw, .bool pu, .bool px, .bool pl, .bool pd] :: ownT atE 104 (.slice A9 P.ats.length c9) P.ats :: blkT mm 156 (mmC t2 hp) :: tlbT t2 4 [] :: ownT (numE .u64) 59 (.slice Aw 128 cw) WA :: blkT r1 54 #[.bool xw, .bool pu, .bool px] :: blkT wt 54 #[.bool xw, .bool pu, .bool px] :: ownT (numE .i64) 3 (.slice A7 N7 c7) F7 :: []) := H9
 go_wp2_with fail
 go_loopw [35, 36] (fun s1 s2 wr => ∃ (i : Nat) (Ak1 : Option Addr) (ck1 : Nat), i ≤ 40 ∧ s2 = .int .i64 i ∧ s1 = .slice Ak1 (8 * i) ck1 ∧ SepC w wr (ownT (numE .u64) 59 (.slice Ak1 (8 * i) ck1) (K i) :: gdT dd gq mp q hp hb t 40 4 8 8 gl16 (D1) :: blkT wb 51 (wdC hp gq q t dd) :: blkT fq 202 (flC gq mq q dd) :: mapT mq gl16 :: blkT sb 76 #[.slice A9 P.ats.length c9, .int .i64 pg_, .bool pw, .bool pu, .bool px, .bool pl, .bool pd] :: ownT atE 104 (.slice A9 P.ats.length c9) P.ats :: blkT mm 156 (mmC t2 hp) :: tlbT t2 4 [] :: ownT (numE .u64) 59 (.slice Aw 128 cw) WA :: blkT r1 54 #[.bool xw, .bool pu, .bool px] :: blkT wt 54 #[.bool xw, .bool pu, .bool px] :: ownT (numE .i64) 3 (.slice A7 N7 c7) F7 :: [])) (fun _ s2 _ => 40 - (intOf s2).toNat)
 case atStart => exact ⟨0, none, 0, by omega, rfl, rfl, by rw [hK0.out]; exact H9⟩
 clear H9
 obtain ⟨i, Ak1, ck1, hi, rfl, rfl, H⟩ := hrel
 by_cases hi40 : i < 40
 ·have hiz : (i : Int) < 40 := by omega
  have hks := hKs.out i hi40; have hkl := hKl.out i hi40; have hfl := hKf.out i hi40
  have cFi := fun {z : World} {l' : List Th} (H' : SepC w z (gdT dd gq mp q hp hb t 40 4 8 8 gl16 (D1) :: l')) => cF i hi40 H'
  simp only [hfl] at cFi
  generalize frameW 40 D1.s.W (i : Int) = Fr at *
  generalize K i = M at *
  replace hks := Lib.hid hks; replace hkl := Lib.hid hkl; replace hfl := Lib.hid hfl
  have w_ := wdC_cells (H.pick 2 rfl).blk
  go_wp2_with fail
  refine (cFi (H.pick 1 rfl)).mono ?_; rintro e w5 ⟨A5, c5, rfl, y5, hu5, hA5, hn5⟩
  have H5 := H.new y5
  clear H w_ cFi y5
  have ho4 := H5.own
  have hsrc : Src w5 (numE .u64).k A5 8 c5 ((numE .u64).all Fr) := by rw [numE_all]; exact hu5.src (fun h_ => by have := (hn5 h_).1; omega)
  clear hu5 hA5 hn5
  go_wp2_with (at_builtin; (refine wpList_append_G (E := numE .u64) rfl _ _ 68 rfl 59 (.int .u64 0) 8 Tryz.underlying68 u64_info rfl (.slice Ak1 (8 * i) ck1) M rfl ho4 A5 8 c5 Fr rfl hsrc hfl.out (by rw [hkl.out]; omega) ?_); (intro v6 w6 ho6 hc6 hb6); (have H6 := H5.app ho6 hc6 hb6); (clear ho4 hsrc H5); (obtain ⟨A6, c6, rfl, _, _⟩ := ho6.form); (clear ho6 hc6 hb6))
  have hL6 : (M ++ Fr).length = 8 * (i + 1) := by rw [List.length_append, hkl.out, hfl.out]; omega
  have hM6 : M.length + Fr.length = 8 * (i + 1) := by rw [hkl.out, hfl.out]; omega
  rw [hL6, ← hks.out] at H6
  replace hL6 := Lib.hid hL6; replace hM6 := Lib.hid hM6
  go_roundw
  case rel => exact ⟨i + 1, A6, c6, by omega, by go_num, (by first | rfl | exact congrArg (fun z => Value.slice A6 z c6) hL6.out | exact congrArg (fun z => Value.slice A6 z c6) hM6.out), H6⟩
  case measure => simp [intOf]; omega
 obtain rfl : i = 40 := by omega
 have hiz : ¬ ((40 : Nat) : Int) < 40 := by omega
 rw [hKe.out] at H
 have H := (((((((((((((H.pick 0 rfl).pick 12 rfl).pick 12 rfl).pick 12 rfl).pick 12 rfl).pick 12 rfl).pick 12 rfl).pick 12 rfl).pick 12 rfl).pick 12 rfl).pick 12 rfl).pick 12 rfl).pick 12 rfl)
 simp only [show 8 * 40 = 320 from rfl] at *
 have hsl := (ownA_G.2 (H.pick 5 rfl).own).sla
 have s_ := (H.pick 4 rfl).blk.cell 0; have s1_ := (H.pick 4 rfl).blk.cell 1; have s2_ := (H.pick 4 rfl).blk.cell 2; have s3_ := (H.pick 4 rfl).blk.cell 3; have s4_ := (H.pick 4 rfl).blk.cell 4; have s5_ := (H.pick 4 rfl).blk.cell 5; have s6_ := (H.pick 4 rfl).blk.cell 6
 simp only [qA, qZ, qS] at s_ s1_ s2_ s3_ s4_ s5_ s6_
 have HF := (((((((((((((H.pick 12 rfl).pick 12 rfl).pick 12 rfl).pick 12 rfl).pick 12 rfl).pick 12 rfl).pick 12 rfl).pick 12 rfl).pick 12 rfl).pick 10 rfl).pick 12 rfl).pick 11 rfl).pick 12 rfl)
 clear H
 go_wp2_with fail
 refine (hF2 HF hsl).mono ?_; rintro e z20 ⟨An2, cn2, rfl, H_⟩
 clear hF2 HF hsl
 clear s_ s1_ s2_ s3_ s4_ s5_ s6_
 have H := (((((((((((((H_.tail.pick 12 rfl).pick 12 rfl).pick 12 rfl).pick 12 rfl).pick 12 rfl).pick 12 rfl).pick 12 rfl).pick 12 rfl).pick 12 rfl).pick 11 rfl).pick 10 rfl).pick 12 rfl).pick 12 rfl)
 clear H_
 have H9 := H.ownNil (numE .u64) 59
 clear H
 replace H9 : SepC w _ (ownT (numE .u64) 59 (.slice none 0 0) [] :: gdT dd gq mp q hp hb t 40 4 8 8 gl16 (D1) :: blkT wb 51 (wdC hp gq q t dd) :: blkT fq 202 (flC gq mq q dd) :: mapT mq gl16 :: blkT sb 76 #[.slice A9 P.ats.length c9, .int .i64 pg_, .bool pw, .bool pu, .bool px, .bool pl, .bool pd] :: ownT atE 104 (.slice A9 P.ats.length c9) P.ats :: blkT mm 156 (mmC t2 hp) :: tlbT t2 4 [] :: ownT (numE .u64) 59 (.slice Aw 128 cw) WA :: blkT r1 54 #[.bool xw, .bool pu, .bool px] :: blkT wt 54 #[.bool xw, .bool pu, .bool px] :: ownT (numE .i64) 3 (.slice A7 N7 c7) F7 :: ownT (numE .u64) 59 (.slice Ak1 320 ck1) D1.s.W :: []) := H9
 go_wp2_with fail
 go_loopw [39, 40] (fun s1 s2 wr => ∃ (i : Nat) (Ak : Option Addr) (ck : Nat), i ≤ 40 ∧ s2 = .int .i64 i ∧ s1 = .slice Ak (8 * i) ck ∧ SepC w wr (ownT (numE .u64) 59 (.slice Ak (8 * i) ck) (K i) :: gdT dd gq mp q hp hb t 40 4 8 8 gl16 (D1) :: blkT wb 51 (wdC hp gq q t dd) :: blkT fq 202 (flC gq mq q dd) :: mapT mq gl16 :: blkT sb 76 #[.slice A9 P.ats.length c9, .int .i64 pg_, .bool pw, .bool pu, .bool px, .bool pl, .bool pd] :: ownT atE 104 (.slice A9 P.ats.length c9) P.ats :: blkT mm 156 (mmC t2 hp) :: tlbT t2 4 [] :: ownT (numE .u64) 59 (.slice Aw 128 cw) WA :: blkT r1 54 #[.bool xw, .bool pu, .bool px] :: blkT wt 54 #[.bool xw, .bool pu, .bool px] :: ownT (numE .i64) 3 (.slice A7 N7 c7) F7 :: ownT (numE .u64) 59 (.slice Ak1 320 ck1) D1.s.W :: [])) (fun _ s2 _ => 40 - (intOf s2).toNat)
 case atStart => exact ⟨0, none, 0, by omega, rfl, rfl, by rw [hK0.out]; exact H9⟩
 clear H9
 obtain ⟨i, Ak, ck, hi, rfl, rfl, H⟩ := hrel
 by_cases hi40 : i < 40
 ·have hiz : (i : Int) < 40 := by omega
  have hks := hKs.out i hi40; have hkl := hKl.out i hi40; have hfl := hKf.out i hi40
  have cFi := fun {z : World} {l' : List Th} (H' : SepC w z (gdT dd gq mp q hp hb t 40 4 8 8 gl16 (D1) :: l')) => cF i hi40 H'
  simp only [hfl] at cFi
  generalize frameW 40 D1.s.W (i : Int) = Fr at *
  generalize K i = M at *
  replace hks := Lib.hid hks; replace hkl := Lib.hid hkl; replace hfl := Lib.hid hfl
  have w_ := wdC_cells (H.pick 2 rfl).blk
  go_wp2_with fail
  refine (cFi (H.pick 1 rfl)).mono ?_; rintro e w5 ⟨A5, c5, rfl, y5, hu5, hA5, hn5⟩
  have H5 := H.new y5
  clear H w_ cFi y5
  have ho4 := H5.own
  have hsrc : Src w5 (numE .u64).k A5 8 c5 ((numE .u64).all Fr) := by rw [numE_all]; exact hu5.src (fun h_ => by have := (hn5 h_).1; omega)
  clear hu5 hA5 hn5
  go_wp2_with (at_builtin; (refine wpList_append_G (E := numE .u64) rfl _ _ 68 rfl 59 (.int .u64 0) 8 Tryz.underlying68 u64_info rfl (.slice Ak (8 * i) ck) M rfl ho4 A5 8 c5 Fr rfl hsrc hfl.out (by rw [hkl.out]; omega) ?_); (intro v6 w6 ho6 hc6 hb6); (have H6 := H5.app ho6 hc6 hb6); (clear ho4 hsrc H5); (obtain ⟨A6, c6, rfl, _, _⟩ := ho6.form); (clear ho6 hc6 hb6))
  have hL6 : (M ++ Fr).length = 8 * (i + 1) := by rw [List.length_append, hkl.out, hfl.out]; omega
  have hM6 : M.length + Fr.length = 8 * (i + 1) := by rw [hkl.out, hfl.out]; omega
  rw [hL6, ← hks.out] at H6
  replace hL6 := Lib.hid hL6; replace hM6 := Lib.hid hM6
  go_roundw
  case rel => exact ⟨i + 1, A6, c6, by omega, by go_num, (by first | rfl | exact congrArg (fun z => Value.slice A6 z c6) hL6.out | exact congrArg (fun z => Value.slice A6 z c6) hM6.out), H6⟩
  case measure => simp [intOf]; omega
 obtain rfl : i = 40 := by omega
 have hiz : ¬ ((40 : Nat) : Int) < 40 := by omega
 rw [hKe.out] at H
 have H := ((((((((((((((H.pick 0 rfl).pick 13 rfl).pick 13 rfl).pick 13 rfl).pick 13 rfl).pick 13 rfl).pick 13 rfl).pick 13 rfl).pick 13 rfl).pick 13 rfl).pick 13 rfl).pick 13 rfl).pick 13 rfl).pick 13 rfl)
 simp only [show 8 * 40 = 320 from rfl] at *
 have b1 := (H.pick 9 rfl).blk; have b2 := (H.pick 10 rfl).blk; have b3 := (H.pick 4 rfl).blk
 have x0 := b1.cell 0; have x1 := b1.cell 1; have x2 := b1.cell 2; have v0 := b2.cell 0; have v1 := b2.cell 1; have v2 := b2.cell 2; have s1_ := b3.cell 1
 simp only [qA, qZ, qS] at x0 x1 x2 v0 v1 v2 s1_
 clear b1 b2 b3
 have hgb2 := hgb.out
 have w24 : wrap64 (24 + pg_) = 24 + pg_ := by unfold wrap64; omega
 have v24 : IntKind.i64.wrap (24 + pg_) = 24 + pg_ := IntWalk.i64_in _ (by omega)
 clear hgb2
 have w_ := wdC_cells (H.pick 1 rfl).blk
 go_wp2_with fail
 refine (cA H).mono ?_; rintro e z21 ⟨A8, c8, rfl, H_⟩
 clear cA H w_ x0 x1 x2 v0 v1 v2 s1_
 go_wp2_with fail
 refine (SameI_is A8 N7 c8 F7 A7 N7 c7 F7 true _ ((ownI_G.2 H_.own).slk hw7.out (by rw [hF7l.out]; omega)) ((ownI_G.2 (H_.pick 12 rfl).own).slk hw7.out (by rw [hF7l.out]; omega)) (by simp)).mono ?_; rintro e z22 ⟨rfl, y_⟩
 replace H_ := H_.new y_
 clear y_
 go_wp2_with fail
 refine (SameWords_any _ _ 320 320 _ _ D1.s.W D1.s.W _ (H_.pick 13 rfl).own.slg.slu (H_.pick 14 rfl).own.slg.slu (by omega) (by omega)).mono ?_; rintro e z23 ⟨rfl, q_, rfl⟩
 have H := H_.tail.new ((Chg.refl [] z22).drewN q_)
 clear H_
 simp only [eqL_self]
 have w_ := wdC_cells (H.pick 1 rfl).blk
 go_wp2_with fail
 refine (cW1 H).mono ?_; rintro e z24 ⟨Ax, cx, rfl, H_⟩
 clear cW1 H w_
 go_wp2_with fail
 refine (SameWords_any _ _ 128 128 _ _ WA WA _ H_.own.slg.slu (H_.pick 9 rfl).own.slg.slu (by omega) (by omega)).mono ?_; rintro e z25 ⟨rfl, q_, rfl⟩
 have H := H_.tail.new ((Chg.refl [] z24).drewN q_)
 clear H_
 simp only [eqL_self]
 go_wp2_with fail
 go_ret
 exact ⟨rfl, H.1⟩
theorem FillFinds_walk (A : Option Addr) (n c : Nat) (P : List Pu) (B : Option Addr) (m e0 : Nat) (L : List Fst) (r_ p_ k_ : Int) (us : Bool) (w : World) (hP : SlP w A n P) (hl : FopsIn w B m L) (hr_ : 0 ≤ r_ ∧ r_ ≤ 255) (hp_ : 0 ≤ p_ ∧ p_ ≤ 65535) (hk_ : 0 ≤ k_ ∧ k_ ≤ 255) (hE : ErrIn w) :
  Calls Tryz.prog 4 #[.slice A n c, .slice B m e0, .int .u8 r_, .int .u16 p_, .int .u8 k_, .bool us] w fun e w' => e = .returned (.bool true) ∧ Chg [] w w' := by
 obtain ⟨k, rfl⟩ := Int.eq_ofNat_of_zero_le hr_.1
 obtain ⟨k2, rfl⟩ := Int.eq_ofNat_of_zero_le hp_.1
 obtain ⟨k3, rfl⟩ := Int.eq_ofNat_of_zero_le hk_.1
 exact lawFillFinds_any A n c P B m e0 L k k2 k3 us w hP hl hE (by omega) (by omega) (by omega)
end Go.Proofs.YtmbgepafpcbakaaGreatDoor
