/-
 FillDirty: the law, walked from contracts.
-/
import Derived.Test.YtmbgepafpcbakaaGreatDoorFlNK
import Derived.Deep.CutRange
namespace Go.Proofs.YtmbgepafpcbakaaGreatDoor
open Go.RowKit Go.Maps
set_option maxRecDepth 100000 in
set_option maxHeartbeats 20000000 in
theorem lawFillDirty_any (A : Option Addr) (n c : Nat) (P : List Pu) (B : Option Addr) (m e0 : Nat) (L : List Fst) (rt pg : Nat) (w : World) (hP : SlP w A n P) (hl : FopsIn w B m L) (hE : ErrIn w)  (hrt : rt ≤ 255) (hpg : pg ≤ 65535):
  Calls Tryz.prog 8 #[.slice A n c, .slice B m e0, .int .u8 rt, .int .u16 pg] w fun e w' => e = .returned (.bool true) ∧ Chg [] w w' := by
 have hHd := fun w' (h : ErrIn w') => FHead_any w' h
 have hGr := fun z => Great17_any A n c B m e0 z
 have hmm := hl.sl.len
 have hm9 := hl.sl.le
 replace hmm := Lib.hid hmm
 have H0 := SepC.nil w
 cases hg_ : (decide (n > 600) || decide (m > 60))
 rotate_left
 ·rw [hg_] at hGr
  go_enter Tryz.func8, Tryz.ntmps8
  go_wp2_with fail
  refine (hHd _ (hE.new H0.1)).mono ?_; rintro e z1 ⟨rfl, y1⟩
  have H1 := H0.new y1
  clear H0 y1 hHd
  go_wp2_with fail
  refine (Made16_at (hP.self H1.1)).mono ?_; intro e z2 hMP
  unfold MadeP16 at hMP
  obtain ⟨wb, dd, gq, mp, q, hp, hb, t, rfl, HM⟩ := hMP
  have H := H1.merge HM
  clear H1 HM hP
  go_wp2_with fail
  refine (hGr _).mono ?_; rintro e z3 ⟨rfl, rfl⟩
  clear hGr
  go_wp2_with fail
  go_ret
  exact ⟨rfl, H.1⟩
 rw [hg_] at hGr
 clear hg_
 go_enter Tryz.func8, Tryz.ntmps8
 go_wp2_with fail
 refine (hHd _ (hE.new H0.1)).mono ?_; rintro e z1 ⟨rfl, y1⟩
 have H1 := H0.new y1
 clear H0 y1 hHd
 go_wp2_with fail
 refine (Made16_at (hP.self H1.1)).mono ?_; intro e z2 hMP
 unfold MadeP16 at hMP
 obtain ⟨wb, dd, gq, mp, q, hp, hb, t, rfl, HM⟩ := hMP
 have H := H1.merge HM
 clear H1 HM hP
 go_wp2_with fail
 refine (hGr _).mono ?_; rintro e z3 ⟨rfl, rfl⟩
 clear hGr
 go_wp2_with fail
 refine H.fMade.mono ?_; rintro e z4 ⟨fq, mq, rfl, H_⟩
 clear H
 have H := H_
 clear H_
 go_wp2_with fail
 refine (H.tNew 4 (by omega) (by omega)).mono ?_; rintro e z5 ⟨t2, rfl, H_⟩
 clear H
 have H := (((((H_.pick 0 rfl).pick 4 rfl).pick 4 rfl).pick 4 rfl).pick 4 rfl)
 clear H_
 have w_ := wdC_cells (H.pick 1 rfl).blk
 go_wp2_with fail
 refine (H.mmNew hp t2).mono ?_; rintro e z6 ⟨mm, rfl, H_⟩
 clear H w_
 have H := ((((((H_.pick 5 rfl).pick 1 rfl).pick 5 rfl).pick 5 rfl).pick 5 rfl).pick 5 rfl)
 clear H_
 go_wp2_with fail
 replace H : SepC w _ (gdT dd gq mp q hp hb t 40 4 8 8 gl16 (opsF (gd0 (madeG P)) (L.take 0)) :: blkT wb 51 (wdC hp gq q t dd) :: blkT fq 202 (flC gq mq q dd) :: mapT mq gl16 :: blkT mm 156 (mmC t2 hp) :: tlbT t2 4 [] :: []) := H
 go_loopw [14] (fun s_ wr => ∃ k : Nat, k ≤ m ∧ s_ = .int .i64 k ∧ SepC w wr (gdT dd gq mp q hp hb t 40 4 8 8 gl16 (opsF (gd0 (madeG P)) (L.take k)) :: blkT wb 51 (wdC hp gq q t dd) :: blkT fq 202 (flC gq mq q dd) :: mapT mq gl16 :: blkT mm 156 (mmC t2 hp) :: tlbT t2 4 [] :: [])) (fun s_ _ => m - (intOf s_).toNat)
 case atStart => exact ⟨0, Nat.zero_le _, rfl, H⟩
 clear H
 obtain ⟨k, hk, rfl, H⟩ := hrel
 by_cases hlt : k < m
 ·have hltz : (k : Int) < (m : Int) := by omega
  obtain ⟨b, off, o, rfl, ho, c0, c1, c2, c3, c4, c5, c6, c7, c8⟩ := fopE_cells (hl.new H.1).sl hlt
  have hD := H.fDo o (hl.at_ ho) (FdO.take L k (FdO.made P)) (hE.new H.1)
  rw [← opsF_take ho] at hD
  simp only [Fst.cs] at hD
  generalize (doF (opsF (gd0 (madeG P)) (L.take k)) o).2 = R_ at hD
  clear H
  go_wp2_with fail
  refine hD.mono ?_; rintro e w2 ⟨A9, c9, rfl, H2⟩
  clear hD c0 c1 c2 c3 c4 c5 c6 c7 c8
  go_wp2_with fail
  go_roundw
  case rel => exact ⟨k + 1, by omega, by go_num, H2.tail⟩
  case measure => simp [intOf]; omega
 have ek : k = m := by omega
 subst ek
 have hltz : ¬ (k : Int) < (k : Int) := by omega
 rw [List.take_of_length_le (Nat.le_of_eq hmm.out)] at H
 have hd : FdO (opsF (gd0 (madeG P)) L) := FdO.opsF L (FdO.made P)
 obtain ⟨d, hd_⟩ : ∃ d, opsF (gd0 (madeG P)) L = d := ⟨_, rfl⟩
 rw [hd_] at H hd
 clear hd_ hltz hlt hk hmm hm9 hl
 obtain ⟨G, hG, hG5⟩ : ∃ G : Nat, rt % 16 = G ∧ G < 16 := ⟨_, rfl, by omega⟩
 obtain ⟨N, hN, hN5⟩ : ∃ N : Nat, pg % 512 = N ∧ N < 512 := ⟨_, rfl, by omega⟩
 have hm1 : (rt : Int) % 16 = (G : Int) := by omega
 have hm1t : Int.tmod (rt : Int) 16 = (G : Int) := by rw [Int.tmod_eq_emod_of_nonneg (by omega)]; exact hm1
 have hm2 : (pg : Int) % 512 = (N : Int) := by omega
 have hm2t : Int.tmod (pg : Int) 512 = (N : Int) := by rw [Int.tmod_eq_emod_of_nonneg (by omega)]; exact hm2
 clear hG hN
 obtain ⟨P, how, code, hwk⟩ := walkO_split d G N 0 false
 have hE1 := fun {z : World} (hc : Chg [] w z) => hE.new hc
 have hW := fun {z : World} {l' : List Th} (H' : SepC w z (gdT dd gq mp q hp hb t 40 4 8 8 gl16 (d) :: l')) (hE' : ErrIn z) => H'.gWalk hE' ((G : Int)) ((N : Int)) 0 false hwk
 unfold pathV at hW
 by_cases hh : how = 0
 rotate_left
 ·have hhb : (how != 0) = true := by simpa using hh
  replace hh := Lib.hid hh
  have w_ := wdC_cells (H.pick 1 rfl).blk
  go_wp2_with fail
  refine (hW H (hE1 H.1)).mono ?_; rintro e z7 ⟨A9, c9, rfl, y1, ho9, hl9⟩
  have H8 := (H.lay (P := ownT atE 104 (.slice A9 P.ats.length c9) P.ats) y1 ⟨rfl, ho9⟩ hl9).alloc #[.slice A9 P.ats.length c9, .int .i64 P.g, .bool P.r.w, .bool P.r.u, .bool P.r.x, .bool P.large, .bool P.dirty] 76
  clear H hW y1 ho9 hl9 w_
  go_wp2_with fail
  go_ret
  exact ⟨rfl, H8.1⟩
 subst hh
 obtain ⟨tf, D1, A1, D2, A2, f1, f2, hd1, hd2, hfv, hfi, se1, se2⟩ := dirty_seen hd (root := (G : Int)) (page := (N : Int)) (walk_path hwk)
 have hats := (walk_got hwk).2.2.2.1
 clear hwk
 have hF1 := fun {z : World} {l' : List Th} {A9 : Option Addr} {c9 : Nat} (H' : SepC w z (blkT fq 202 (flC gq mq q dd) :: gdT dd gq mp q hp hb t 40 4 8 8 gl16 (d) :: mapT mq gl16 :: l')) (hA' : SlA z A9 P.ats.length P.ats) => H'.flFill (root := (G : Int)) (page := (N : Int)) (cA := c9) (written := false) hA' hats hd (by omega)
 unfold pathV at hF1
 rw [f1] at hF1
 have hF2 := fun {z : World} {l' : List Th} {A9 : Option Addr} {c9 : Nat} (H' : SepC w z (blkT fq 202 (flC gq mq q dd) :: gdT dd gq mp q hp hb t 40 4 8 8 gl16 (D1) :: mapT mq gl16 :: l')) (hA' : SlA z A9 P.ats.length P.ats) => H'.flFill (root := (G : Int)) (page := (N : Int)) (cA := c9) (written := true) hA' hats hd1 (by omega)
 unfold pathV at hF2
 rw [f2] at hF2
 simp only at hF1 hF2
 clear f1 f2 hats hd hd1 hd2
 have cK := fun {z : World} {l' : List Th} (H' : SepC w z (gdT dd gq mp q hp hb t 40 4 8 8 gl16 (D1) :: l')) => H'.kFind ⟨(G : Int), 3, 0⟩
 simp only [hfv, hfi, Ky.cs] at cK
 clear hfv hfi
 have cM1 := fun {z : World} {l' : List Th} (H' : SepC w z (gdT dd gq mp q hp hb t 40 4 8 8 gl16 (D1) :: blkT mm 156 (mmC t2 hp) :: l')) => H'.gMWalk tf (N : Int)
 have cM2 := fun {z : World} {l' : List Th} (H' : SepC w z (gdT dd gq mp q hp hb t 40 4 8 8 gl16 (D2) :: blkT mm 156 (mmC t2 hp) :: l')) => H'.gMWalk tf (N : Int)
 simp only [se1.f, se1.r, se1.is, Rg.cs] at cM1
 simp only [se2.f, se2.r, se2.is, Rg.cs] at cM2
 clear se1 se2
 have cP := fun {z : World} {l' : List Th} (H' : SepC w z (gdT dd gq mp q hp hb t 40 4 8 8 gl16 (D2) :: l')) => H'.kProt P.g
 have w_ := wdC_cells (H.pick 1 rfl).blk
 go_wp2_with fail
 refine (hW H (hE1 H.1)).mono ?_; rintro e z7 ⟨A9, c9, rfl, y1, ho9, hl9⟩
 have H8 := (H.lay (P := ownT atE 104 (.slice A9 P.ats.length c9) P.ats) y1 ⟨rfl, ho9⟩ hl9).alloc #[.slice A9 P.ats.length c9, .int .i64 P.g, .bool P.r.w, .bool P.r.u, .bool P.r.x, .bool P.large, .bool P.dirty] 76
 clear H hW y1 ho9 hl9 w_
 go_upto_region 21 with fail
 generalize z7.alloc (.cells #[.slice A9 P.ats.length c9, .int .i64 P.g, .bool P.r.w, .bool P.r.u, .bool P.r.x, .bool P.large, .bool P.dirty] 76) = z8 at *
 generalize z7.heap.size = sb at *
 have hsl := (ownA_G.2 (H8.pick 1 rfl).own).sla
 have s_ := H8.blk.cell 0; have s1_ := H8.blk.cell 1; have s2_ := H8.blk.cell 2; have s3_ := H8.blk.cell 3; have s4_ := H8.blk.cell 4; have s5_ := H8.blk.cell 5; have s6_ := H8.blk.cell 6
 simp only [qA, qZ, qS] at s_ s1_ s2_ s3_ s4_ s5_ s6_
 have H := ((((((((H8.pick 7 rfl).pick 7 rfl).pick 3 rfl).pick 3 rfl).pick 5 rfl).pick 7 rfl).pick 6 rfl).pick 7 rfl)
 clear H8
 go_wp2_with fail
 refine (hF1 H hsl).mono ?_; rintro e z9 ⟨An1, cn1, rfl, H_⟩
 clear hF1 H hsl
 have H := ((((((((H_.tail.pick 7 rfl).pick 7 rfl).pick 7 rfl).pick 7 rfl).pick 6 rfl).pick 5 rfl).pick 7 rfl).pick 7 rfl)
 clear H_
 clear s_ s1_ s2_ s3_ s4_ s5_ s6_
 have w_ := wdC_cells (H.pick 1 rfl).blk
 go_wp2_with fail
 refine (cK H).mono ?_; rintro e z10 ⟨rfl, y_⟩
 replace H := H.new y_
 clear cK y_ w_
 go_wp2_with fail
 refine (cM1 ((((((((H.pick 7 rfl).pick 6 rfl).pick 6 rfl).pick 6 rfl).pick 6 rfl).pick 6 rfl).pick 7 rfl).pick 7 rfl)).mono ?_; rintro e z11 ⟨rfl, y_⟩
 have HX := (H.new y_).alloc #[.bool (P.r.w && (P.dirty && !protB D1 P.g)), .bool P.r.u, .bool P.r.x] 54
 clear cM1 y_ H
 go_upto_region 24 with fail
 generalize z11.alloc (.cells #[.bool (P.r.w && (P.dirty && !protB D1 P.g)), .bool P.r.u, .bool P.r.x] 54) = z12 at *
 generalize z11.heap.size = r1 at *
 have hsl := (ownA_G.2 (HX.pick 6 rfl).own).sla
 have s_ := (HX.pick 5 rfl).blk.cell 0; have s1_ := (HX.pick 5 rfl).blk.cell 1; have s2_ := (HX.pick 5 rfl).blk.cell 2; have s3_ := (HX.pick 5 rfl).blk.cell 3; have s4_ := (HX.pick 5 rfl).blk.cell 4; have s5_ := (HX.pick 5 rfl).blk.cell 5; have s6_ := (HX.pick 5 rfl).blk.cell 6
 simp only [qA, qZ, qS] at s_ s1_ s2_ s3_ s4_ s5_ s6_
 have H := (((((((((HX.pick 0 rfl).pick 8 rfl).pick 8 rfl).pick 8 rfl).pick 8 rfl).pick 6 rfl).pick 8 rfl).pick 7 rfl).pick 8 rfl)
 clear HX
 go_wp2_with fail
 refine (hF2 H hsl).mono ?_; rintro e z13 ⟨An2, cn2, rfl, H_⟩
 clear hF2 H hsl
 have H := (((((((((H_.tail.pick 8 rfl).pick 8 rfl).pick 7 rfl).pick 7 rfl).pick 6 rfl).pick 5 rfl).pick 7 rfl).pick 8 rfl).pick 8 rfl)
 clear H_
 clear s_ s1_ s2_ s3_ s4_ s5_ s6_
 go_wp2_with fail
 refine (cM2 H).mono ?_; rintro e z14 ⟨rfl, y_⟩
 have HX := (H.new y_).alloc #[.bool (P.r.w && !protB D2 P.g), .bool P.r.u, .bool P.r.x] 54
 clear cM2 y_ H
 go_upto_region 26 with fail
 generalize z14.alloc (.cells #[.bool (P.r.w && !protB D2 P.g), .bool P.r.u, .bool P.r.x] 54) = z15 at *
 generalize z14.heap.size = r2 at *
 have H := ((((((((((HX.pick 8 rfl).pick 3 rfl).pick 8 rfl).pick 7 rfl).pick 7 rfl).pick 5 rfl).pick 9 rfl).pick 9 rfl).pick 9 rfl).pick 9 rfl)
 clear HX
 generalize P.r.w = pw at *
 generalize P.dirty = pd at *
 generalize protB D1 P.g = b1 at *
 generalize protB D2 P.g = b2 at *
 generalize P.r.u = pu at *
 generalize P.r.x = px at *
 generalize P.large = pl at *
 generalize P.g = pg_ at *
 cases pw
 ·cases pd
  ·simp only [Bool.false_and, Bool.and_false] at H
   have HH := H.new (Chg.refl [] _).drew
   clear H
   refine wp_region_noPanic ?_
   refine wp_region_held_drew (S := (fun w' => Blk w' wb 51 (wdC hp gq q t dd) ∧ Blk w' sb 76 #[.slice A9 P.ats.length c9, .int .i64 pg_, .bool false, .bool pu, .bool px, .bool pl, .bool false] ∧ Blk w' r1 54 #[.bool false, .bool pu, .bool px] ∧ Blk w' r2 54 #[.bool false, .bool pu, .bool px])) (by kernel_rfl) ?_ (fun hHeld => ?_)
   ·exact ⟨(HH.pick 1 rfl).blk, (HH.pick 2 rfl).blk, (HH.pick 3 rfl).blk, (HH.pick 4 rfl).blk⟩
   refine tq 0 129 _ ?_
   refine tq 1 130 _ ?_
   refine tq 2 131 _ ?_
   refine tq 3 132 _ ?_
   (try simp only [Act.put, qI, qO, qU])
   refine tq 4 133 _ ?_
   refine tq 5 134 _ ?_
   refine tq 6 135 _ ?_
   refine tq 7 136 _ ?_
   (try simp only [Act.put, qI, qO, qU])
   refine tq 8 137 _ ?_
   refine tq 9 138 _ ?_
   refine tq 10 139 _ ?_
   refine tq 11 140 _ ?_
   (try simp only [Act.put, qI, qO, qU])
   refine tq 12 141 _ ?_
   refine tq 13 142 _ ?_
   (refine tk 14 143 ?_ ?_ ?_; rotate_left; · (intro w hSw; (try dsimp only at hSw); have c_ := hSw.2.1.cell 6; simp only [qA, qZ, qS] at c_; go_simp; (try with_reducible rfl)))
   refine tq 15 144 _ ?_
   (try simp only [Act.put, qI, qO, qU])
   refine tq 16 145 _ ?_
   (refine tk 17 146 ?_ ?_ ?_; rotate_left; · (intro w hSw; (try dsimp only at hSw); have c_ := hSw.2.2.1.cell 0; simp only [qA, qZ] at c_; go_simp; (try with_reducible rfl)))
   refine tq 18 147 _ ?_
   refine tq 19 148 _ ?_
   (try simp only [Act.put, qI, qO, qU])
   refine tq 20 149 _ ?_
   refine tq 21 150 _ ?_
   refine tq 22 151 _ ?_
   (refine tk 23 152 ?_ ?_ ?_; rotate_left; · (intro w hSw; (try dsimp only at hSw); have c_ := hSw.2.2.2.cell 0; simp only [qA, qZ] at c_; go_simp; (try with_reducible rfl)))
   (try simp only [Act.put, qI, qO, qU])
   refine tq 24 153 _ ?_
   refine tq 25 154 _ ?_
   (refine tk 26 155 ?_ ?_ ?_; rotate_left; · (intro w hSw; (try dsimp only at hSw); have c_ := hSw.2.1.cell 2; simp only [qA, qZ, qS] at c_; go_simp; (try with_reducible rfl)))
   refine tq 27 156 _ ?_
   (try simp only [Act.put, qI, qO, qU])
   (refine tko 28 157 ?_)
   (refine tko 29 158 ?_)
   (refine tko 30 159 ?_)
   (refine tko 31 160 ?_)
   (try simp only [Act.put, qI, qO, qU])
   (refine tko 32 161 ?_)
   (refine tko 33 162 ?_)
   (refine tko 34 163 ?_)
   (refine tko 35 164 ?_)
   (try simp only [Act.put, qI, qO, qU])
   refine tq 36 165 _ ?_
   refine tq 37 166 _ ?_
   refine tq 38 167 _ ?_
   refine tq 39 168 _ ?_
   (try simp only [Act.put, qI, qO, qU])
   refine tq 40 169 _ ?_
   (refine tk 41 170 ?_ ?_ ?_; rotate_left; · (intro w hSw; (try dsimp only at hSw); have c_ := hSw.2.2.1.cell 1; simp only [qA, qZ, qS] at c_; go_simp; (try with_reducible rfl)))
   refine tq 42 171 _ ?_
   (refine tk 43 172 ?_ ?_ ?_; rotate_left; · (intro w hSw; (try dsimp only at hSw); have c_ := hSw.2.2.2.cell 1; simp only [qA, qZ, qS] at c_; go_simp; (try with_reducible rfl)))
   (try simp only [Act.put, qI, qO, qU])
   refine tq 44 173 _ ?_
   refine tq 45 174 _ ?_
   refine tq 46 175 _ ?_
   refine tq 47 176 _ ?_
   (try simp only [Act.put, qI, qO, qU])
   (refine tk 48 177 ?_ ?_ ?_; rotate_left; · (intro w hSw; (try dsimp only at hSw); have c_ := hSw.2.2.1.cell 2; simp only [qA, qZ, qS] at c_; go_simp; (try with_reducible rfl)))
   refine tq 49 178 _ ?_
   (refine tk 50 179 ?_ ?_ ?_; rotate_left; · (intro w hSw; (try dsimp only at hSw); have c_ := hSw.2.2.2.cell 2; simp only [qA, qZ, qS] at c_; go_simp; (try with_reducible rfl)))
   refine tq 51 180 _ ?_
   (try simp only [Act.put, qI, qO, qU])
   refine tq 52 181 _ ?_
   refine tq 53 8 _ ?_
   (try simp only [Act.put, qI, qO, qU])
   refine wpAnyH_done (by kernel_rfl) ?_ _
   refine NoPanic.normal ?_
   clear hHeld cP
   go_wp2_with fail
   go_ret
   exact ⟨rfl, HH.1⟩
  simp only [Bool.true_and, Bool.false_and] at H
  have HH := H.new (Chg.refl [] _).drew
  clear H
  refine wp_region_noPanic ?_
  refine wp_region_held_drew (S := (fun w' => Blk w' wb 51 (wdC hp gq q t dd) ∧ Blk w' sb 76 #[.slice A9 P.ats.length c9, .int .i64 pg_, .bool false, .bool pu, .bool px, .bool pl, .bool true] ∧ Blk w' r1 54 #[.bool false, .bool pu, .bool px] ∧ Blk w' r2 54 #[.bool false, .bool pu, .bool px])) (by kernel_rfl) ?_ (fun hHeld => ?_)
  ·exact ⟨(HH.pick 1 rfl).blk, (HH.pick 2 rfl).blk, (HH.pick 3 rfl).blk, (HH.pick 4 rfl).blk⟩
  refine tq 0 129 _ ?_
  refine tq 1 130 _ ?_
  refine tq 2 131 _ ?_
  (try simp only [Act.put, qI, qO, qU])
  refine tq 3 132 _ ?_
  refine tq 4 133 _ ?_
  refine tq 5 134 _ ?_
  refine tq 6 135 _ ?_
  (try simp only [Act.put, qI, qO, qU])
  refine tq 7 136 _ ?_
  refine tq 8 137 _ ?_
  refine tq 9 138 _ ?_
  refine tq 10 139 _ ?_
  (try simp only [Act.put, qI, qO, qU])
  refine tq 11 140 _ ?_
  refine tq 12 141 _ ?_
  refine tq 13 142 _ ?_
  (refine tk 14 143 ?_ ?_ ?_; rotate_left; · (intro w hSw; (try dsimp only at hSw); have c_ := hSw.2.1.cell 6; simp only [qA, qZ, qS] at c_; go_simp; (try with_reducible rfl)))
  (try simp only [Act.put, qI, qO, qU])
  refine tq 15 144 _ ?_
  (refine tko 16 145 ?_)
  (refine tko 17 146 ?_)
  (refine tko 18 147 ?_)
  (try simp only [Act.put, qI, qO, qU])
  refine tq 19 148 _ ?_
  refine tq 20 149 _ ?_
  refine tq 21 150 _ ?_
  refine tq 22 151 _ ?_
  (try simp only [Act.put, qI, qO, qU])
  (refine tk 23 152 ?_ ?_ ?_; rotate_left; · (intro w hSw; (try dsimp only at hSw); have c_ := hSw.2.2.2.cell 0; simp only [qA, qZ] at c_; go_simp; (try with_reducible rfl)))
  refine tq 24 153 _ ?_
  refine tq 25 154 _ ?_
  (refine tk 26 155 ?_ ?_ ?_; rotate_left; · (intro w hSw; (try dsimp only at hSw); have c_ := hSw.2.1.cell 2; simp only [qA, qZ, qS] at c_; go_simp; (try with_reducible rfl)))
  (try simp only [Act.put, qI, qO, qU])
  refine tq 27 156 _ ?_
  (refine tko 28 157 ?_)
  (refine tko 29 158 ?_)
  (refine tko 30 159 ?_)
  (try simp only [Act.put, qI, qO, qU])
  (refine tko 31 160 ?_)
  (refine tko 32 161 ?_)
  (refine tko 33 162 ?_)
  (refine tko 34 163 ?_)
  (try simp only [Act.put, qI, qO, qU])
  (refine tko 35 164 ?_)
  refine tq 36 165 _ ?_
  refine tq 37 166 _ ?_
  refine tq 38 167 _ ?_
  (try simp only [Act.put, qI, qO, qU])
  refine tq 39 168 _ ?_
  refine tq 40 169 _ ?_
  (refine tk 41 170 ?_ ?_ ?_; rotate_left; · (intro w hSw; (try dsimp only at hSw); have c_ := hSw.2.2.1.cell 1; simp only [qA, qZ, qS] at c_; go_simp; (try with_reducible rfl)))
  refine tq 42 171 _ ?_
  (try simp only [Act.put, qI, qO, qU])
  (refine tk 43 172 ?_ ?_ ?_; rotate_left; · (intro w hSw; (try dsimp only at hSw); have c_ := hSw.2.2.2.cell 1; simp only [qA, qZ, qS] at c_; go_simp; (try with_reducible rfl)))
  refine tq 44 173 _ ?_
  refine tq 45 174 _ ?_
  refine tq 46 175 _ ?_
  (try simp only [Act.put, qI, qO, qU])
  refine tq 47 176 _ ?_
  (refine tk 48 177 ?_ ?_ ?_; rotate_left; · (intro w hSw; (try dsimp only at hSw); have c_ := hSw.2.2.1.cell 2; simp only [qA, qZ, qS] at c_; go_simp; (try with_reducible rfl)))
  refine tq 49 178 _ ?_
  (refine tk 50 179 ?_ ?_ ?_; rotate_left; · (intro w hSw; (try dsimp only at hSw); have c_ := hSw.2.2.2.cell 2; simp only [qA, qZ, qS] at c_; go_simp; (try with_reducible rfl)))
  (try simp only [Act.put, qI, qO, qU])
  refine tq 51 180 _ ?_
  refine tq 52 181 _ ?_
  refine tq 53 8 _ ?_
  (try simp only [Act.put, qI, qO, qU])
  refine wpAnyH_done (by kernel_rfl) ?_ _
  refine NoPanic.normal ?_
  clear hHeld cP
  go_wp2_with fail
  go_ret
  exact ⟨rfl, HH.1⟩
 cases pd
 ·simp only [Bool.true_and, Bool.false_and, Bool.and_false] at H
  have HH := H.new (Chg.refl [] _).drew
  clear H
  refine wp_region_noPanic ?_
  refine wp_region_held_drew (S := (fun w' => Blk w' wb 51 (wdC hp gq q t dd) ∧ Blk w' sb 76 #[.slice A9 P.ats.length c9, .int .i64 pg_, .bool true, .bool pu, .bool px, .bool pl, .bool false] ∧ Blk w' r1 54 #[.bool false, .bool pu, .bool px] ∧ Blk w' r2 54 #[.bool (!b2), .bool pu, .bool px])) (by kernel_rfl) ?_ (fun hHeld => ?_)
  ·exact ⟨(HH.pick 1 rfl).blk, (HH.pick 2 rfl).blk, (HH.pick 3 rfl).blk, (HH.pick 4 rfl).blk⟩
  refine tq 0 129 _ ?_
  refine tq 1 130 _ ?_
  (try simp only [Act.put, qI, qO, qU])
  refine tq 2 131 _ ?_
  refine tq 3 132 _ ?_
  refine tq 4 133 _ ?_
  refine tq 5 134 _ ?_
  (try simp only [Act.put, qI, qO, qU])
  refine tq 6 135 _ ?_
  refine tq 7 136 _ ?_
  refine tq 8 137 _ ?_
  refine tq 9 138 _ ?_
  (try simp only [Act.put, qI, qO, qU])
  refine tq 10 139 _ ?_
  refine tq 11 140 _ ?_
  refine tq 12 141 _ ?_
  refine tq 13 142 _ ?_
  (try simp only [Act.put, qI, qO, qU])
  (refine tk 14 143 ?_ ?_ ?_; rotate_left; · (intro w hSw; (try dsimp only at hSw); have c_ := hSw.2.1.cell 6; simp only [qA, qZ, qS] at c_; go_simp; (try with_reducible rfl)))
  refine tq 15 144 _ ?_
  refine tq 16 145 _ ?_
  (refine tk 17 146 ?_ ?_ ?_; rotate_left; · (intro w hSw; (try dsimp only at hSw); have c_ := hSw.2.2.1.cell 0; simp only [qA, qZ] at c_; go_simp; (try with_reducible rfl)))
  (try simp only [Act.put, qI, qO, qU])
  refine tq 18 147 _ ?_
  refine tq 19 148 _ ?_
  refine tq 20 149 _ ?_
  refine tq 21 150 _ ?_
  (try simp only [Act.put, qI, qO, qU])
  refine tq 22 151 _ ?_
  (refine tk 23 152 ?_ ?_ ?_; rotate_left; · (intro w hSw; (try dsimp only at hSw); have c_ := hSw.2.2.2.cell 0; simp only [qA, qZ] at c_; go_simp; (try with_reducible rfl)))
  refine tq 24 153 _ ?_
  refine tq 25 154 _ ?_
  (try simp only [Act.put, qI, qO, qU])
  (refine tk 26 155 ?_ ?_ ?_; rotate_left; · (intro w hSw; (try dsimp only at hSw); have c_ := hSw.2.1.cell 2; simp only [qA, qZ, qS] at c_; go_simp; (try with_reducible rfl)))
  refine tq 27 156 _ ?_
  refine tq 28 157 _ ?_
  refine tq 29 158 _ ?_
  (try simp only [Act.put, qI, qO, qU])
  refine tq 30 159 _ ?_
  (refine tk 31 160 ?_ ?_ ?_; rotate_left; · (intro w hSw; (try dsimp only at hSw); have c_ := wdC_cells hSw.1; go_simp; (try with_reducible rfl)))
  refine tq 32 161 _ ?_
  (refine tk 33 162 ?_ ?_ ?_; rotate_left; · (intro w hSw; (try dsimp only at hSw); have c_ := hSw.2.1.cell 1; simp only [qA, qZ, qS] at c_; go_simp; (try with_reducible rfl)))
  (try simp only [Act.put, qI, qO, qU])
  refine rdy 34 fun K hK => ?_
  go_simp
  (go_at_call 40; refine (cP HH).mono ?_; rintro e u1 ⟨rfl, H9⟩; clear HH; have HH := H9)
  refine hK.out _ _ (by (try dsimp only); exact ⟨(HH.pick 1 rfl).blk, (HH.pick 2 rfl).blk, (HH.pick 3 rfl).blk, (HH.pick 4 rfl).blk⟩) (fun hHeld => ?_)
  clear hK K
  (try simp only [Act.put, qI, qO, qU])
  refine tq 35 164 _ ?_
  (try simp only [Act.put, qI, qO, qU])
  refine tq 36 165 _ ?_
  refine tq 37 166 _ ?_
  refine tq 38 167 _ ?_
  refine tq 39 168 _ ?_
  (try simp only [Act.put, qI, qO, qU])
  refine tq 40 169 _ ?_
  (refine tk 41 170 ?_ ?_ ?_; rotate_left; · (intro w hSw; (try dsimp only at hSw); have c_ := hSw.2.2.1.cell 1; simp only [qA, qZ, qS] at c_; go_simp; (try with_reducible rfl)))
  refine tq 42 171 _ ?_
  (refine tk 43 172 ?_ ?_ ?_; rotate_left; · (intro w hSw; (try dsimp only at hSw); have c_ := hSw.2.2.2.cell 1; simp only [qA, qZ, qS] at c_; go_simp; (try with_reducible rfl)))
  (try simp only [Act.put, qI, qO, qU])
  refine tq 44 173 _ ?_
  refine tq 45 174 _ ?_
  refine tq 46 175 _ ?_
  refine tq 47 176 _ ?_
  (try simp only [Act.put, qI, qO, qU])
  (refine tk 48 177 ?_ ?_ ?_; rotate_left; · (intro w hSw; (try dsimp only at hSw); have c_ := hSw.2.2.1.cell 2; simp only [qA, qZ, qS] at c_; go_simp; (try with_reducible rfl)))
  refine tq 49 178 _ ?_
  (refine tk 50 179 ?_ ?_ ?_; rotate_left; · (intro w hSw; (try dsimp only at hSw); have c_ := hSw.2.2.2.cell 2; simp only [qA, qZ, qS] at c_; go_simp; (try with_reducible rfl)))
  refine tq 51 180 _ ?_
  (try simp only [Act.put, qI, qO, qU])
  refine tq 52 181 _ ?_
  refine tq 53 8 _ ?_
  (try simp only [Act.put, qI, qO, qU])
  refine wpAnyH_done (by kernel_rfl) ?_ _
  refine NoPanic.normal ?_
  clear hHeld cP
  go_wp2_with fail
  go_ret
  exact ⟨rfl, HH.1⟩
 simp only [Bool.true_and] at H
 have HH := H.new (Chg.refl [] _).drew
 clear H
 refine wp_region_noPanic ?_
 refine wp_region_held_drew (S := (fun w' => Blk w' wb 51 (wdC hp gq q t dd) ∧ Blk w' sb 76 #[.slice A9 P.ats.length c9, .int .i64 pg_, .bool true, .bool pu, .bool px, .bool pl, .bool true] ∧ Blk w' r1 54 #[.bool (!b1), .bool pu, .bool px] ∧ Blk w' r2 54 #[.bool (!b2), .bool pu, .bool px])) (by kernel_rfl) ?_ (fun hHeld => ?_)
 ·exact ⟨(HH.pick 1 rfl).blk, (HH.pick 2 rfl).blk, (HH.pick 3 rfl).blk, (HH.pick 4 rfl).blk⟩
 refine tq 0 129 _ ?_
 refine tq 1 130 _ ?_
 refine tq 2 131 _ ?_
 (try simp only [Act.put, qI, qO, qU])
 refine tq 3 132 _ ?_
 refine tq 4 133 _ ?_
 refine tq 5 134 _ ?_
 refine tq 6 135 _ ?_
 (try simp only [Act.put, qI, qO, qU])
 refine tq 7 136 _ ?_
 refine tq 8 137 _ ?_
 refine tq 9 138 _ ?_
 refine tq 10 139 _ ?_
 (try simp only [Act.put, qI, qO, qU])
 refine tq 11 140 _ ?_
 refine tq 12 141 _ ?_
 refine tq 13 142 _ ?_
 (refine tk 14 143 ?_ ?_ ?_; rotate_left; · (intro w hSw; (try dsimp only at hSw); have c_ := hSw.2.1.cell 6; simp only [qA, qZ, qS] at c_; go_simp; (try with_reducible rfl)))
 (try simp only [Act.put, qI, qO, qU])
 refine tq 15 144 _ ?_
 (refine tko 16 145 ?_)
 (refine tko 17 146 ?_)
 (refine tko 18 147 ?_)
 (try simp only [Act.put, qI, qO, qU])
 refine tq 19 148 _ ?_
 refine tq 20 149 _ ?_
 refine tq 21 150 _ ?_
 refine tq 22 151 _ ?_
 (try simp only [Act.put, qI, qO, qU])
 (refine tk 23 152 ?_ ?_ ?_; rotate_left; · (intro w hSw; (try dsimp only at hSw); have c_ := hSw.2.2.2.cell 0; simp only [qA, qZ] at c_; go_simp; (try with_reducible rfl)))
 refine tq 24 153 _ ?_
 refine tq 25 154 _ ?_
 (refine tk 26 155 ?_ ?_ ?_; rotate_left; · (intro w hSw; (try dsimp only at hSw); have c_ := hSw.2.1.cell 2; simp only [qA, qZ, qS] at c_; go_simp; (try with_reducible rfl)))
 (try simp only [Act.put, qI, qO, qU])
 refine tq 27 156 _ ?_
 refine tq 28 157 _ ?_
 refine tq 29 158 _ ?_
 refine tq 30 159 _ ?_
 (try simp only [Act.put, qI, qO, qU])
 (refine tk 31 160 ?_ ?_ ?_; rotate_left; · (intro w hSw; (try dsimp only at hSw); have c_ := wdC_cells hSw.1; go_simp; (try with_reducible rfl)))
 refine tq 32 161 _ ?_
 (refine tk 33 162 ?_ ?_ ?_; rotate_left; · (intro w hSw; (try dsimp only at hSw); have c_ := hSw.2.1.cell 1; simp only [qA, qZ, qS] at c_; go_simp; (try with_reducible rfl)))
 (try simp only [Act.put, qI, qO, qU])
 refine rdy 34 fun K hK => ?_
 go_simp
 (go_at_call 40; refine (cP HH).mono ?_; rintro e u1 ⟨rfl, H9⟩; clear HH; have HH := H9)
 refine hK.out _ _ (by (try dsimp only); exact ⟨(HH.pick 1 rfl).blk, (HH.pick 2 rfl).blk, (HH.pick 3 rfl).blk, (HH.pick 4 rfl).blk⟩) (fun hHeld => ?_)
 clear hK K
 (try simp only [Act.put, qI, qO, qU])
 refine tq 35 164 _ ?_
 refine tq 36 165 _ ?_
 (try simp only [Act.put, qI, qO, qU])
 refine tq 37 166 _ ?_
 refine tq 38 167 _ ?_
 refine tq 39 168 _ ?_
 refine tq 40 169 _ ?_
 (try simp only [Act.put, qI, qO, qU])
 (refine tk 41 170 ?_ ?_ ?_; rotate_left; · (intro w hSw; (try dsimp only at hSw); have c_ := hSw.2.2.1.cell 1; simp only [qA, qZ, qS] at c_; go_simp; (try with_reducible rfl)))
 refine tq 42 171 _ ?_
 (refine tk 43 172 ?_ ?_ ?_; rotate_left; · (intro w hSw; (try dsimp only at hSw); have c_ := hSw.2.2.2.cell 1; simp only [qA, qZ, qS] at c_; go_simp; (try with_reducible rfl)))
 refine tq 44 173 _ ?_
 (try simp only [Act.put, qI, qO, qU])
 refine tq 45 174 _ ?_
 refine tq 46 175 _ ?_
 refine tq 47 176 _ ?_
 (refine tk 48 177 ?_ ?_ ?_; rotate_left; · (intro w hSw; (try dsimp only at hSw); have c_ := hSw.2.2.1.cell 2; simp only [qA, qZ, qS] at c_; go_simp; (try with_reducible rfl)))
 (try simp only [Act.put, qI, qO, qU])
 refine tq 49 178 _ ?_
 (refine tk 50 179 ?_ ?_ ?_; rotate_left; · (intro w hSw; (try dsimp only at hSw); have c_ := hSw.2.2.2.cell 2; simp only [qA, qZ, qS] at c_; go_simp; (try with_reducible rfl)))
 refine tq 51 180 _ ?_
 refine tq 52 181 _ ?_
 (try simp only [Act.put, qI, qO, qU])
 refine tq 53 8 _ ?_
 (try simp only [Act.put, qI, qO, qU])
 refine wpAnyH_done (by kernel_rfl) ?_ _
 refine NoPanic.normal ?_
 clear hHeld cP
 go_wp2_with fail
 go_ret
 exact ⟨rfl, HH.1⟩
theorem FillDirty_walk (A : Option Addr) (n c : Nat) (P : List Pu) (B : Option Addr) (m e0 : Nat) (L : List Fst) (r_ p_ : Int) (w : World) (hP : SlP w A n P) (hl : FopsIn w B m L) (hr_ : 0 ≤ r_ ∧ r_ ≤ 255) (hp_ : 0 ≤ p_ ∧ p_ ≤ 65535) (hE : ErrIn w) :
  Calls Tryz.prog 8 #[.slice A n c, .slice B m e0, .int .u8 r_, .int .u16 p_] w fun e w' => e = .returned (.bool true) ∧ Chg [] w w' := by
 obtain ⟨k, rfl⟩ := Int.eq_ofNat_of_zero_le hr_.1
 obtain ⟨k2, rfl⟩ := Int.eq_ofNat_of_zero_le hp_.1
 exact lawFillDirty_any A n c P B m e0 L k k2 w hP hl hE (by omega) (by omega)
end Go.Proofs.YtmbgepafpcbakaaGreatDoor
