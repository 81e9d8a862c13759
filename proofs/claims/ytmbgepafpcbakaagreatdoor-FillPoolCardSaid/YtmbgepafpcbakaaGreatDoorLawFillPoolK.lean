/-
 FillPool: the law, walked from contracts.
-/
import Derived.Test.YtmbgepafpcbakaaGreatDoorFlNK
import Derived.Deep.CutRange
namespace Go.Proofs.YtmbgepafpcbakaaGreatDoor
open Go.RowKit Go.Maps
def ordN (w : World) (q : Nat) : Nat := match w.cell? ⟨q, 3, none⟩ with
 | some (.slice _ n _) => n
 | _ => 0
theorem SepC.kOrd {w0 w : World} {dd gq mp q hp hb t n a m most : Nat} {L : List Int} {d : Gd} {l : List Th} (H : SepC w0 w (gdT dd gq mp q hp hb t n a m most L (d) :: l)) : ordN w q = d.s.L.length := by
 obtain ⟨G, v, H1⟩ := H.gO
 obtain ⟨_, _, _, _, _, h⟩ := H1.at2.stx
 obtain ⟨A, c, e, _⟩ := (ownI_G.1 h.od).form
 have h3 := h.st.cell 3
 simp only [qA, qZ, qS] at h3
 unfold ordN
 rw [h3, e, List.length_map]
theorem made_len (P : List Pu) : (madeG P).length = 8 * 40 := by unfold madeG; rw [setsG_len, zeros_len]
set_option maxRecDepth 100000 in
set_option maxHeartbeats 20000000 in
theorem lawFillPool_any (A : Option Addr) (n c : Nat) (P : List Pu) (mn pg : Nat) (w : World) (hP : SlP w A n P) (hE : ErrIn w) (hmn : mn ≤ 255) (hpg : pg ≤ 65535) :
  Calls Tryz.prog 9 #[.slice A n c, .int .u8 mn, .int .u16 pg] w fun e w' => e = .returned (.bool true) ∧ Chg [] w w' := by
 have hHd := fun w' (h : ErrIn w') => FHead_any w' h
 have H0 := SepC.nil w
 by_cases hn6 : n > 600
 ·have hnz : (n : Int) > 600 := by omega
  go_enter Tryz.func9, Tryz.ntmps9
  go_wp2_with fail
  refine (hHd _ (hE.new H0.1)).mono ?_; rintro e z1 ⟨rfl, y1⟩
  have H1 := H0.new y1
  clear H0 y1 hHd
  go_wp2_with fail
  refine (Made16_at (hP.self H1.1)).mono ?_; intro e z2 hMP
  unfold MadeP16 at hMP
  obtain ⟨wb, dd, gq, mp, q, hp, hb, t, rfl, HM⟩ := hMP
  have H := H1.merge HM
  clear H1 HM hP
  go_wp2_with fail
  go_ret
  exact ⟨rfl, H.1⟩
 have hnz : ¬ (n : Int) > 600 := by omega
 clear hn6
 obtain ⟨N, hN, hN5⟩ : ∃ N : Nat, pg % 512 = N ∧ N < 512 := ⟨_, rfl, by omega⟩
 obtain ⟨K, hK, hK6⟩ : ∃ K : Nat, mn % 6 = K ∧ K < 6 := ⟨_, rfl, by omega⟩
 have hm1 : (mn : Int) % 6 = (K : Int) := by omega
 have hm1t : Int.tmod (mn : Int) 6 = (K : Int) := by rw [Int.tmod_eq_emod_of_nonneg (by omega)]; exact hm1
 have hm2 : (pg : Int) % 512 = (N : Int) := by omega
 have hm2t : Int.tmod (pg : Int) 512 = (N : Int) := by rw [Int.tmod_eq_emod_of_nonneg (by omega)]; exact hm2
 clear hN hK
 have hWl := made_len P
 have hst : gd0 (madeG P) = preN (madeG P) 0 := rfl
 go_enter Tryz.func9, Tryz.ntmps9
 go_wp2_with fail
 refine (hHd _ (hE.new H0.1)).mono ?_; rintro e z1 ⟨rfl, y1⟩
 have H1 := H0.new y1
 clear H0 y1 hHd
 go_wp2_with fail
 refine (Made16_at (hP.self H1.1)).mono ?_; intro e z2 hMP
 unfold MadeP16 at hMP
 obtain ⟨wb, dd, gq, mp, q, hp, hb, t, rfl, HM⟩ := hMP
 have H := H1.merge HM
 clear H1 HM hP
 rw [hst] at H
 clear hst
 generalize madeG P = W0 at *
 have hpo := pre_ok W0 hWl
 have hpl := fun j (hj : j ≤ 8) => pre_left hWl (j := j) hj
 have hps := fun j (hj : j < 8) => (pre_step hj (pre_ok W0 hWl j (by omega))).1
 replace hWl := Lib.hid hWl; replace hpo := Lib.hid hpo; replace hpl := Lib.hid hpl; replace hps := Lib.hid hps
 skip
 go_wp2_with fail
 go_loopw [] (fun wr => ∃ j : Nat, j ≤ 8 - K ∧ SepC w wr (gdT dd gq mp q hp hb t 40 4 8 8 gl16 (preN W0 j) :: blkT wb 51 (wdC hp gq q t dd) :: [])) (fun wr => 8 - ordN wr q)
 case atStart => exact ⟨0, Nat.zero_le _, H⟩
 clear H
 obtain ⟨j, hj, H⟩ := hrel
 have hln := hpl.out j (by omega)
 have hor := H.kOrd
 rw [(hpo.out j (by omega)).len] at hor
 replace hor := Lib.hid hor
 have cL := fun {z : World} {l' : List Th} (H' : SepC w z (gdT dd gq mp q hp hb t 40 4 8 8 gl16 (preN W0 j) :: l')) => H'.kLeft
 simp only [hln] at cL
 have w_ := wdC_cells (H.pick 1 rfl).blk
 by_cases hlt : j < 8 - K
 ·have hgt : ((8 - j : Nat) : Int) > (K : Int) := by omega
  obtain ⟨N8, hN8⟩ : ∃ N8, 8 - j = N8 := ⟨_, rfl⟩
  have hn8 : N8 ≤ 8 := by omega
  have hpk : preK (preN W0 j).s = ⟨100 + (N8 : Int), 3, 0⟩ := by unfold preK; rw [hln, hN8]
  rw [hN8] at cL hgt
  have hmb := hps.out j (by omega)
  have G2 := (hpo.out (j + 1) (by omega)).gd
  have cS := fun {z : World} {l' : List Th} (H' : SepC w z (gdT dd gq mp q hp hb t 40 4 8 8 gl16 (preN W0 j) :: l')) => H'.kSMake (preK (preN W0 j).s) (by
   have e1 := (hpo.out j (by omega)).T; have e2 := (hpo.out j (by omega)).l
   rw [e1, e2]; exact G2)
  rw [hmb, (hpo.out j (by omega)).T, (hpo.out j (by omega)).l] at cS
  generalize makeV (preN W0 j).s (preK (preN W0 j).s) = mv_ at cS
  have hnx : (⟨makeS 40 (preN W0 j).s (preK (preN W0 j).s), [], []⟩ : Gd) = preN W0 (j + 1) := rfl
  rw [hnx] at cS
  clear hnx G2
  simp only [hpk, Ky.cs] at cS
  clear hpk hmb hln
  have hsum : IntKind.i64.wrap (100 + (N8 : Int)) = 100 + (N8 : Int) := IntWalk.i64_in _ (by omega)
  have hsumw : wrap64 (100 + (N8 : Int)) = 100 + (N8 : Int) := by unfold wrap64; omega
  replace hN8 := Lib.hid hN8
  go_wp2_with fail
  refine (cL H).mono ?_; rintro e z4 ⟨rfl, y_⟩
  replace H := H.new y_
  clear y_ w_
  go_upto_region 7 with fail
  have HH := H.new (Chg.refl [] _).drew
  clear H
  refine wp_region_noPanic ?_
  refine wp_region_held_drew (S := (fun w' => Blk w' wb 51 (wdC hp gq q t dd))) (by kernel_rfl) ?_ (fun hHeld => ?_)
  ·exact (HH.pick 1 rfl).blk
  refine tq 0 49 _ ?_
  refine tq 1 50 _ ?_
  refine tq 2 51 _ ?_
  (refine tk 3 52 ?_ ?_ ?_; rotate_left; · (intro w hSw; (try dsimp only at hSw); have c_ := wdC_cells hSw; go_simp; (try with_reducible rfl)))
  (try simp only [Act.put, qI, qO, qU])
  refine tq 4 53 _ ?_
  refine tq 5 54 _ ?_
  refine tq 6 55 _ ?_
  (refine tk 7 56 ?_ ?_ ?_; rotate_left; · (intro w hSw; (try dsimp only at hSw); have c_ := wdC_cells hSw; go_simp; (try with_reducible rfl)))
  (try simp only [Act.put, qI, qO, qU])
  refine rdy 8 fun K hK => ?_
  go_simp
  (go_at_call 42; refine (cL HH).mono ?_; rintro e u1 ⟨rfl, y_⟩; replace HH := HH.new y_; clear y_)
  refine hK.out _ _ (by (try dsimp only); exact (HH.pick 1 rfl).blk) (fun hHeld => ?_)
  clear hK K
  (try simp only [Act.put, qI, qO, qU])
  refine tq 9 58 _ ?_
  (try simp only [Act.put, qI, qO, qU])
  refine tq 10 59 _ ?_
  (try simp only [Act.put, qI, qO, qU])
  refine rdy 11 fun K hK => ?_
  go_simp
  (go_at_call 45; refine (cS HH).mono ?_; rintro e u2 ⟨rfl, H9⟩; clear HH; have HH := H9; clear H9)
  refine hK.out _ _ (by (try dsimp only); exact (HH.pick 1 rfl).blk) (fun hHeld => ?_)
  clear hK K
  (try simp only [Act.put, qI, qO, qU])
  refine tq 12 48 _ ?_
  refine tq 13 61 _ ?_
  refine tq 14 62 _ ?_
  refine tq 15 10 _ ?_
  (try simp only [Act.put, qI, qO, qU])
  refine tq 16 11 _ ?_
  (try simp only [Act.put, qI, qO, qU])
  refine wpAnyH_done (by kernel_rfl) ?_ _
  refine NoPanic.normal ?_
  clear hHeld cL cS hsum hsumw
  go_wp2_with fail
  go_roundw
  case rel => exact ⟨j + 1, by omega, HH⟩
  case measure => (rw [hor.out]; have h2 := HH.kOrd; rw [(hpo.out (j + 1) (by omega)).len] at h2; rw [h2]; omega)
 obtain ⟨ej, hej⟩ : ∃ ej, ej = j := ⟨_, rfl⟩
 have hjk : j = 8 - K := by omega
 have hngt : ¬ ((8 - j : Nat) : Int) > (K : Int) := by omega
 go_wp2_with fail
 refine (cL H).mono ?_; rintro e z4 ⟨rfl, y_⟩
 replace H := H.new y_
 clear y_ w_ cL hln hor
 have hpr := hpo.out j (by omega)
 have hps := fun (page : Int) (Q : Pa) (cc : Int) (h_ : walkO (preN W0 j) 1 page 0 false = (Q, 0, cc)) => pool_seen hWl.out (j := j) (by omega) h_
 clear hpo hpl ej hej
 generalize preN W0 j = d at *
 have hd : FdO d := hpr.ok
 clear hpr hWl
 go_wp2_with fail
 refine H.fMade.mono ?_; rintro e z5 ⟨fq, mq, rfl, H_⟩
 clear H
 have H := H_
 clear H_
 obtain ⟨P, how, code, hwk⟩ := walkO_split d 1 N 0 false
 have hE1 := fun {z : World} (hc : Chg [] w z) => hE.new hc
 have hW := fun {z : World} {l' : List Th} (H' : SepC w z (gdT dd gq mp q hp hb t 40 4 8 8 gl16 (d) :: l')) (hE' : ErrIn z) => H'.gWalk hE' (1) ((N : Int)) 0 false hwk
 unfold pathV at hW
 by_cases hh : how = 0
 rotate_left
 ·have hhb : (how != 0) = true := by simpa using hh
  replace hh := Lib.hid hh
  have w_ := wdC_cells (H.pick 1 rfl).blk
  go_wp2_with fail
  refine (hW H (hE1 H.1)).mono ?_; rintro e z7 ⟨A9, c9, rfl, y1, ho9, hl9⟩
  have H8 := (H.lay (P := ownT atE 104 (.slice A9 P.ats.length c9) P.ats) y1 ⟨rfl, ho9⟩ hl9).alloc #[.slice A9 P.ats.length c9, .int .i64 P.g, .bool P.r.w, .bool P.r.u, .bool P.r.x, .bool P.large, .bool P.dirty] 76
  clear H hW y1 ho9 hl9 w_
  go_wp2_with fail
  go_ret
  exact ⟨rfl, H8.1⟩
 subst hh
 obtain ⟨D, A1, tf, f1, hd1, hfv, ht4, hfi, hfl, hlen⟩ := hps N P code hwk
 have hats := (walk_got hwk).2.2.2.1
 clear hwk hps hd1
 have hF1 := fun {z : World} {l' : List Th} {A9 : Option Addr} {c9 : Nat} (H' : SepC w z (blkT fq 202 (flC gq mq q dd) :: gdT dd gq mp q hp hb t 40 4 8 8 gl16 (d) :: mapT mq gl16 :: l')) (hA' : SlA z A9 P.ats.length P.ats) => H'.flFill (root := 1) (page := (N : Int)) (cA := c9) (written := false) hA' hats hd (by omega)
 unfold pathV at hF1
 rw [f1] at hF1
 simp only at hF1
 clear f1 hd
 replace hats := Lib.hid hats
 have cK := fun {z : World} {l' : List Th} (H' : SepC w z (gdT dd gq mp q hp hb t 40 4 8 8 gl16 (D) :: l')) => H'.kFind ⟨1, 3, 0⟩
 simp only [hfv, hfi, Ky.cs] at cK
 clear hfv hfi
 have cK2 := fun {z : World} {l' : List Th} (H' : SepC w z (gdT dd gq mp q hp hb t 40 4 8 8 gl16 (D) :: l')) => H'.kFind ⟨(atF P 1).1, 2, 0⟩
 simp only [hfl, Ky.cs] at cK2
 clear hfl
 generalize findV D.s.L ⟨(atF P 1).1, 2, 0⟩ = fv2 at *
 have cA := fun {z : World} {l' : List Th} (H' : SepC w z (gdT dd gq mp q hp hb t 40 4 8 8 gl16 (D) :: l')) => H'.kPages
 simp only [List.length_map, hlen] at cA
 replace hlen := Lib.hid hlen
 have w_ := wdC_cells (H.pick 1 rfl).blk
 go_wp2_with fail
 refine (hW H (hE1 H.1)).mono ?_; rintro e z7 ⟨A9, c9, rfl, y1, ho9, hl9⟩
 have H8 := (H.lay (P := ownT atE 104 (.slice A9 P.ats.length c9) P.ats) y1 ⟨rfl, ho9⟩ hl9).alloc #[.slice A9 P.ats.length c9, .int .i64 P.g, .bool P.r.w, .bool P.r.u, .bool P.r.x, .bool P.large, .bool P.dirty] 76
 clear H hW y1 ho9 hl9 w_
 go_upto_region 17 with fail
 generalize z7.alloc (.cells #[.slice A9 P.ats.length c9, .int .i64 P.g, .bool P.r.w, .bool P.r.u, .bool P.r.x, .bool P.large, .bool P.dirty] 76) = z8 at *
 generalize z7.heap.size = sb at *
 have hsl := (ownA_G.2 (H8.pick 1 rfl).own).sla
 have s_ := H8.blk.cell 0; have s1_ := H8.blk.cell 1; have s2_ := H8.blk.cell 2; have s3_ := H8.blk.cell 3; have s4_ := H8.blk.cell 4; have s5_ := H8.blk.cell 5; have s6_ := H8.blk.cell 6
 simp only [qA, qZ, qS] at s_ s1_ s2_ s3_ s4_ s5_ s6_
 have H := ((((((H8.pick 1 rfl).pick 1 rfl).pick 3 rfl).pick 5 rfl).pick 4 rfl).pick 5 rfl)
 clear H8
 go_wp2_with fail
 refine (hF1 H hsl).mono ?_; rintro e z9 ⟨An1, cn1, rfl, H_⟩
 clear hF1 H hsl
 have H := ((((((H_.tail.pick 5 rfl).pick 5 rfl).pick 4 rfl).pick 3 rfl).pick 5 rfl).pick 5 rfl)
 clear H_
 clear s_ s1_ s2_ s3_ s4_ s5_ s6_
 have w_ := wdC_cells (H.pick 1 rfl).blk
 go_wp2_with fail
 refine (cK H).mono ?_; rintro e z10 ⟨rfl, y_⟩
 replace H := H.new y_
 clear cK y_ w_
 have h2a : 1 < P.ats.length := by rw [hats.out]; cases P.large <;> decide
 obtain ⟨ab, ao, rfl, _, hat_⟩ := (ownA_G.2 (H.pick 5 rfl).own).sla.at_ (by omega)
 clear hat_
 have hld : ∀ z, Chg [] z10 z → (z.cell? ⟨wb, 2, none⟩ = some (.pointer (some ⟨q, 0, none⟩)) ∧ z.cell? ⟨sb, 0, none⟩ = some (.slice (some ⟨ab, ao, none⟩) P.ats.length c9) ∧ z.cell? ⟨ab, ao + 2, none⟩ = some (.int .i64 (atF P 1).1)) := fun z hz => by
  have H2 := H.new hz
  obtain ⟨b_, o_, e_, _, h_⟩ := (ownA_G.2 (H2.pick 5 rfl).own).sla.at_ (by omega)
  cases e_
  refine ⟨(wdC_cells (H2.pick 1 rfl).blk).2.2.1, (H2.pick 4 rfl).blk.cell 0, ?_⟩
  exact (h_ 1 (atF P 1) (by unfold atF; rw [List.getD_eq_getElem?_getD, List.getElem?_eq_getElem h2a]; rfl)).1
 obtain ⟨NA, hNA⟩ : ∃ NA, P.ats.length = NA := ⟨_, rfl⟩
 rw [hNA] at hld h2a
 replace hNA := Lib.hid hNA; clear hats
 have h2z : (1 : Int) < (NA : Int) := by omega
 have hnz1 : ¬ (NA : Int) ≤ 1 := by omega
 go_upto_region 19 with fail
 have HH := H.new (Chg.refl [] z10).drew
 refine wp_region_noPanic ?_
 refine wp_region_held_drew (S := (fun w' => Chg [] z10 w')) (by kernel_rfl) ?_ (fun hHeld => ?_)
 ·exact (Chg.refl [] z10).drew
 refine tq 0 102 _ ?_
 refine tq 1 103 _ ?_
 refine tq 2 104 _ ?_
 (refine tk 3 105 ?_ ?_ ?_; rotate_left; · (intro w hSw; (try dsimp only at hSw); obtain ⟨l0_, l1_, l2_⟩ := hld _ hSw; go_simp; (try with_reducible rfl)))
 (try simp only [Act.put, qI, qO, qU])
 refine tq 4 106 _ ?_
 (refine tk 5 107 ?_ ?_ ?_; rotate_left; · (intro w hSw; (try dsimp only at hSw); obtain ⟨l0_, l1_, l2_⟩ := hld _ hSw; go_simp; (try with_reducible rfl)))
 refine tq 6 108 _ ?_
 refine tq 7 109 _ ?_
 (try simp only [Act.put, qI, qO, qU])
 (refine tk 8 110 ?_ ?_ ?_; rotate_left; · (intro w hSw; (try dsimp only at hSw); obtain ⟨l0_, l1_, l2_⟩ := hld _ hSw; go_simp; (try with_reducible rfl)))
 refine tq 9 111 _ ?_
 (try simp only [Act.put, qI, qO, qU])
 refine rdy 10 fun K hK => ?_
 go_simp
 (go_at_call 38; refine (cK2 HH).mono ?_; rintro e u1 ⟨rfl, y_⟩; replace HH := HH.new y_)
 refine hK.out _ _ (by (try dsimp only); exact hHeld.trans y_ (by simp)) (fun hHeld => ?_)
 clear hK K
 (try simp only [Act.put, qI, qO, qU])
 refine tq 11 101 _ ?_
 refine tq 12 113 _ ?_
 refine tq 13 114 _ ?_
 (try simp only [Act.put, qI, qO, qU])
 refine tq 14 21 _ ?_
 refine tq 15 22 _ ?_
 (try simp only [Act.put, qI, qO, qU])
 refine wpAnyH_done (by kernel_rfl) ?_ _
 refine NoPanic.normal ?_
 clear hHeld cK2 hld H h2z hnz1
 have w_ := wdC_cells (HH.pick 1 rfl).blk
 have htz : (4 : Int) ≤ tf := by omega
 have hk6 : K = 0 ∨ K = 1 ∨ K = 2 ∨ K = 3 ∨ K = 4 ∨ K = 5 := by omega
 rcases hk6 with hk_ | hk_ | hk_ | hk_ | hk_ | hk_
 ·subst hk_
  have hjn : j = 8 := by omega
  clear hj hjk hlt hngt hK6
  subst hjn
  simp only [show min 8 (8 + 3) = 8 from rfl] at cA
  go_wp2_with fail
  refine (cA HH).mono ?_; rintro e z12 ⟨A7, c7, rfl, H7⟩
  go_wp2_with fail
  go_ret
  exact ⟨rfl, H7.1⟩
 ·subst hk_
  have hjn : j = 7 := by omega
  clear hj hjk hlt hngt hK6
  subst hjn
  simp only [show min 8 (7 + 3) = 8 from rfl] at cA
  go_wp2_with fail
  refine (cA HH).mono ?_; rintro e z12 ⟨A7, c7, rfl, H7⟩
  go_wp2_with fail
  go_ret
  exact ⟨rfl, H7.1⟩
 ·subst hk_
  have hjn : j = 6 := by omega
  clear hj hjk hlt hngt hK6
  subst hjn
  simp only [show min 8 (6 + 3) = 8 from rfl] at cA
  go_wp2_with fail
  refine (cA HH).mono ?_; rintro e z12 ⟨A7, c7, rfl, H7⟩
  go_wp2_with fail
  go_ret
  exact ⟨rfl, H7.1⟩
 ·subst hk_
  have hjn : j = 5 := by omega
  clear hj hjk hlt hngt hK6
  subst hjn
  simp only [show min 8 (5 + 3) = 8 from rfl] at cA
  go_wp2_with fail
  refine (cA HH).mono ?_; rintro e z12 ⟨A7, c7, rfl, H7⟩
  go_wp2_with fail
  go_ret
  exact ⟨rfl, H7.1⟩
 ·subst hk_
  have hjn : j = 4 := by omega
  clear hj hjk hlt hngt hK6
  subst hjn
  simp only [show min 8 (4 + 3) = 7 from rfl] at cA
  go_wp2_with fail
  refine (cA HH).mono ?_; rintro e z12 ⟨A7, c7, rfl, H7⟩
  go_wp2_with fail
  go_ret
  exact ⟨rfl, H7.1⟩
 subst hk_
 have hjn : j = 3 := by omega
 clear hj hjk hlt hngt hK6
 subst hjn
 simp only [show min 8 (3 + 3) = 6 from rfl] at cA
 go_wp2_with fail
 refine (cA HH).mono ?_; rintro e z12 ⟨A7, c7, rfl, H7⟩
 go_wp2_with fail
 go_ret
 exact ⟨rfl, H7.1⟩
theorem FillPool_walk (A : Option Addr) (n c : Nat) (P : List Pu) (m_ p_ : Int) (w : World) (hP : SlP w A n P) (hm_ : 0 ≤ m_ ∧ m_ ≤ 255) (hp_ : 0 ≤ p_ ∧ p_ ≤ 65535) (hE : ErrIn w) :
  Calls Tryz.prog 9 #[.slice A n c, .int .u8 m_, .int .u16 p_] w fun e w' => e = .returned (.bool true) ∧ Chg [] w w' := by
 obtain ⟨k, rfl⟩ := Int.eq_ofNat_of_zero_le hm_.1
 obtain ⟨k2, rfl⟩ := Int.eq_ofNat_of_zero_le hp_.1
 exact lawFillPool_any A n c P k k2 w hP hE (by omega) (by omega)
end Go.Proofs.YtmbgepafpcbakaaGreatDoor
