/-
 GuardPlays: the law, walked from contracts.
-/
import Derived.Test.YtgjfidjhbkaobaaGreatGuardHK
import Derived.Test.YtgjfidjhbkaobaaGreatRgLK
import Derived.Test.YtgjfidjhbkaobaaGreatGRkK
import Derived.Test.YtgjfidjhbkaobaaGreatRowsVK
import Derived.Deep.CutRange
namespace Go.Proofs.YtgjfidjhbkaobaaGreat
open Go.RowKit Go.Maps
set_option maxRecDepth 100000 in
set_option maxHeartbeats 20000000 in
theorem lawGuardPlays_any (A : Option Addr) (n c : Nat) (P : List Pu) (B : Option Addr) (m e0 : Nat) (L : List Gst) (root p i g : Int) (w : World) (hP : SlP w A n P) (hl : GopsIn w B m L) :
  Calls Tryz.prog 3 #[.slice A n c, .slice B m e0, .int .i64 root, .int .i64 p, .int .i64 i, .int .i64 g] w fun e w' => e = .returned (.bool true) ∧ Chg [] w w' := by
 have hHd := fun w' => GHead_any w'
 have hGr := fun z => Great16_any A n c B m e0 z
 have hmm := hl.sl.len
 have hm9 := hl.sl.le
 replace hmm := Lib.hid hmm
 have H0 := SepC.nil w
 cases hg_ : (decide (n > 600) || decide (m > 120))
 rotate_left
 ·rw [hg_] at hGr
  go_enter Tryz.func3, Tryz.ntmps3
  go_wp2_with fail
  refine (hHd _).mono ?_; rintro e z1 ⟨rfl, y1⟩
  have H1 := H0.new y1
  clear H0 y1 hHd
  go_wp2_with fail
  refine (Made16_at (hP.self H1.1)).mono ?_; intro e z2 hMP
  unfold MadeP16 at hMP
  obtain ⟨wb, dd, gq, mp, q, hp, hb, t, rfl, HM⟩ := hMP
  have H := H1.merge HM
  clear H1 HM
  go_wp2_with fail
  refine (hGr _).mono ?_; rintro e z3 ⟨rfl, rfl⟩
  clear hGr
  go_wp2_with fail
  go_ret
  exact ⟨rfl, H.1⟩
 rw [hg_] at hGr
 clear hg_
 go_enter Tryz.func3, Tryz.ntmps3
 go_wp2_with fail
 refine (hHd _).mono ?_; rintro e z1 ⟨rfl, y1⟩
 have H1 := H0.new y1
 clear H0 y1 hHd
 go_wp2_with fail
 refine (Made16_at (hP.self H1.1)).mono ?_; intro e z2 hMP
 unfold MadeP16 at hMP
 obtain ⟨wb, dd, gq, mp, q, hp, hb, t, rfl, HM⟩ := hMP
 have H := H1.merge HM
 clear H1 HM
 go_wp2_with fail
 refine (hGr _).mono ?_; rintro e z3 ⟨rfl, rfl⟩
 clear hGr
 go_wp2_with fail
 refine (Told16_at (hP.self H.1)).mono ?_; intro e z4 hTP
 unfold ToldP16 at hTP
 obtain ⟨pb, d2, g2, m2, q2, rp, rb, t2, rfl, HT⟩ := hTP
 have H2 := H.merge HT
 clear H HT hP
 have H : SepC w z4 (gdT dd gq mp q hp hb t 40 4 8 8 gl16 (gd0 (madeG P)) :: blkT wb 46 (wdC hp gq q t dd) :: rgdT d2 g2 m2 q2 rp rb t2 40 4 8 8 gl16 (gd0 (madeG P)) :: blkT pb 54 (wdC rp g2 q2 t2 d2) :: []) := ((H2.pick 2 rfl).pick 3 rfl).swap
 clear H2
 go_wp2_with fail
 replace H : SepC w z4 (gdT dd gq mp q hp hb t 40 4 8 8 gl16 (opsG (gd0 (madeG P)) (L.take 0)) :: blkT wb 46 (wdC hp gq q t dd) :: rgdT d2 g2 m2 q2 rp rb t2 40 4 8 8 gl16 (opsG (gd0 (madeG P)) (L.take 0)) :: blkT pb 54 (wdC rp g2 q2 t2 d2) :: []) := H
 go_loopw [16] (fun s_ wr => ∃ k : Nat, k ≤ m ∧ s_ = .int .i64 k ∧ SepC w wr (gdT dd gq mp q hp hb t 40 4 8 8 gl16 (opsG (gd0 (madeG P)) (L.take k)) :: blkT wb 46 (wdC hp gq q t dd) :: rgdT d2 g2 m2 q2 rp rb t2 40 4 8 8 gl16 (opsG (gd0 (madeG P)) (L.take k)) :: blkT pb 54 (wdC rp g2 q2 t2 d2) :: [])) (fun s_ _ => m - (intOf s_).toNat)
 case atStart => exact ⟨0, Nat.zero_le _, rfl, H⟩
 clear H
 obtain ⟨k, hk, rfl, H⟩ := hrel
 by_cases hlt : k < m
 ·have hltz : (k : Int) < (m : Int) := by omega
  obtain ⟨b, off, o, rfl, ho, c0, c1, c2, c3, c4, c5, c6, c7, c8, c9, c10⟩ := gopE_cells (hl.new H.1).sl hlt
  have hD := H.wDo o (hl.at_ ho)
  have hE := fun {z : World} {l_ : List Th} (H' : SepC w z (rgdT d2 g2 m2 q2 rp rb t2 40 4 8 8 gl16 (opsG (gd0 (madeG P)) (L.take k)) :: blkT pb 54 (wdC rp g2 q2 t2 d2) :: l_)) => H'.pDo o (hl.at_ ho)
  rw [← opsG_take ho] at hD
  simp only [← opsG_take ho] at hE
  simp only [Gst.cs] at hD hE
  generalize doV (opsG (gd0 (madeG P)) (L.take k)) o = pv at *
  generalize doB (opsG (gd0 (madeG P)) (L.take k)) o = pq at *
  generalize opsG (gd0 (madeG P)) (L.take k) = e_0 at *
  generalize hd1 : opsG (gd0 (madeG P)) (L.take (k + 1)) = d1 at *
  replace hd1 := Lib.hid hd1
  go_wp2_with fail
  refine hD.mono ?_; rintro e w2 ⟨rfl, H2⟩
  clear hD H
  clear c0 c1 c2 c3 c4 c5 c6 c7 c8 c9 c10
  obtain ⟨b_, off_, o_, eB_, ho_, c0, c1, c2, c3, c4, c5, c6, c7, c8, c9, c10⟩ := gopE_cells (hl.new H2.1).sl hlt
  cases eB_
  rw [ho] at ho_; cases ho_
  go_wp2_with fail
  refine (hE (((H2.pick 2 rfl).pick 3 rfl).swap)).mono ?_; rintro e w3 ⟨rfl, H3⟩
  clear hE H2
  clear c0 c1 c2 c3 c4 c5 c6 c7 c8 c9 c10
  clear ho
  have H4 : SepC w w3 (gdT dd gq mp q hp hb t 40 4 8 8 gl16 (d1) :: blkT wb 46 (wdC hp gq q t dd) :: rgdT d2 g2 m2 q2 rp rb t2 40 4 8 8 gl16 (d1) :: blkT pb 54 (wdC rp g2 q2 t2 d2) :: []) := ((H3.pick 2 rfl).pick 3 rfl).swap
  clear H3
  have G := H4.gIn
  have hRg : ∀ x ∈ d1.l, IntKind.i64.min ≤ x ∧ x ≤ IntKind.i64.max := fun x hx => by have h_ := G.rg x hx; unfold i64B at h_; have h1 : IntKind.i64.min = -9223372036854775808 := rfl; have h2 : IntKind.i64.max = 9223372036854775807 := rfl; omega
  have hLn : d1.l.length ≤ 9223372036854775807 := by have := G.len; omega
  have hok := G.ok.sr
  have hFb : ∀ x ∈ d1.s.L.map Pg.f, IntKind.i64.min ≤ x ∧ x ≤ IntKind.i64.max := fun x hx => by
   obtain ⟨q_, hq_, rfl⟩ := List.mem_map.1 hx
   have := hok.inL hq_; have := hok.le; have := hok.n256
   have h1 : IntKind.i64.min = -9223372036854775808 := rfl; have h2 : IntKind.i64.max = 9223372036854775807 := rfl
   omega
  have hFl : (d1.s.L.map Pg.f).length ≤ 9223372036854775807 := by have := hok.le256; rw [List.length_map]; omega
  clear hok G
  have cA1 := fun {z : World} {l_ : List Th} (H' : SepC w z (gdT dd gq mp q hp hb t 40 4 8 8 gl16 (d1) :: l_)) => H'.kPages
  have cA2 := fun {z : World} {l_ : List Th} (H' : SepC w z (rgdT d2 g2 m2 q2 rp rb t2 40 4 8 8 gl16 (d1) :: l_)) => H'.rkPages
  generalize d1.s.L.map Pg.f = F7 at *
  go_upto_region 11 with fail
  go_cut [142] from 63 to 142 (fun cv wx => cv = .bool false ∧ SepC w wx (gdT dd gq mp q hp hb t 40 4 8 8 gl16 (d1) :: blkT wb 46 (wdC hp gq q t dd) :: rgdT d2 g2 m2 q2 rp rb t2 40 4 8 8 gl16 (d1) :: blkT pb 54 (wdC rp g2 q2 t2 d2) :: []))
  case first =>
   have HH := H4.new (Chg.refl [] w3).drew
   clear H4
   have np1 : (pv != pv) = false := by simp
   have np2 : (pq != pq) = false := by simp
   skip
   refine wp_region_noPanic ?_
   refine wp_region_held_drew (S := (fun w' => Blk w' wb 46 (wdC hp gq q t dd) ∧ Blk w' pb 54 (wdC rp g2 q2 t2 d2))) (by kernel_rfl) ?_ (fun hHeld => ?_)
   ·exact ⟨(HH.pick 1 rfl).blk, (HH.pick 3 rfl).blk⟩
   (refine tk 0 63 ?_ ?_ ?_; rotate_left; · (intro w hSw; go_simp; (try with_reducible rfl)))
   (try simp only [Act.put, qI, qO, qU])
   (refine tk 1 64 ?_ ?_ ?_; rotate_left; · (intro w hSw; go_simp; (try with_reducible rfl)))
   (try simp only [Act.put, qI, qO, qU])
   (refine tk 2 65 ?_ ?_ ?_; rotate_left; · (intro w hSw; go_simp; (try with_reducible rfl)))
   (try simp only [Act.put, qI, qO, qU])
   (refine tk 3 66 ?_ ?_ ?_; rotate_left; · (intro w hSw; go_simp; (try with_reducible rfl)))
   (try simp only [Act.put, qI, qO, qU])
   (refine tk 4 67 ?_ ?_ ?_; rotate_left; · (intro w hSw; go_simp; (try with_reducible rfl)))
   (try simp only [Act.put, qI, qO, qU])
   (refine tk 5 68 ?_ ?_ ?_; rotate_left; · (intro w hSw; go_simp; (try with_reducible rfl)))
   (try simp only [Act.put, qI, qO, qU])
   (refine tk 6 69 ?_ ?_ ?_; rotate_left; · (intro w hSw; go_simp; (try with_reducible rfl)))
   (try simp only [Act.put, qI, qO, qU])
   (refine tk 7 70 ?_ ?_ ?_; rotate_left; · (intro w hSw; go_simp; (try with_reducible rfl)))
   (try simp only [Act.put, qI, qO, qU])
   (refine tk 8 71 ?_ ?_ ?_; rotate_left; · (intro w hSw; go_simp; (try with_reducible rfl)))
   (try simp only [Act.put, qI, qO, qU])
   (refine tk 9 72 ?_ ?_ ?_; rotate_left; · (intro w hSw; go_simp; (try with_reducible rfl)))
   (try simp only [Act.put, qI, qO, qU])
   (refine tk 10 73 ?_ ?_ ?_; rotate_left; · (intro w hSw; go_simp; (try with_reducible rfl)))
   (try simp only [Act.put, qI, qO, qU])
   (refine tk 11 74 ?_ ?_ ?_; rotate_left; · (intro w hSw; go_simp; (try with_reducible rfl)))
   (try simp only [Act.put, qI, qO, qU])
   (refine tk 12 75 ?_ ?_ ?_; rotate_left; · (intro w hSw; (try dsimp only at hSw); have bw_ := hSw.1; unfold wdC at bw_; have w_ := bw_.cell 4; simp only [qA, qZ, qS] at w_; go_simp; (try with_reducible rfl)))
   (try simp only [Act.put, qI, qO, qU])
   (refine tk 13 76 ?_ ?_ ?_; rotate_left; · (intro w hSw; go_simp; (try with_reducible rfl)))
   (try simp only [Act.put, qI, qO, qU])
   (refine tk 15 78 ?_ ?_ ?_; rotate_left; · (intro w hSw; go_simp; (try with_reducible rfl)))
   (try simp only [Act.put, qI, qO, qU])
   (refine tk 16 79 ?_ ?_ ?_; rotate_left; · (intro w hSw; go_simp; (try with_reducible rfl)))
   (try simp only [Act.put, qI, qO, qU])
   (refine tk 17 80 ?_ ?_ ?_; rotate_left; · (intro w hSw; go_simp; (try with_reducible rfl)))
   (try simp only [Act.put, qI, qO, qU])
   (refine tk 18 81 ?_ ?_ ?_; rotate_left; · (intro w hSw; (try dsimp only at hSw); have bw_ := hSw.2; unfold wdC at bw_; have w_ := bw_.cell 4; simp only [qA, qZ, qS] at w_; go_simp; (try with_reducible rfl)))
   (try simp only [Act.put, qI, qO, qU])
   (refine tk 19 82 ?_ ?_ ?_; rotate_left; · (intro w hSw; go_simp; (try with_reducible rfl)))
   (try simp only [Act.put, qI, qO, qU])
   refine rdy 14 fun K hK => ?_
   go_simp
   (go_at_call 10; refine (HH.kProt g).mono ?_; rintro e u1 ⟨rfl, HH1⟩; clear HH; have HH := HH1; clear HH1)
   refine hK.out _ _ (by (try dsimp only); exact ⟨(HH.pick 1 rfl).blk, (HH.pick 3 rfl).blk⟩) (fun hHeld => ?_)
   clear hK K
   (try simp only [Act.put, qI, qO, qU])
   refine rdy 20 fun K hK => ?_
   go_simp
   (go_at_call 11; refine ((HH.pick 2 rfl).rkProt g).mono ?_; rintro e u2 ⟨rfl, HH1⟩; clear HH; have HH := ((HH1.pick 1 rfl).pick 2 rfl).swap; clear HH1)
   refine hK.out _ _ (by (try dsimp only); exact ⟨(HH.pick 1 rfl).blk, (HH.pick 3 rfl).blk⟩) (fun hHeld => ?_)
   clear hK K
   (try simp only [Act.put, qI, qO, qU])
   (refine tk 21 84 ?_ ?_ ?_; rotate_left; · (intro w hSw; go_simp; (try with_reducible rfl)))
   (try simp only [Act.put, qI, qO, qU])
   (refine tk 22 85 ?_ ?_ ?_; rotate_left; · (intro w hSw; go_simp; (try with_reducible rfl)))
   (try simp only [Act.put, qI, qO, qU])
   (refine tk 23 86 ?_ ?_ ?_; rotate_left; · (intro w hSw; go_simp; (try with_reducible rfl)))
   (try simp only [Act.put, qI, qO, qU])
   (refine tk 24 87 ?_ ?_ ?_; rotate_left; · (intro w hSw; go_simp; (try with_reducible rfl)))
   (try simp only [Act.put, qI, qO, qU])
   (refine tk 25 88 ?_ ?_ ?_; rotate_left; · (intro w hSw; go_simp; (try with_reducible rfl)))
   (try simp only [Act.put, qI, qO, qU])
   (refine tk 26 89 ?_ ?_ ?_; rotate_left; · (intro w hSw; go_simp; (try with_reducible rfl)))
   (try simp only [Act.put, qI, qO, qU])
   (refine tk 27 90 ?_ ?_ ?_; rotate_left; · (intro w hSw; (try dsimp only at hSw); have bw_ := hSw.1; unfold wdC at bw_; have w_ := bw_.cell 4; simp only [qA, qZ, qS] at w_; go_simp; (try with_reducible rfl)))
   (try simp only [Act.put, qI, qO, qU])
   (refine tk 28 91 ?_ ?_ ?_; rotate_left; · (intro w hSw; go_simp; (try with_reducible rfl)))
   (try simp only [Act.put, qI, qO, qU])
   (refine tk 30 93 ?_ ?_ ?_; rotate_left; · (intro w hSw; go_simp; (try with_reducible rfl)))
   (try simp only [Act.put, qI, qO, qU])
   (refine tk 31 94 ?_ ?_ ?_; rotate_left; · (intro w hSw; go_simp; (try with_reducible rfl)))
   (try simp only [Act.put, qI, qO, qU])
   (refine tk 32 95 ?_ ?_ ?_; rotate_left; · (intro w hSw; go_simp; (try with_reducible rfl)))
   (try simp only [Act.put, qI, qO, qU])
   (refine tk 33 96 ?_ ?_ ?_; rotate_left; · (intro w hSw; (try dsimp only at hSw); have bw_ := hSw.2; unfold wdC at bw_; have w_ := bw_.cell 4; simp only [qA, qZ, qS] at w_; go_simp; (try with_reducible rfl)))
   (try simp only [Act.put, qI, qO, qU])
   (refine tk 34 97 ?_ ?_ ?_; rotate_left; · (intro w hSw; go_simp; (try with_reducible rfl)))
   (try simp only [Act.put, qI, qO, qU])
   refine rdy 29 fun K hK => ?_
   go_simp
   (go_at_call 12; refine (HH.kLoose g).mono ?_; rintro e u2b ⟨rfl, hz_⟩; subst hz_)
   refine hK.out _ _ (by (try dsimp only); exact ⟨(HH.pick 1 rfl).blk, (HH.pick 3 rfl).blk⟩) (fun hHeld => ?_)
   clear hK K
   (try simp only [Act.put, qI, qO, qU])
   refine rdy 35 fun K hK => ?_
   go_simp
   (go_at_call 13; refine ((HH.pick 2 rfl).rkLoose g).mono ?_; rintro e u2c ⟨rfl, hz_⟩; subst hz_)
   refine hK.out _ _ (by (try dsimp only); exact ⟨(HH.pick 1 rfl).blk, (HH.pick 3 rfl).blk⟩) (fun hHeld => ?_)
   clear hK K
   (try simp only [Act.put, qI, qO, qU])
   (refine tk 36 99 ?_ ?_ ?_; rotate_left; · (intro w hSw; go_simp; (try with_reducible rfl)))
   (try simp only [Act.put, qI, qO, qU])
   (refine tk 37 100 ?_ ?_ ?_; rotate_left; · (intro w hSw; go_simp; (try with_reducible rfl)))
   (try simp only [Act.put, qI, qO, qU])
   (refine tk 38 101 ?_ ?_ ?_; rotate_left; · (intro w hSw; go_simp; (try with_reducible rfl)))
   (try simp only [Act.put, qI, qO, qU])
   (refine tk 39 102 ?_ ?_ ?_; rotate_left; · (intro w hSw; go_simp; (try with_reducible rfl)))
   (try simp only [Act.put, qI, qO, qU])
   (refine tk 40 103 ?_ ?_ ?_; rotate_left; · (intro w hSw; go_simp; (try with_reducible rfl)))
   (try simp only [Act.put, qI, qO, qU])
   (refine tk 41 104 ?_ ?_ ?_; rotate_left; · (intro w hSw; go_simp; (try with_reducible rfl)))
   (try simp only [Act.put, qI, qO, qU])
   (refine tk 42 105 ?_ ?_ ?_; rotate_left; · (intro w hSw; (try dsimp only at hSw); have bw_ := hSw.1; unfold wdC at bw_; have w_ := bw_.cell 4; simp only [qA, qZ, qS] at w_; go_simp; (try with_reducible rfl)))
   (try simp only [Act.put, qI, qO, qU])
   (refine tk 44 107 ?_ ?_ ?_; rotate_left; · (intro w hSw; go_simp; (try with_reducible rfl)))
   (try simp only [Act.put, qI, qO, qU])
   (refine tk 45 108 ?_ ?_ ?_; rotate_left; · (intro w hSw; go_simp; (try with_reducible rfl)))
   (try simp only [Act.put, qI, qO, qU])
   (refine tk 46 109 ?_ ?_ ?_; rotate_left; · (intro w hSw; go_simp; (try with_reducible rfl)))
   (try simp only [Act.put, qI, qO, qU])
   (refine tk 47 110 ?_ ?_ ?_; rotate_left; · (intro w hSw; (try dsimp only at hSw); have bw_ := hSw.2; unfold wdC at bw_; have w_ := bw_.cell 4; simp only [qA, qZ, qS] at w_; go_simp; (try with_reducible rfl)))
   (try simp only [Act.put, qI, qO, qU])
   refine rdy 43 fun K hK => ?_
   go_simp
   (go_at_call 15; refine (HH.kList).mono ?_; rintro e u3 ⟨A1, c1, rfl, HH1⟩; clear HH; have HH := HH1; clear HH1)
   refine hK.out _ _ (by (try dsimp only); exact ⟨(HH.pick 2 rfl).blk, (HH.pick 4 rfl).blk⟩) (fun hHeld => ?_)
   clear hK K
   (try simp only [Act.put, qI, qO, qU])
   refine rdy 48 fun K hK => ?_
   go_simp
   (go_at_call 16; refine ((HH.pick 3 rfl).rkList).mono ?_; rintro e u4 ⟨B1, e1, rfl, HH1⟩; clear HH; have HH := HH1; clear HH1)
   refine hK.out _ _ (by (try dsimp only); exact ⟨(HH.pick 4 rfl).blk, (HH.pick 5 rfl).blk⟩) (fun hHeld => ?_)
   clear hK K
   (try simp only [Act.put, qI, qO, qU])
   refine rdy 49 fun K hK => ?_
   go_simp
   (go_at_call 14; refine (SameI_is A1 d1.l.length c1 d1.l B1 d1.l.length e1 d1.l true _ ((ownI_G.2 (HH.pick 2 rfl).own).slk hRg hLn) ((ownI_G.2 HH.own).slk hRg hLn) (by simp)).mono ?_; rintro e u5 ⟨rfl, ys_⟩; have HH1 := ((HH.new ys_).tail.pick 1 rfl).tail; clear HH ys_; have HH := ((HH1.pick 1 rfl).pick 2 rfl).swap; clear HH1)
   refine hK.out _ _ (by (try dsimp only); exact ⟨(HH.pick 1 rfl).blk, (HH.pick 3 rfl).blk⟩) (fun hHeld => ?_)
   clear hK K
   (try simp only [Act.put, qI, qO, qU])
   (refine tk 50 113 ?_ ?_ ?_; rotate_left; · (intro w hSw; go_simp; (try with_reducible rfl)))
   (try simp only [Act.put, qI, qO, qU])
   (refine tk 51 114 ?_ ?_ ?_; rotate_left; · (intro w hSw; go_simp; (try with_reducible rfl)))
   (try simp only [Act.put, qI, qO, qU])
   (refine tk 52 115 ?_ ?_ ?_; rotate_left; · (intro w hSw; go_simp; (try with_reducible rfl)))
   (try simp only [Act.put, qI, qO, qU])
   (refine tk 53 116 ?_ ?_ ?_; rotate_left; · (intro w hSw; go_simp; (try with_reducible rfl)))
   (try simp only [Act.put, qI, qO, qU])
   (refine tk 54 117 ?_ ?_ ?_; rotate_left; · (intro w hSw; go_simp; (try with_reducible rfl)))
   (try simp only [Act.put, qI, qO, qU])
   (refine tk 55 118 ?_ ?_ ?_; rotate_left; · (intro w hSw; go_simp; (try with_reducible rfl)))
   (try simp only [Act.put, qI, qO, qU])
   (refine tk 56 119 ?_ ?_ ?_; rotate_left; · (intro w hSw; (try dsimp only at hSw); have bw_ := hSw.1; unfold wdC at bw_; have w_ := bw_.cell 3; simp only [qA, qZ, qS] at w_; go_simp; (try with_reducible rfl)))
   (try simp only [Act.put, qI, qO, qU])
   (refine tk 58 121 ?_ ?_ ?_; rotate_left; · (intro w hSw; go_simp; (try with_reducible rfl)))
   (try simp only [Act.put, qI, qO, qU])
   (refine tk 59 122 ?_ ?_ ?_; rotate_left; · (intro w hSw; go_simp; (try with_reducible rfl)))
   (try simp only [Act.put, qI, qO, qU])
   (refine tk 60 123 ?_ ?_ ?_; rotate_left; · (intro w hSw; go_simp; (try with_reducible rfl)))
   (try simp only [Act.put, qI, qO, qU])
   (refine tk 61 124 ?_ ?_ ?_; rotate_left; · (intro w hSw; (try dsimp only at hSw); have bw_ := hSw.2; unfold wdC at bw_; have w_ := bw_.cell 3; simp only [qA, qZ, qS] at w_; go_simp; (try with_reducible rfl)))
   (try simp only [Act.put, qI, qO, qU])
   refine rdy 57 fun K hK => ?_
   go_simp
   (go_at_call 18; refine HH.kHits.mono ?_; rintro e u20 ⟨v8, rfl, HH1⟩; clear HH; have HH := HH1; clear HH1; obtain ⟨A8, c8, rfl⟩ := HH.hitsForm)
   refine hK.out _ _ (by (try dsimp only); exact ⟨(HH.pick 2 rfl).blk, (HH.pick 4 rfl).blk⟩) (fun hHeld => ?_)
   clear hK K
   (try simp only [Act.put, qI, qO, qU])
   refine rdy 62 fun K hK => ?_
   go_simp
   (go_at_call 19; refine ((HH.pick 3 rfl).rkHits).mono ?_; rintro e u21 ⟨v9, rfl, HH1⟩; clear HH; have HH := HH1; clear HH1; obtain ⟨A9, c9, rfl⟩ := HH.hitsForm)
   refine hK.out _ _ (by (try dsimp only); exact ⟨(HH.pick 4 rfl).blk, (HH.pick 5 rfl).blk⟩) (fun hHeld => ?_)
   clear hK K
   (try simp only [Act.put, qI, qO, qU])
   refine rdy 63 fun K hK => ?_
   go_simp
   (go_at_call 17; have hSm := TSame_at A8 A9 _ _ c8 c9 d1.T d1.T _ (HH.pick 2 rfl).hitsOwn.slh HH.hitsOwn.slh; rw [eqHs_self] at hSm; refine hSm.mono ?_; rintro e u22 ⟨rfl, ys_⟩; have HH1 := ((HH.new ys_).tail.pick 1 rfl).tail; clear HH ys_ hSm; have HH := ((HH1.pick 1 rfl).pick 2 rfl).swap; clear HH1)
   refine hK.out _ _ (by (try dsimp only); exact ⟨(HH.pick 1 rfl).blk, (HH.pick 3 rfl).blk⟩) (fun hHeld => ?_)
   clear hK K
   (try simp only [Act.put, qI, qO, qU])
   (refine tk 64 127 ?_ ?_ ?_; rotate_left; · (intro w hSw; go_simp; (try with_reducible rfl)))
   (try simp only [Act.put, qI, qO, qU])
   (refine tk 65 128 ?_ ?_ ?_; rotate_left; · (intro w hSw; go_simp; (try with_reducible rfl)))
   (try simp only [Act.put, qI, qO, qU])
   (refine tk 66 129 ?_ ?_ ?_; rotate_left; · (intro w hSw; go_simp; (try with_reducible rfl)))
   (try simp only [Act.put, qI, qO, qU])
   (refine tk 67 130 ?_ ?_ ?_; rotate_left; · (intro w hSw; go_simp; (try with_reducible rfl)))
   (try simp only [Act.put, qI, qO, qU])
   (refine tk 68 131 ?_ ?_ ?_; rotate_left; · (intro w hSw; go_simp; (try with_reducible rfl)))
   (try simp only [Act.put, qI, qO, qU])
   (refine tk 69 132 ?_ ?_ ?_; rotate_left; · (intro w hSw; go_simp; (try with_reducible rfl)))
   (try simp only [Act.put, qI, qO, qU])
   (refine tk 70 133 ?_ ?_ ?_; rotate_left; · (intro w hSw; (try dsimp only at hSw); have bw_ := hSw.1; unfold wdC at bw_; have w_ := bw_.cell 2; simp only [qA, qZ, qS] at w_; go_simp; (try with_reducible rfl)))
   (try simp only [Act.put, qI, qO, qU])
   (refine tk 72 135 ?_ ?_ ?_; rotate_left; · (intro w hSw; go_simp; (try with_reducible rfl)))
   (try simp only [Act.put, qI, qO, qU])
   (refine tk 73 136 ?_ ?_ ?_; rotate_left; · (intro w hSw; go_simp; (try with_reducible rfl)))
   (try simp only [Act.put, qI, qO, qU])
   (refine tk 74 137 ?_ ?_ ?_; rotate_left; · (intro w hSw; go_simp; (try with_reducible rfl)))
   (try simp only [Act.put, qI, qO, qU])
   (refine tk 75 138 ?_ ?_ ?_; rotate_left; · (intro w hSw; (try dsimp only at hSw); have bw_ := hSw.2; unfold wdC at bw_; have w_ := bw_.cell 2; simp only [qA, qZ, qS] at w_; go_simp; (try with_reducible rfl)))
   (try simp only [Act.put, qI, qO, qU])
   refine rdy 71 fun K hK => ?_
   go_simp
   (go_at_call 20; refine (cA1 HH).mono ?_; rintro e u9 ⟨A3, c3, rfl, HH1⟩; clear HH; have HH := HH1; clear HH1)
   refine hK.out _ _ (by (try dsimp only); exact ⟨(HH.pick 2 rfl).blk, (HH.pick 4 rfl).blk⟩) (fun hHeld => ?_)
   clear hK K
   (try simp only [Act.put, qI, qO, qU])
   refine rdy 76 fun K hK => ?_
   go_simp
   (go_at_call 21; refine (cA2 (HH.pick 3 rfl)).mono ?_; rintro e u10 ⟨B3, e3, rfl, HH1⟩; clear HH; have HH := HH1; clear HH1)
   refine hK.out _ _ (by (try dsimp only); exact ⟨(HH.pick 4 rfl).blk, (HH.pick 5 rfl).blk⟩) (fun hHeld => ?_)
   clear hK K
   (try simp only [Act.put, qI, qO, qU])
   refine rdy 77 fun K hK => ?_
   go_simp
   (go_at_call 14; refine (SameI_is A3 F7.length c3 F7 B3 F7.length e3 F7 true _ ((ownI_G.2 (HH.pick 2 rfl).own).slk hFb hFl) ((ownI_G.2 HH.own).slk hFb hFl) (by simp)).mono ?_; rintro e u11 ⟨rfl, ys_⟩; have HH1 := ((HH.new ys_).tail.pick 1 rfl).tail; clear HH ys_; have HH := ((HH1.pick 1 rfl).pick 2 rfl).swap; clear HH1)
   refine hK.out _ _ (by (try dsimp only); exact ⟨(HH.pick 1 rfl).blk, (HH.pick 3 rfl).blk⟩) (fun hHeld => ?_)
   clear hK K
   (try simp only [Act.put, qI, qO, qU])
   (refine tk 78 141 ?_ ?_ ?_; rotate_left; · (intro w hSw; go_simp; (try with_reducible rfl)))
   (try simp only [Act.put, qI, qO, qU])
   (refine tk 79 142 ?_ ?_ ?_; rotate_left; · (intro w hSw; go_simp; (try with_reducible rfl)))
   (try simp only [Act.put, qI, qO, qU])
   refine wpAnyH_done (by kernel_rfl) ?_ _
   refine NoPanic.normal ?_
   clear hHeld np1 np2 hRg hLn hFb hFl cA1 cA2
   go_wp2_with fail
   go_meet
   exact ⟨rfl, HH⟩
  obtain ⟨rfl, H5⟩ := hcut
  clear H4 hRg hLn hFb hFl cA1 cA2
  go_wp2_with fail
  go_roundw
  case rel => exact ⟨k + 1, by omega, by go_num, by rw [hd1.out]; exact H5⟩
  case measure => simp [intOf]; omega
 have ek : k = m := by omega
 subst ek
 have hltz : ¬ (k : Int) < (k : Int) := by omega
 rw [List.take_of_length_le (Nat.le_of_eq hmm.out)] at H
 obtain ⟨d, hd⟩ : ∃ d, opsG (gd0 (madeG P)) L = d := ⟨_, rfl⟩
 rw [hd] at H
 clear hd hltz hlt hk hmm hm9 hl
 have hRl : (reachP d.s.L root p i).length ≤ 9223372036854775807 := by unfold reachP; rw [List.length_map]; exact Nat.le_trans (List.length_filter_le _ _) (by simp)
 have hRb : ∀ x ∈ reachP d.s.L root p i, IntKind.i64.min ≤ x ∧ x ≤ IntKind.i64.max := fun x hx => by
  obtain ⟨k_, hk_, rfl, _⟩ := reach_mem.1 hx
  have h1 : IntKind.i64.min = -9223372036854775808 := rfl; have h2 : IntKind.i64.max = 9223372036854775807 := rfl
  omega
 go_wp2_with fail
 go_loopw [21] (fun s_ wr => ∃ f : Nat, f ≤ 40 ∧ s_ = .int .i64 f ∧ SepC w wr (gdT dd gq mp q hp hb t 40 4 8 8 gl16 (d) :: blkT wb 46 (wdC hp gq q t dd) :: rgdT d2 g2 m2 q2 rp rb t2 40 4 8 8 gl16 (d) :: blkT pb 54 (wdC rp g2 q2 t2 d2) :: [])) (fun s_ _ => 40 - (intOf s_).toNat)
 case atStart => exact ⟨0, by omega, rfl, H⟩
 clear H
 obtain ⟨f, hf, rfl, H⟩ := hrel
 by_cases hf40 : f < 40
 ·have hfz : (f : Int) < 40 := by omega
  have hle8 := frameW_le 40 d.s.W (f : Int)
  have cF := fun z (H' : SepC w z (gdT dd gq mp q hp hb t 40 4 8 8 gl16 (d) :: blkT wb 46 (wdC hp gq q t dd) :: rgdT d2 g2 m2 q2 rp rb t2 40 4 8 8 gl16 (d) :: blkT pb 54 (wdC rp g2 q2 t2 d2) :: [])) => Frame_at hp hb 40 d.s.W (f : Int) z H'.kMem
  have cG := fun z (H' : SepC w z (gdT dd gq mp q hp hb t 40 4 8 8 gl16 (d) :: blkT wb 46 (wdC hp gq q t dd) :: rgdT d2 g2 m2 q2 rp rb t2 40 4 8 8 gl16 (d) :: blkT pb 54 (wdC rp g2 q2 t2 d2) :: [])) => RFrame_at rp rb 40 d.s.W (f : Int) z (H'.pick 2 rfl).rkMem
  generalize frameW 40 d.s.W (f : Int) = X at *
  go_upto_region 16 with fail
  have HH := H.new (Chg.refl [] wr).drew
  clear H
  refine wp_region_noPanic ?_
  refine wp_region_held_drew (S := (fun w' => Blk w' wb 46 (wdC hp gq q t dd) ∧ Blk w' pb 54 (wdC rp g2 q2 t2 d2))) (by kernel_rfl) ?_ (fun hHeld => ?_)
  ·exact ⟨(HH.pick 1 rfl).blk, (HH.pick 3 rfl).blk⟩
  (refine tk 0 147 ?_ ?_ ?_; rotate_left; · (intro w hSw; go_simp; (try with_reducible rfl)))
  (try simp only [Act.put, qI, qO, qU])
  (refine tk 1 148 ?_ ?_ ?_; rotate_left; · (intro w hSw; go_simp; (try with_reducible rfl)))
  (try simp only [Act.put, qI, qO, qU])
  (refine tk 2 149 ?_ ?_ ?_; rotate_left; · (intro w hSw; go_simp; (try with_reducible rfl)))
  (try simp only [Act.put, qI, qO, qU])
  (refine tk 3 150 ?_ ?_ ?_; rotate_left; · (intro w hSw; (try dsimp only at hSw); have bw_ := hSw.1; unfold wdC at bw_; have w_ := bw_.cell 0; simp only [qA, qZ] at w_; go_simp; (try with_reducible rfl)))
  (try simp only [Act.put, qI, qO, qU])
  (refine tk 4 151 ?_ ?_ ?_; rotate_left; · (intro w hSw; go_simp; (try with_reducible rfl)))
  (try simp only [Act.put, qI, qO, qU])
  (refine tk 6 153 ?_ ?_ ?_; rotate_left; · (intro w hSw; go_simp; (try with_reducible rfl)))
  (try simp only [Act.put, qI, qO, qU])
  (refine tk 7 154 ?_ ?_ ?_; rotate_left; · (intro w hSw; go_simp; (try with_reducible rfl)))
  (try simp only [Act.put, qI, qO, qU])
  (refine tk 8 155 ?_ ?_ ?_; rotate_left; · (intro w hSw; go_simp; (try with_reducible rfl)))
  (try simp only [Act.put, qI, qO, qU])
  (refine tk 9 156 ?_ ?_ ?_; rotate_left; · (intro w hSw; (try dsimp only at hSw); have bw_ := hSw.2; unfold wdC at bw_; have w_ := bw_.cell 0; simp only [qA, qZ] at w_; go_simp; (try with_reducible rfl)))
  (try simp only [Act.put, qI, qO, qU])
  (refine tk 10 157 ?_ ?_ ?_; rotate_left; · (intro w hSw; go_simp; (try with_reducible rfl)))
  (try simp only [Act.put, qI, qO, qU])
  refine rdy 5 fun K hK => ?_
  go_simp
  (go_at_call 23; refine (cF _ HH).mono ?_; rintro e u1 ⟨A5, c5, rfl, y5, hu5, _, _⟩; replace HH := HH.new y5; clear y5)
  refine hK.out _ _ (by (try dsimp only); exact ⟨(HH.pick 1 rfl).blk, (HH.pick 3 rfl).blk⟩) (fun hHeld => ?_)
  clear hK K
  (try simp only [Act.put, qI, qO, qU])
  refine rdy 11 fun K hK => ?_
  go_simp
  (go_at_call 24; refine (cG _ HH).mono ?_; rintro e u2 ⟨A6, c6, rfl, y6, hu6, _, _⟩; replace HH := HH.new y6; replace hu5 := hu5.chg y6 (by simp); clear y6)
  refine hK.out _ _ (by (try dsimp only); exact ⟨(HH.pick 1 rfl).blk, (HH.pick 3 rfl).blk⟩) (fun hHeld => ?_)
  clear hK K
  (try simp only [Act.put, qI, qO, qU])
  refine rdy 12 fun K hK => ?_
  go_simp
  (go_at_call 22; have cW := SameWords_any A5 A6 X.length X.length c5 c6 X X u2 hu5 hu6 (by omega) (by omega); rw [eqL_self] at cW; refine cW.mono ?_; rintro e u3 ⟨rfl, qd, hz_⟩; subst hz_; clear cW; replace HH := HH.new ((Chg.refl [] u2).drewN qd))
  refine hK.out _ _ (by (try dsimp only); exact ⟨(HH.pick 1 rfl).blk, (HH.pick 3 rfl).blk⟩) (fun hHeld => ?_)
  clear hK K
  (try simp only [Act.put, qI, qO, qU])
  (refine tk 13 160 ?_ ?_ ?_; rotate_left; · (intro w hSw; go_simp; (try with_reducible rfl)))
  (try simp only [Act.put, qI, qO, qU])
  refine wpAnyH_done (by kernel_rfl) ?_ _
  refine NoPanic.normal ?_
  go_wp2_with fail
  go_roundw
  case rel => exact ⟨f + 1, by omega, by go_num, HH⟩
  case measure => simp [intOf]; omega
 obtain rfl : f = 40 := by omega
 have hfz : ¬ ((40 : Nat) : Int) < 40 := by omega
 go_upto_region 18 with fail
 have HH := H.new (Chg.refl [] wr).drew
 clear H
 refine wp_region_noPanic ?_
 refine wp_region_held_drew (S := (fun w' => Blk w' wb 46 (wdC hp gq q t dd) ∧ Blk w' pb 54 (wdC rp g2 q2 t2 d2))) (by kernel_rfl) ?_ (fun hHeld => ?_)
 ·exact ⟨(HH.pick 1 rfl).blk, (HH.pick 3 rfl).blk⟩
 (refine tk 0 161 ?_ ?_ ?_; rotate_left; · (intro w hSw; go_simp; (try with_reducible rfl)))
 (try simp only [Act.put, qI, qO, qU])
 (refine tk 1 162 ?_ ?_ ?_; rotate_left; · (intro w hSw; go_simp; (try with_reducible rfl)))
 (try simp only [Act.put, qI, qO, qU])
 (refine tk 2 163 ?_ ?_ ?_; rotate_left; · (intro w hSw; go_simp; (try with_reducible rfl)))
 (try simp only [Act.put, qI, qO, qU])
 (refine tk 3 164 ?_ ?_ ?_; rotate_left; · (intro w hSw; go_simp; (try with_reducible rfl)))
 (try simp only [Act.put, qI, qO, qU])
 (refine tk 4 165 ?_ ?_ ?_; rotate_left; · (intro w hSw; go_simp; (try with_reducible rfl)))
 (try simp only [Act.put, qI, qO, qU])
 (refine tk 5 166 ?_ ?_ ?_; rotate_left; · (intro w hSw; (try dsimp only at hSw); have bw_ := hSw.1; unfold wdC at bw_; have w_ := bw_.cell 4; simp only [qA, qZ, qS] at w_; go_simp; (try with_reducible rfl)))
 (try simp only [Act.put, qI, qO, qU])
 (refine tk 6 167 ?_ ?_ ?_; rotate_left; · (intro w hSw; go_simp; (try with_reducible rfl)))
 (try simp only [Act.put, qI, qO, qU])
 (refine tk 7 168 ?_ ?_ ?_; rotate_left; · (intro w hSw; go_simp; (try with_reducible rfl)))
 (try simp only [Act.put, qI, qO, qU])
 (refine tk 8 169 ?_ ?_ ?_; rotate_left; · (intro w hSw; go_simp; (try with_reducible rfl)))
 (try simp only [Act.put, qI, qO, qU])
 (refine tk 10 171 ?_ ?_ ?_; rotate_left; · (intro w hSw; go_simp; (try with_reducible rfl)))
 (try simp only [Act.put, qI, qO, qU])
 (refine tk 11 172 ?_ ?_ ?_; rotate_left; · (intro w hSw; go_simp; (try with_reducible rfl)))
 (try simp only [Act.put, qI, qO, qU])
 (refine tk 12 173 ?_ ?_ ?_; rotate_left; · (intro w hSw; go_simp; (try with_reducible rfl)))
 (try simp only [Act.put, qI, qO, qU])
 (refine tk 13 174 ?_ ?_ ?_; rotate_left; · (intro w hSw; (try dsimp only at hSw); have bw_ := hSw.2; unfold wdC at bw_; have w_ := bw_.cell 4; simp only [qA, qZ, qS] at w_; go_simp; (try with_reducible rfl)))
 (try simp only [Act.put, qI, qO, qU])
 (refine tk 14 175 ?_ ?_ ?_; rotate_left; · (intro w hSw; go_simp; (try with_reducible rfl)))
 (try simp only [Act.put, qI, qO, qU])
 (refine tk 15 176 ?_ ?_ ?_; rotate_left; · (intro w hSw; go_simp; (try with_reducible rfl)))
 (try simp only [Act.put, qI, qO, qU])
 (refine tk 16 177 ?_ ?_ ?_; rotate_left; · (intro w hSw; go_simp; (try with_reducible rfl)))
 (try simp only [Act.put, qI, qO, qU])
 refine rdy 9 fun K hK => ?_
 go_simp
 (go_at_call 25; refine (HH.kReach root p i).mono ?_; rintro e u3 ⟨A1, c1, rfl, HH1⟩; clear HH; have HH := HH1; clear HH1)
 refine hK.out _ _ (by (try dsimp only); exact ⟨(HH.pick 2 rfl).blk, (HH.pick 4 rfl).blk⟩) (fun hHeld => ?_)
 clear hK K
 (try simp only [Act.put, qI, qO, qU])
 refine rdy 17 fun K hK => ?_
 go_simp
 (go_at_call 26; refine ((HH.pick 3 rfl).rkReach root p i).mono ?_; rintro e u4 ⟨B1, e1, rfl, HH1⟩; clear HH; have HH := HH1; clear HH1)
 refine hK.out _ _ (by (try dsimp only); exact ⟨(HH.pick 4 rfl).blk, (HH.pick 5 rfl).blk⟩) (fun hHeld => ?_)
 clear hK K
 (try simp only [Act.put, qI, qO, qU])
 refine rdy 18 fun K hK => ?_
 go_simp
 (go_at_call 14; refine (SameI_is A1 (reachP d.s.L root p i).length c1 (reachP d.s.L root p i) B1 (reachP d.s.L root p i).length e1 (reachP d.s.L root p i) true _ ((ownI_G.2 (HH.pick 2 rfl).own).slk hRb hRl) ((ownI_G.2 HH.own).slk hRb hRl) (by simp)).mono ?_; rintro e u5 ⟨rfl, ys_⟩; have HH1 := ((HH.new ys_).tail.pick 1 rfl).tail; clear HH ys_; have HH := ((HH1.pick 1 rfl).pick 2 rfl).swap; clear HH1)
 refine hK.out _ _ (by (try dsimp only); exact ⟨(HH.pick 1 rfl).blk, (HH.pick 3 rfl).blk⟩) (fun hHeld => ?_)
 clear hK K
 (try simp only [Act.put, qI, qO, qU])
 (refine tk 19 180 ?_ ?_ ?_; rotate_left; · (intro w hSw; go_simp; (try with_reducible rfl)))
 (try simp only [Act.put, qI, qO, qU])
 (refine tk 20 12 ?_ ?_ ?_; rotate_left; · (intro w hSw; go_simp; (try with_reducible rfl)))
 (try simp only [Act.put, qI, qO, qU])
 refine wpAnyH_done (by kernel_rfl) ?_ _
 refine NoPanic.normal ?_
 go_wp2_with fail
 go_ret
 exact ⟨rfl, HH.1⟩
end Go.Proofs.YtgjfidjhbkaobaaGreat
