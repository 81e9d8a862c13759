/-
  StorePlays: the law, walked from contracts.
-/
import Derived.Test.YtpmfooeifhhfkaaStoreRM
import Derived.Test.YtpmfooeifhhfkaaStoreU
import Derived.Deep.CutRange
namespace Go.Proofs.Ytpmfooeifhhfkaa
open Go.RowKit Go.Maps

set_option maxRecDepth 100000 in
set_option maxHeartbeats 20000000 in
/-- calls of a store answer as the document says; so do all pages, their keys and slots, who tells them, and all of the host's words -/
theorem lawStorePlays_any (fa mb : Int) (A : Option Addr) (n c : Nat) (L : List Ost) (k0 : Ky) (p i : Int) (w : World) (hfa : (-9223372036854775808 ≤ fa ∧ fa ≤ 9223372036854775807)) (hmb : (-9223372036854775808 ≤ mb ∧ mb ≤ 9223372036854775807)) (hl : OpsIn w A n L) (hp : (-9223372036854775808 ≤ p ∧ p ≤ 9223372036854775807)) :
    Calls Try.prog 3 #[.int .i64 fa, .int .i64 mb, .slice A n c, .agg k0.cs, .int .i64 p, .int .i64 i] w fun e w' => e = .returned (.bool true) ∧ Chg [] w w' := by
  obtain ⟨kg, kl, kr⟩ := k0
  simp only [Ky.cs]
  have hNew := fun w' => New_at 24 w' (by omega) (by omega)
  have hRNew := fun w' => RNew_at 24 w' (by omega) (by omega)
  have hHd := fun w' => SThead_any w'
  have hn9 := hl.sl.le
  have hnn := hl.sl.len
  replace hnn := Lib.hid hnn
  have H0 := (SepC.nil w).alloc #[.int .i64 kg, .int .i64 kl, .int .i64 kr] 24
  obtain ⟨kb, hkb⟩ : ∃ kb, w.heap.size = kb := ⟨_, rfl⟩
  rw [hkb] at H0
  by_cases h200 : (200 : Int) < n
  · have hgt : decide ((n : Int) > 200) = true := by simpa using h200
    go_enter Try.func3, Try.ntmps3
    go_wp2_with fail
    (try rw [hkb])
    generalize w.alloc (.cells #[.int .i64 kg, .int .i64 kl, .int .i64 kr] 24) = z0 at *
    refine (hHd _).mono ?_; rintro e z1 ⟨rfl, y1⟩
    have H1 := H0.new y1
    clear H0 y1 hHd
    replace hkb := Lib.hid hkb
    go_wp2_with fail
    refine (hNew _).mono ?_; rintro e z2 ⟨hp_, hb, rfl, y2, hm, hg1, hg2⟩
    have H2 := H1.lay (P := hoT hp_ hb 24 (zeros 192)) (S := [hb, hp_]) y2 ⟨rfl, hm⟩ (by intro i_ hi_; simp only [List.mem_cons, List.not_mem_nil, or_false] at hi_; rcases hi_ with rfl | rfl <;> assumption)
    clear hm hg1 hg2 H1 hNew
    go_wp2_with fail
    refine (hRNew _).mono ?_; rintro e z3 ⟨rp, rb, rfl, y3, hm, hg1, hg2⟩
    have H3 := H2.lay (P := rhoT rp rb 24 (zeros 192)) (S := [rb, rp]) y3 ⟨rfl, hm⟩ (by intro i_ hi_; simp only [List.mem_cons, List.not_mem_nil, or_false] at hi_; rcases hi_ with rfl | rfl <;> assumption)
    clear hm hg1 hg2 H2 hRNew y2 y3
    go_wp2_with fail
    go_ret
    exact ⟨rfl, H3.1⟩
  have hgt : decide ((n : Int) > 200) = false := by simpa using h200
  by_cases hv : 0 ≤ fa ∧ 0 ≤ mb ∧ fa + mb ≤ 24
  · obtain ⟨a, rfl⟩ := Int.eq_ofNat_of_zero_le hv.1
    obtain ⟨m, rfl⟩ := Int.eq_ofNat_of_zero_le hv.2.1
    have ham : a + m ≤ 24 := by omega
    clear hv hfa hmb
    go_enter Try.func3, Try.ntmps3
    go_wp2_with fail
    (try rw [hkb])
    generalize w.alloc (.cells #[.int .i64 kg, .int .i64 kl, .int .i64 kr] 24) = z0 at *
    refine (hHd _).mono ?_; rintro e z1 ⟨rfl, y1⟩
    have H1 := H0.new y1
    clear H0 y1 hHd
    replace hkb := Lib.hid hkb
    go_wp2_with fail
    refine (hNew _).mono ?_; rintro e z2 ⟨hp_, hb, rfl, y2, hm, hg1, hg2⟩
    have H2 := H1.lay (P := hoT hp_ hb 24 (zeros 192)) (S := [hb, hp_]) y2 ⟨rfl, hm⟩ (by intro i_ hi_; simp only [List.mem_cons, List.not_mem_nil, or_false] at hi_; rcases hi_ with rfl | rfl <;> assumption)
    clear hm hg1 hg2 H1 hNew
    go_wp2_with fail
    refine (hRNew _).mono ?_; rintro e z3 ⟨rp, rb, rfl, y3, hm, hg1, hg2⟩
    have H3 := H2.lay (P := rhoT rp rb 24 (zeros 192)) (S := [rb, rp]) y3 ⟨rfl, hm⟩ (by intro i_ hi_; simp only [List.mem_cons, List.not_mem_nil, or_false] at hi_; rcases hi_ with rfl | rfl <;> assumption)
    clear hm hg1 hg2 H2 hRNew y2 y3
    go_wp2_with fail
    refine (H3.swap.sNew (a := a) (m := m) ham).mono ?_; rintro e z4 ⟨q, rfl, H4⟩
    go_wp2_with fail
    refine (H4.swap.rNew (a := a) (m := m) ham).mono ?_; rintro e z5 ⟨q2, rfl, H5⟩
    replace H5 : SepC w z5 (stT q hp_ hb 24 a m (runP 24 (⟨[], dnk a m, zeros 192⟩ : Sr) (L.take 0)) :: rstT q2 rp rb 24 a m (runP 24 (⟨[], dnk a m, zeros 192⟩ : Sr) (L.take 0)) :: blkT kb 24 #[.int .i64 kg, .int .i64 kl, .int .i64 kr] :: []) := H5.swap
    clear H3 H4
    go_wp2_with fail
    go_loopw [18] (fun s18 wr => ∃ k : Nat, k ≤ n ∧ s18 = .int .i64 k ∧ SepC w wr (stT q hp_ hb 24 a m (runP 24 (⟨[], dnk a m, zeros 192⟩ : Sr) (L.take k)) :: rstT q2 rp rb 24 a m (runP 24 (⟨[], dnk a m, zeros 192⟩ : Sr) (L.take k)) :: blkT kb 24 #[.int .i64 kg, .int .i64 kl, .int .i64 kr] :: [])) (fun s18 _ => n - (intOf s18).toNat)
    case atStart => exact ⟨0, Nat.zero_le _, rfl, H5⟩
    case round =>
      obtain ⟨k, hk, rfl, H⟩ := hrel
      clear H5
      by_cases hlt : k < n
      · have hltz : (k : Int) < (n : Int) := by omega
        obtain ⟨b, off, o, rfl, ho, c0, c1, c2, c3, c4, c5, c6, c7, c8, c9, c10⟩ := opE_cells (hl.new H.1).sl hlt
        have hst : playS 24 (runP 24 (⟨[], dnk a m, zeros 192⟩ : Sr) (L.take k)) o = runP 24 (⟨[], dnk a m, zeros 192⟩ : Sr) (L.take (k + 1)) := (runP_take ho).symm
        have hwf := hl.at_ ho
        have hP := fun {z : World} {l_ : List Th} (H : SepC w z (stT q hp_ hb 24 a m (runP 24 (⟨[], dnk a m, zeros 192⟩ : Sr) (L.take k)) :: l_)) => H.sPlay o hwf
        have hQ := fun {z : World} {l_ : List Th} (H : SepC w z (rstT q2 rp rb 24 a m (runP 24 (⟨[], dnk a m, zeros 192⟩ : Sr) (L.take k)) :: l_)) => H.rPlay o
        simp only [hst, Ost.cs] at hP hQ
        clear hst hwf
        generalize runP 24 (⟨[], dnk a m, zeros 192⟩ : Sr) (L.take k) = s0 at *
        generalize hs1 : runP 24 (⟨[], dnk a m, zeros 192⟩ : Sr) (L.take (k + 1)) = s1 at *
        replace hs1 := Lib.hid hs1
        generalize playV s0 o = pv at *
        generalize playB 24 s0 o = pb at *
        skip
        go_wp2_with fail
        refine (hP H).mono ?_; rintro e w2 ⟨rfl, H2⟩
        clear hP H c0 c1 c2 c3 c4 c5 c6 c7 c8 c9 c10
        obtain ⟨b', off', o', eA, ho', c0, c1, c2, c3, c4, c5, c6, c7, c8, c9, c10⟩ := opE_cells (hl.new H2.1).sl hlt
        cases eA
        rw [ho] at ho'; cases ho'
        go_wp2_with fail
        refine (hQ H2.swap).mono ?_; rintro e w3 ⟨rfl, H3⟩
        clear hQ H2 ho c0 c1 c2 c3 c4 c5 c6 c7 c8 c9 c10
        replace H3 := H3.swap
        have ok := H3.sok
        have cF1 := fun {z : World} {l_ : List Th} (H : SepC w z (stT q hp_ hb 24 a m s1 :: l_)) => H.sFind ⟨kg, kl, kr⟩
        have cF2 := fun {z : World} {l_ : List Th} (H : SepC w z (rstT q2 rp rb 24 a m s1 :: l_)) => H.rFind ⟨kg, kl, kr⟩
        have cK1 := fun {z : World} {l_ : List Th} (H : SepC w z (stT q hp_ hb 24 a m s1 :: l_)) => H.sKey p hp
        have cK2 := fun {z : World} {l_ : List Th} (H : SepC w z (rstT q2 rp rb 24 a m s1 :: l_)) => H.rKey p
        have cS1 := fun {z : World} {l_ : List Th} (H : SepC w z (stT q hp_ hb 24 a m s1 :: l_)) => H.sSlot p i hp
        have cS2 := fun {z : World} {l_ : List Th} (H : SepC w z (rstT q2 rp rb 24 a m s1 :: l_)) => H.rSlot p i
        have cL1 := fun {z : World} {l_ : List Th} (H : SepC w z (stT q hp_ hb 24 a m s1 :: l_)) => H.sLeft
        have cL2 := fun {z : World} {l_ : List Th} (H : SepC w z (rstT q2 rp rb 24 a m s1 :: l_)) => H.rLeft
        have cA1 := fun {z : World} {l_ : List Th} (H : SepC w z (stT q hp_ hb 24 a m s1 :: l_)) => H.sAll
        have cA2 := fun {z : World} {l_ : List Th} (H : SepC w z (rstT q2 rp rb 24 a m s1 :: l_)) => H.rAll
        have cO1 := fun {z : World} {l_ : List Th} (H : SepC w z (stT q hp_ hb 24 a m s1 :: l_)) => H.sOf kg
        have cO2 := fun {z : World} {l_ : List Th} (H : SepC w z (rstT q2 rp rb 24 a m s1 :: l_)) => H.rOf kg
        have cP1 := fun {z : World} {l_ : List Th} (H : SepC w z (stT q hp_ hb 24 a m s1 :: l_)) => H.sParents p
        have cP2 := fun {z : World} {l_ : List Th} (H : SepC w z (rstT q2 rp rb 24 a m s1 :: l_)) => H.rParents p
        have cV1 := fun {z : World} {l_ : List Th} (H : SepC w z (stT q hp_ hb 24 a m s1 :: l_)) => H.sLeaves kg
        have cV2 := fun {z : World} {l_ : List Th} (H : SepC w z (rstT q2 rp rb 24 a m s1 :: l_)) => H.rLeaves kg
        have hFb : ∀ x ∈ s1.L.map Pg.f, IntKind.i64.min ≤ x ∧ x ≤ IntKind.i64.max := fun x hx => by
          obtain ⟨q_, hq_, rfl⟩ := List.mem_map.1 hx
          have := ok.inL hq_; have := ok.le; have := ok.n256
          simp only [IntKind.min, IntKind.max, IntKind.signed, IntKind.bits]; simp; omega
        have hOb : ∀ x ∈ ofP s1.L kg, IntKind.i64.min ≤ x ∧ x ≤ IntKind.i64.max := fun x hx => by
          unfold ofP at hx
          obtain ⟨q_, hq_, rfl⟩ := List.mem_map.1 hx
          exact hFb _ (List.mem_map.2 ⟨q_, (List.mem_filter.1 hq_).1, rfl⟩)
        have hN6 := ok.le256
        have hFl : (s1.L.map Pg.f).length ≤ 9223372036854775807 := by rw [List.length_map]; omega
        have hOl : (ofP s1.L kg).length ≤ 9223372036854775807 := by have := ofP_len s1.L kg; omega
        clear ok hN6
        generalize findV s1.L ⟨kg, kl, kr⟩ = fv at *
        generalize (pgOf s1.L ⟨kg, kl, kr⟩).isSome = fb at *
        generalize hky : keyV s1.L p = ky at *
        replace hky := Lib.hid hky
        generalize (pgAt s1.L p).isSome = kb2 at *
        generalize hsl : slotV s1.L p i = sl at *
        replace hsl := Lib.hid hsl
        generalize (slotP s1.L p i).isSome = sb at *
        generalize s1.fr.length = fl at *
        generalize s1.L.map Pg.f = F7 at *
        generalize ofP s1.L kg = O7 at *
        generalize toldP 1 p s1.L = P7 at *
        generalize toldP 2 kg s1.L = V7 at *
        have hneK := fun w' => run_neKy ky ky w'
        have hneS := fun w' => run_neSl sl sl w'
        simp only [decide_true, Bool.not_true] at hneK hneS
        obtain ⟨yg, yl, yr⟩ := ky
        obtain ⟨xk, xt, ⟨xw, xu, xx⟩⟩ := sl
        simp only [Ky.cs, Slt.cl] at cF1 cF2 cK1 cK2 cS1 cS2 hneK hneS
        have bk := (H3.pick 2 rfl).blk
        have x0 := bk.cell 0; have x1 := bk.cell 1; have x2 := bk.cell 2
        simp only [List.getElem?_toArray, List.getElem?_cons_zero, List.getElem?_cons_succ] at x0 x1 x2
        go_wp2_with fail
        refine (cF1 H3).mono ?_; rintro e w4 ⟨rfl, y4⟩
        clear cF1 bk x0 x1 x2
        replace H3 := H3.new y4
        clear y4
        have bk := (H3.pick 2 rfl).blk
        have x0 := bk.cell 0; have x1 := bk.cell 1; have x2 := bk.cell 2
        simp only [List.getElem?_toArray, List.getElem?_cons_zero, List.getElem?_cons_succ] at x0 x1 x2
        go_wp2_with fail
        refine (cF2 H3.swap).mono ?_; rintro e w5 ⟨rfl, y5⟩
        clear cF2 bk x0 x1 x2
        replace H3 := H3.new y5
        clear y5
        go_wp2_with fail
        refine (cK1 H3).mono ?_; rintro e z6 ⟨rfl, y6⟩
        replace H3 := (H3.new y6).alloc #[.int .i64 yg, .int .i64 yl, .int .i64 yr] 24
        clear y6
        go_wp2_with fail
        generalize z6.alloc (.cells #[.int .i64 yg, .int .i64 yl, .int .i64 yr] 24) = z6' at *
        generalize z6.heap.size = eb at *
        have H4 := (H3.pick 2 rfl)
        refine (cK2 H4).mono ?_; rintro e z7 ⟨rfl, y7⟩
        clear H4 cK1 cK2
        replace H3 := (H3.new y7).alloc #[.int .i64 yg, .int .i64 yl, .int .i64 yr] 24
        clear y7
        go_wp2_with fail
        generalize z7.alloc (.cells #[.int .i64 yg, .int .i64 yl, .int .i64 yr] 24) = z7' at *
        generalize z7.heap.size = fb_ at *
        have H4 := (H3.pick 2 rfl)
        refine (cS1 H4).mono ?_; rintro e z8 ⟨rfl, y8⟩
        clear H4 cS1
        replace H3 := (H3.new y8).alloc #[.int .i64 xk, .int .i64 xt, .bool xw, .bool xu, .bool xx] 45
        clear y8
        go_wp2_with fail
        generalize z8.alloc (.cells #[.int .i64 xk, .int .i64 xt, .bool xw, .bool xu, .bool xx] 45) = z8' at *
        generalize z8.heap.size = xb at *
        have H4 := (H3.pick 4 rfl)
        refine (cS2 H4).mono ?_; rintro e z9 ⟨rfl, y9⟩
        clear H4 cS2
        replace H3 := (H3.new y9).alloc #[.int .i64 xk, .int .i64 xt, .bool xw, .bool xu, .bool xx] 45
        clear y9
        go_upto_region 21 with fail
        generalize z9.alloc (.cells #[.int .i64 xk, .int .i64 xt, .bool xw, .bool xu, .bool xx] 45) = z9' at *
        generalize z9.heap.size = yb at *
        have b0 := (H3.pick 0 rfl).blk; have b1 := (H3.pick 1 rfl).blk; have b2 := (H3.pick 2 rfl).blk; have b3 := (H3.pick 3 rfl).blk
        have yy0 := b0.cell 0
        have yy1 := b0.cell 1
        have yy2 := b0.cell 2
        have yy3 := b0.cell 3
        have yy4 := b0.cell 4
        have xx_0 := b1.cell 0
        have xx_1 := b1.cell 1
        have xx_2 := b1.cell 2
        have xx_3 := b1.cell 3
        have xx_4 := b1.cell 4
        have ff0 := b2.cell 0
        have ff1 := b2.cell 1
        have ff2 := b2.cell 2
        have ee0 := b3.cell 0
        have ee1 := b3.cell 1
        have ee2 := b3.cell 2
        simp only [List.getElem?_toArray, List.getElem?_cons_zero, List.getElem?_cons_succ] at yy0 yy1 yy2 yy3 yy4 xx_0 xx_1 xx_2 xx_3 xx_4 ff0 ff1 ff2 ee0 ee1 ee2
        go_wp2_with fail
        clear b0 b1 b2 b3 yy0 yy1 yy2 yy3 yy4 xx_0 xx_1 xx_2 xx_3 xx_4 ff0 ff1 ff2 ee0 ee1 ee2
        refine (cL1 (H3.pick 4 rfl)).mono ?_; rintro e za ⟨rfl, ya⟩
        replace H3 := H3.new ya
        clear cL1 ya
        go_wp2_with fail
        refine (cL2 (H3.pick 5 rfl)).mono ?_; rintro e zb ⟨rfl, yb_⟩
        replace H3 := H3.new yb_
        clear cL2 yb_ hneK hneS
        replace H3 := H3.tail.tail.tail.tail
        go_upto_region 23 with fail
        have HH := H3.new (Chg.refl [] zb).drew
        clear H3
        refine wp_region_noPanic ?_
        refine wp_region_held_drew (S := (fun w' => w'.cell? ⟨kb, 0, none⟩ = some (.int .i64 kg))) (by kernel_rfl) ?_ (fun hHeld => ?_)
        · have bk_ := (HH.pick 2 rfl).blk; have ck_ := bk_.cell 0; simp only [List.getElem?_toArray, List.getElem?_cons_zero] at ck_; exact ck_
        (refine take_on 0 (some 180) (v := ?_) rfl rfl (by kernel_rfl) (by kernel_rfl) (by kernel_rfl) (fun _ _ _ h => h) (by rfl) (by assumption) ?_ ?_; rotate_left; · (intro w hSw; go_simp; (try with_reducible rfl)))
        (try simp only [Act.put, List.setIfInBounds_toArray, List.set_cons_zero, List.set_cons_succ])
        (refine take_on 2 (some 182) (v := ?_) rfl rfl (by kernel_rfl) (by kernel_rfl) (by kernel_rfl) (fun _ _ _ h => h) (by rfl) (by assumption) ?_ ?_; rotate_left; · (intro w hSw; go_simp; (try with_reducible rfl)))
        (try simp only [Act.put, List.setIfInBounds_toArray, List.set_cons_zero, List.set_cons_succ])
        refine wpAnyH_ready (rs := [1]) (by kernel_rfl) (by simp) ?_; refine AllReadyH.cons (o := _) rfl (fun K hK => ?_) AllReadyH.nil
        go_simp
        (go_at_call 26; refine (cA1 HH).mono ?_; rintro e u3 ⟨A1, c1, rfl, HH⟩)
        refine hK.out _ _ (by (try dsimp only); have bk_ := (HH.pick 3 rfl).blk; have ck_ := bk_.cell 0; simp only [List.getElem?_toArray, List.getElem?_cons_zero] at ck_; exact ck_) (fun hHeld => ?_)
        clear hK K
        (try simp only [Act.put, List.setIfInBounds_toArray, List.set_cons_zero, List.set_cons_succ])
        refine wpAnyH_ready (rs := [3]) (by kernel_rfl) (by simp) ?_; refine AllReadyH.cons (o := _) rfl (fun K hK => ?_) AllReadyH.nil
        go_simp
        (go_at_call 27; have HH2 := HH.pick 2 rfl; clear HH; refine (cA2 HH2).mono ?_; rintro e u4 ⟨B1, d1, rfl, HH⟩; clear HH2)
        refine hK.out _ _ (by (try dsimp only); have bk_ := (HH.pick 4 rfl).blk; have ck_ := bk_.cell 0; simp only [List.getElem?_toArray, List.getElem?_cons_zero] at ck_; exact ck_) (fun hHeld => ?_)
        clear hK K
        (try simp only [Act.put, List.setIfInBounds_toArray, List.set_cons_zero, List.set_cons_succ])
        refine wpAnyH_ready (rs := [4]) (by kernel_rfl) (by simp) ?_; refine AllReadyH.cons (o := _) rfl (fun K hK => ?_) AllReadyH.nil
        go_simp
        (go_at_call 25; refine (SameI_is A1 F7.length c1 F7 B1 F7.length d1 F7 true _ ((ownI_G.2 (HH.pick 2 rfl).own).slk hFb hFl) ((ownI_G.2 HH.own).slk hFb hFl) (by simp)).mono ?_; rintro e u5 ⟨rfl, ys⟩; replace HH : SepC w u5 (stT q hp_ hb 24 a m (s1) :: rstT q2 rp rb 24 a m (s1) :: blkT kb 24 #[.int .i64 kg, .int .i64 kl, .int .i64 kr] :: []) := (((HH.new ys).tail.pick 1 rfl).tail).swap; clear ys)
        refine hK.out _ _ (by (try dsimp only); have bk_ := (HH.pick 2 rfl).blk; have ck_ := bk_.cell 0; simp only [List.getElem?_toArray, List.getElem?_cons_zero] at ck_; exact ck_) (fun hHeld => ?_)
        clear hK K
        (try simp only [Act.put, List.setIfInBounds_toArray, List.set_cons_zero, List.set_cons_succ])
        (refine take_on 5 (some 185) (v := ?_) rfl rfl (by kernel_rfl) (by kernel_rfl) (by kernel_rfl) (fun _ _ _ h => h) (by rfl) (by assumption) ?_ ?_; rotate_left; · (intro w hSw; go_simp; (try with_reducible rfl)))
        (try simp only [Act.put, List.setIfInBounds_toArray, List.set_cons_zero, List.set_cons_succ])
        (refine take_on 6 (some 186) (v := ?_) rfl rfl (by kernel_rfl) (by kernel_rfl) (by kernel_rfl) (fun _ _ _ h => h) (by rfl) (by assumption) ?_ ?_; rotate_left; · (intro w hSw; go_simp; (try with_reducible rfl)))
        (try simp only [Act.put, List.setIfInBounds_toArray, List.set_cons_zero, List.set_cons_succ])
        (refine take_on 7 (some 187) (v := ?_) rfl rfl (by kernel_rfl) (by kernel_rfl) (by kernel_rfl) (fun _ _ _ h => h) (by rfl) (by assumption) ?_ ?_; rotate_left; · (intro w hSw; go_simp; (try with_reducible rfl)))
        (try simp only [Act.put, List.setIfInBounds_toArray, List.set_cons_zero, List.set_cons_succ])
        (refine take_on 8 (some 188) (v := ?_) rfl rfl (by kernel_rfl) (by kernel_rfl) (by kernel_rfl) (fun _ _ _ h => h) (by rfl) (by assumption) ?_ ?_; rotate_left; · (intro w hSw; go_simp; (try with_reducible rfl)))
        (try simp only [Act.put, List.setIfInBounds_toArray, List.set_cons_zero, List.set_cons_succ])
        (refine take_on 9 (some 189) (v := ?_) rfl rfl (by kernel_rfl) (by kernel_rfl) (by kernel_rfl) (fun _ _ _ h => h) (by rfl) (by assumption) ?_ ?_; rotate_left; · (intro w hSw; (try dsimp only at hSw); go_simp; (try with_reducible rfl)))
        (try simp only [Act.put, List.setIfInBounds_toArray, List.set_cons_zero, List.set_cons_succ])
        (refine take_on 11 (some 191) (v := ?_) rfl rfl (by kernel_rfl) (by kernel_rfl) (by kernel_rfl) (fun _ _ _ h => h) (by rfl) (by assumption) ?_ ?_; rotate_left; · (intro w hSw; go_simp; (try with_reducible rfl)))
        (try simp only [Act.put, List.setIfInBounds_toArray, List.set_cons_zero, List.set_cons_succ])
        (refine take_on 12 (some 192) (v := ?_) rfl rfl (by kernel_rfl) (by kernel_rfl) (by kernel_rfl) (fun _ _ _ h => h) (by rfl) (by assumption) ?_ ?_; rotate_left; · (intro w hSw; go_simp; (try with_reducible rfl)))
        (try simp only [Act.put, List.setIfInBounds_toArray, List.set_cons_zero, List.set_cons_succ])
        (refine take_on 13 (some 193) (v := ?_) rfl rfl (by kernel_rfl) (by kernel_rfl) (by kernel_rfl) (fun _ _ _ h => h) (by rfl) (by assumption) ?_ ?_; rotate_left; · (intro w hSw; (try dsimp only at hSw); go_simp; (try with_reducible rfl)))
        (try simp only [Act.put, List.setIfInBounds_toArray, List.set_cons_zero, List.set_cons_succ])
        refine wpAnyH_ready (rs := [10]) (by kernel_rfl) (by simp) ?_; refine AllReadyH.cons (o := _) rfl (fun K hK => ?_) AllReadyH.nil
        go_simp
        (go_at_call 28; refine (cO1 HH).mono ?_; rintro e u6 ⟨A2, c2, rfl, HH⟩)
        refine hK.out _ _ (by (try dsimp only); have bk_ := (HH.pick 3 rfl).blk; have ck_ := bk_.cell 0; simp only [List.getElem?_toArray, List.getElem?_cons_zero] at ck_; exact ck_) (fun hHeld => ?_)
        clear hK K
        (try simp only [Act.put, List.setIfInBounds_toArray, List.set_cons_zero, List.set_cons_succ])
        refine wpAnyH_ready (rs := [14]) (by kernel_rfl) (by simp) ?_; refine AllReadyH.cons (o := _) rfl (fun K hK => ?_) AllReadyH.nil
        go_simp
        (go_at_call 29; have HH2 := HH.pick 2 rfl; clear HH; refine (cO2 HH2).mono ?_; rintro e u7 ⟨B2, d2, rfl, HH⟩; clear HH2)
        refine hK.out _ _ (by (try dsimp only); have bk_ := (HH.pick 4 rfl).blk; have ck_ := bk_.cell 0; simp only [List.getElem?_toArray, List.getElem?_cons_zero] at ck_; exact ck_) (fun hHeld => ?_)
        clear hK K
        (try simp only [Act.put, List.setIfInBounds_toArray, List.set_cons_zero, List.set_cons_succ])
        refine wpAnyH_ready (rs := [15]) (by kernel_rfl) (by simp) ?_; refine AllReadyH.cons (o := _) rfl (fun K hK => ?_) AllReadyH.nil
        go_simp
        (go_at_call 25; refine (SameI_is A2 O7.length c2 O7 B2 O7.length d2 O7 true _ ((ownI_G.2 (HH.pick 2 rfl).own).slk hOb hOl) ((ownI_G.2 HH.own).slk hOb hOl) (by simp)).mono ?_; rintro e u8 ⟨rfl, ys⟩; replace HH : SepC w u8 (stT q hp_ hb 24 a m (s1) :: rstT q2 rp rb 24 a m (s1) :: blkT kb 24 #[.int .i64 kg, .int .i64 kl, .int .i64 kr] :: []) := (((HH.new ys).tail.pick 1 rfl).tail).swap; clear ys)
        refine hK.out _ _ (by (try dsimp only); have bk_ := (HH.pick 2 rfl).blk; have ck_ := bk_.cell 0; simp only [List.getElem?_toArray, List.getElem?_cons_zero] at ck_; exact ck_) (fun hHeld => ?_)
        clear hK K
        (try simp only [Act.put, List.setIfInBounds_toArray, List.set_cons_zero, List.set_cons_succ])
        (refine take_on 16 (some 196) (v := ?_) rfl rfl (by kernel_rfl) (by kernel_rfl) (by kernel_rfl) (fun _ _ _ h => h) (by rfl) (by assumption) ?_ ?_; rotate_left; · (intro w hSw; go_simp; (try with_reducible rfl)))
        (try simp only [Act.put, List.setIfInBounds_toArray, List.set_cons_zero, List.set_cons_succ])
        (refine take_on 17 (some 197) (v := ?_) rfl rfl (by kernel_rfl) (by kernel_rfl) (by kernel_rfl) (fun _ _ _ h => h) (by rfl) (by assumption) ?_ ?_; rotate_left; · (intro w hSw; go_simp; (try with_reducible rfl)))
        (try simp only [Act.put, List.setIfInBounds_toArray, List.set_cons_zero, List.set_cons_succ])
        (refine take_on 18 (some 198) (v := ?_) rfl rfl (by kernel_rfl) (by kernel_rfl) (by kernel_rfl) (fun _ _ _ h => h) (by rfl) (by assumption) ?_ ?_; rotate_left; · (intro w hSw; go_simp; (try with_reducible rfl)))
        (try simp only [Act.put, List.setIfInBounds_toArray, List.set_cons_zero, List.set_cons_succ])
        (refine take_on 19 (some 199) (v := ?_) rfl rfl (by kernel_rfl) (by kernel_rfl) (by kernel_rfl) (fun _ _ _ h => h) (by rfl) (by assumption) ?_ ?_; rotate_left; · (intro w hSw; go_simp; (try with_reducible rfl)))
        (try simp only [Act.put, List.setIfInBounds_toArray, List.set_cons_zero, List.set_cons_succ])
        (refine take_on 20 (some 200) (v := ?_) rfl rfl (by kernel_rfl) (by kernel_rfl) (by kernel_rfl) (fun _ _ _ h => h) (by rfl) (by assumption) ?_ ?_; rotate_left; · (intro w hSw; go_simp; (try with_reducible rfl)))
        (try simp only [Act.put, List.setIfInBounds_toArray, List.set_cons_zero, List.set_cons_succ])
        (refine take_on 22 (some 202) (v := ?_) rfl rfl (by kernel_rfl) (by kernel_rfl) (by kernel_rfl) (fun _ _ _ h => h) (by rfl) (by assumption) ?_ ?_; rotate_left; · (intro w hSw; go_simp; (try with_reducible rfl)))
        (try simp only [Act.put, List.setIfInBounds_toArray, List.set_cons_zero, List.set_cons_succ])
        (refine take_on 23 (some 203) (v := ?_) rfl rfl (by kernel_rfl) (by kernel_rfl) (by kernel_rfl) (fun _ _ _ h => h) (by rfl) (by assumption) ?_ ?_; rotate_left; · (intro w hSw; go_simp; (try with_reducible rfl)))
        (try simp only [Act.put, List.setIfInBounds_toArray, List.set_cons_zero, List.set_cons_succ])
        refine wpAnyH_ready (rs := [21]) (by kernel_rfl) (by simp) ?_; refine AllReadyH.cons (o := _) rfl (fun K hK => ?_) AllReadyH.nil
        go_simp
        (go_at_call 31; refine (cP1 HH).mono ?_; rintro e u9 ⟨A3, c3, rfl, HH⟩)
        refine hK.out _ _ (by (try dsimp only); have bk_ := (HH.pick 3 rfl).blk; have ck_ := bk_.cell 0; simp only [List.getElem?_toArray, List.getElem?_cons_zero] at ck_; exact ck_) (fun hHeld => ?_)
        clear hK K
        (try simp only [Act.put, List.setIfInBounds_toArray, List.set_cons_zero, List.set_cons_succ])
        refine wpAnyH_ready (rs := [24]) (by kernel_rfl) (by simp) ?_; refine AllReadyH.cons (o := _) rfl (fun K hK => ?_) AllReadyH.nil
        go_simp
        (go_at_call 32; have HH2 := HH.pick 2 rfl; clear HH; refine (cP2 HH2).mono ?_; rintro e u10 ⟨B3, d3, rfl, HH⟩; clear HH2)
        refine hK.out _ _ (by (try dsimp only); have bk_ := (HH.pick 4 rfl).blk; have ck_ := bk_.cell 0; simp only [List.getElem?_toArray, List.getElem?_cons_zero] at ck_; exact ck_) (fun hHeld => ?_)
        clear hK K
        (try simp only [Act.put, List.setIfInBounds_toArray, List.set_cons_zero, List.set_cons_succ])
        refine wpAnyH_ready (rs := [25]) (by kernel_rfl) (by simp) ?_; refine AllReadyH.cons (o := _) rfl (fun K hK => ?_) AllReadyH.nil
        go_simp
        (go_at_call 30; refine (SameA_is A3 P7.length c3 P7 B3 P7.length d3 P7 true _ (HH.pick 2 rfl).own.slg HH.own.slg (by simp)).mono ?_; rintro e u11 ⟨rfl, ys⟩; replace HH : SepC w u11 (stT q hp_ hb 24 a m (s1) :: rstT q2 rp rb 24 a m (s1) :: blkT kb 24 #[.int .i64 kg, .int .i64 kl, .int .i64 kr] :: []) := (((HH.new ys).tail.pick 1 rfl).tail).swap; clear ys)
        refine hK.out _ _ (by (try dsimp only); have bk_ := (HH.pick 2 rfl).blk; have ck_ := bk_.cell 0; simp only [List.getElem?_toArray, List.getElem?_cons_zero] at ck_; exact ck_) (fun hHeld => ?_)
        clear hK K
        (try simp only [Act.put, List.setIfInBounds_toArray, List.set_cons_zero, List.set_cons_succ])
        (refine take_on 26 (some 206) (v := ?_) rfl rfl (by kernel_rfl) (by kernel_rfl) (by kernel_rfl) (fun _ _ _ h => h) (by rfl) (by assumption) ?_ ?_; rotate_left; · (intro w hSw; go_simp; (try with_reducible rfl)))
        (try simp only [Act.put, List.setIfInBounds_toArray, List.set_cons_zero, List.set_cons_succ])
        (refine take_on 27 (some 207) (v := ?_) rfl rfl (by kernel_rfl) (by kernel_rfl) (by kernel_rfl) (fun _ _ _ h => h) (by rfl) (by assumption) ?_ ?_; rotate_left; · (intro w hSw; go_simp; (try with_reducible rfl)))
        (try simp only [Act.put, List.setIfInBounds_toArray, List.set_cons_zero, List.set_cons_succ])
        (refine take_on 28 (some 208) (v := ?_) rfl rfl (by kernel_rfl) (by kernel_rfl) (by kernel_rfl) (fun _ _ _ h => h) (by rfl) (by assumption) ?_ ?_; rotate_left; · (intro w hSw; go_simp; (try with_reducible rfl)))
        (try simp only [Act.put, List.setIfInBounds_toArray, List.set_cons_zero, List.set_cons_succ])
        (refine take_on 29 (some 209) (v := ?_) rfl rfl (by kernel_rfl) (by kernel_rfl) (by kernel_rfl) (fun _ _ _ h => h) (by rfl) (by assumption) ?_ ?_; rotate_left; · (intro w hSw; go_simp; (try with_reducible rfl)))
        (try simp only [Act.put, List.setIfInBounds_toArray, List.set_cons_zero, List.set_cons_succ])
        (refine take_on 30 (some 210) (v := ?_) rfl rfl (by kernel_rfl) (by kernel_rfl) (by kernel_rfl) (fun _ _ _ h => h) (by rfl) (by assumption) ?_ ?_; rotate_left; · (intro w hSw; go_simp; (try with_reducible rfl)))
        (try simp only [Act.put, List.setIfInBounds_toArray, List.set_cons_zero, List.set_cons_succ])
        (refine take_on 31 (some 211) (v := ?_) rfl rfl (by kernel_rfl) (by kernel_rfl) (by kernel_rfl) (fun _ _ _ h => h) (by rfl) (by assumption) ?_ ?_; rotate_left; · (intro w hSw; (try dsimp only at hSw); go_simp; (try with_reducible rfl)))
        (try simp only [Act.put, List.setIfInBounds_toArray, List.set_cons_zero, List.set_cons_succ])
        (refine take_on 33 (some 213) (v := ?_) rfl rfl (by kernel_rfl) (by kernel_rfl) (by kernel_rfl) (fun _ _ _ h => h) (by rfl) (by assumption) ?_ ?_; rotate_left; · (intro w hSw; go_simp; (try with_reducible rfl)))
        (try simp only [Act.put, List.setIfInBounds_toArray, List.set_cons_zero, List.set_cons_succ])
        (refine take_on 34 (some 214) (v := ?_) rfl rfl (by kernel_rfl) (by kernel_rfl) (by kernel_rfl) (fun _ _ _ h => h) (by rfl) (by assumption) ?_ ?_; rotate_left; · (intro w hSw; go_simp; (try with_reducible rfl)))
        (try simp only [Act.put, List.setIfInBounds_toArray, List.set_cons_zero, List.set_cons_succ])
        (refine take_on 35 (some 215) (v := ?_) rfl rfl (by kernel_rfl) (by kernel_rfl) (by kernel_rfl) (fun _ _ _ h => h) (by rfl) (by assumption) ?_ ?_; rotate_left; · (intro w hSw; (try dsimp only at hSw); go_simp; (try with_reducible rfl)))
        (try simp only [Act.put, List.setIfInBounds_toArray, List.set_cons_zero, List.set_cons_succ])
        refine wpAnyH_ready (rs := [32]) (by kernel_rfl) (by simp) ?_; refine AllReadyH.cons (o := _) rfl (fun K hK => ?_) AllReadyH.nil
        go_simp
        (go_at_call 33; refine (cV1 HH).mono ?_; rintro e u12 ⟨A4, c4, rfl, HH⟩)
        refine hK.out _ _ (by (try dsimp only); have bk_ := (HH.pick 3 rfl).blk; have ck_ := bk_.cell 0; simp only [List.getElem?_toArray, List.getElem?_cons_zero] at ck_; exact ck_) (fun hHeld => ?_)
        clear hK K
        (try simp only [Act.put, List.setIfInBounds_toArray, List.set_cons_zero, List.set_cons_succ])
        refine wpAnyH_ready (rs := [36]) (by kernel_rfl) (by simp) ?_; refine AllReadyH.cons (o := _) rfl (fun K hK => ?_) AllReadyH.nil
        go_simp
        (go_at_call 34; have HH2 := HH.pick 2 rfl; clear HH; refine (cV2 HH2).mono ?_; rintro e u13 ⟨B4, d4, rfl, HH⟩; clear HH2)
        refine hK.out _ _ (by (try dsimp only); have bk_ := (HH.pick 4 rfl).blk; have ck_ := bk_.cell 0; simp only [List.getElem?_toArray, List.getElem?_cons_zero] at ck_; exact ck_) (fun hHeld => ?_)
        clear hK K
        (try simp only [Act.put, List.setIfInBounds_toArray, List.set_cons_zero, List.set_cons_succ])
        refine wpAnyH_ready (rs := [37]) (by kernel_rfl) (by simp) ?_; refine AllReadyH.cons (o := _) rfl (fun K hK => ?_) AllReadyH.nil
        go_simp
        (go_at_call 30; refine (SameA_is A4 V7.length c4 V7 B4 V7.length d4 V7 true _ (HH.pick 2 rfl).own.slg HH.own.slg (by simp)).mono ?_; rintro e u14 ⟨rfl, ys⟩; replace HH : SepC w u14 (stT q hp_ hb 24 a m (s1) :: rstT q2 rp rb 24 a m (s1) :: blkT kb 24 #[.int .i64 kg, .int .i64 kl, .int .i64 kr] :: []) := (((HH.new ys).tail.pick 1 rfl).tail).swap; clear ys)
        refine hK.out _ _ (by (try dsimp only); have bk_ := (HH.pick 2 rfl).blk; have ck_ := bk_.cell 0; simp only [List.getElem?_toArray, List.getElem?_cons_zero] at ck_; exact ck_) (fun hHeld => ?_)
        clear hK K
        (try simp only [Act.put, List.setIfInBounds_toArray, List.set_cons_zero, List.set_cons_succ])
        (refine take_on 38 (some 218) (v := ?_) rfl rfl (by kernel_rfl) (by kernel_rfl) (by kernel_rfl) (fun _ _ _ h => h) (by rfl) (by assumption) ?_ ?_; rotate_left; · (intro w hSw; go_simp; (try with_reducible rfl)))
        (try simp only [Act.put, List.setIfInBounds_toArray, List.set_cons_zero, List.set_cons_succ])
        (refine take_on 39 (some 219) (v := ?_) rfl rfl (by kernel_rfl) (by kernel_rfl) (by kernel_rfl) (fun _ _ _ h => h) (by rfl) (by assumption) ?_ ?_; rotate_left; · (intro w hSw; go_simp; (try with_reducible rfl)))
        (try simp only [Act.put, List.setIfInBounds_toArray, List.set_cons_zero, List.set_cons_succ])
        refine wpAnyH_done (by kernel_rfl) ?_ _
        refine NoPanic.normal ?_
        skip
        clear cA1 cA2 cO1 cO2 cP1 cP2 cV1 cV2 hFb hFl hOb hOl
        go_wp2_with fail
        go_roundw
        case rel => exact ⟨k + 1, by omega, by go_num, by rw [hs1.out]; exact HH⟩
        case measure => simp [intOf]; omega
      · obtain rfl : k = n := by omega
        have hltz : ¬ (k : Int) < (k : Int) := by omega
        rw [List.take_of_length_le (Nat.le_of_eq hnn.out)] at H
        generalize runP 24 (⟨[], dnk a m, zeros 192⟩ : Sr) L = s at *
        go_wp2_with fail
        go_loopw [35] (fun s35 wr => ∃ f : Nat, f ≤ 24 ∧ s35 = .int .i64 f ∧ SepC w wr (stT q hp_ hb 24 a m (s) :: rstT q2 rp rb 24 a m (s) :: blkT kb 24 #[.int .i64 kg, .int .i64 kl, .int .i64 kr] :: [])) (fun s35 _ => 24 - (intOf s35).toNat)
        case atStart => exact ⟨0, by omega, rfl, H⟩
        case round =>
          obtain ⟨f, hf, rfl, H6⟩ := hrel
          clear H
          by_cases hf24 : f < 24
          · have hfz : (f : Int) < 24 := by omega
            have cF := Frame_at hp_ hb 24 s.W (f : Int) wr H6.smem
            have cG := fun z (H : SepC w z (stT q hp_ hb 24 a m (s) :: rstT q2 rp rb 24 a m (s) :: blkT kb 24 #[.int .i64 kg, .int .i64 kl, .int .i64 kr] :: [])) => RFrame_at rp rb 24 s.W (f : Int) z H.swap.rmem
            have hle8 := frameW_le 24 s.W (f : Int)
            generalize frameW 24 s.W (f : Int) = X at *
            go_wp2_with fail
            refine cF.mono ?_; rintro e w5 ⟨A5, c5, rfl, y5, hu5, _, _⟩
            clear cF
            replace H6 := H6.new y5
            clear y5
            go_wp2_with fail
            refine (cG _ H6).mono ?_; rintro e w6 ⟨A6, c6, rfl, y6, hu6, _, _⟩
            clear cG
            replace H6 := H6.new y6
            replace hu5 := hu5.chg y6 (by simp)
            clear y6
            have cW := SameWords_any A5 A6 X.length X.length c5 c6 X X w6 hu5 hu6 (by omega) (by omega)
            rw [eqL_self] at cW
            clear hu5 hu6 hle8
            go_wp2_with fail
            refine cW.mono ?_; rintro e w7 ⟨rfl, qd, rfl⟩
            clear cW
            replace H6 := H6.new ((Chg.refl [] w6).drewN qd)
            go_wp2_with fail
            go_roundw
            case rel => exact ⟨f + 1, by omega, by go_num, H6⟩
            case measure => simp [intOf]; omega
          · obtain rfl : f = 24 := by omega
            have hfz : ¬ ((24 : Nat) : Int) < 24 := by omega
            go_wp2_with fail
            go_ret
            exact ⟨rfl, H6.1⟩
  · have hN := fun z {l_ : List Th} {hp_ hb : Nat} (H : SepC w z (hoT hp_ hb 24 (zeros 192) :: l_)) => Snew_no hp_ hb 24 (zeros 192) fa mb z H.hmem hmb hfa (by unfold snewB; exact decide_eq_false (by omega))
    have hR := fun z {l_ : List Th} {rp rb : Nat} (H : SepC w z (rhoT rp rb 24 (zeros 192) :: l_)) => RNew14_no rp rb 24 (zeros 192) fa mb z H.rhmem hmb (by omega)
    go_enter Try.func3, Try.ntmps3
    go_wp2_with fail
    (try rw [hkb])
    generalize w.alloc (.cells #[.int .i64 kg, .int .i64 kl, .int .i64 kr] 24) = z0 at *
    refine (hHd _).mono ?_; rintro e z1 ⟨rfl, y1⟩
    have H1 := H0.new y1
    clear H0 y1 hHd
    replace hkb := Lib.hid hkb
    go_wp2_with fail
    refine (hNew _).mono ?_; rintro e z2 ⟨hp_, hb, rfl, y2, hm, hg1, hg2⟩
    have H2 := H1.lay (P := hoT hp_ hb 24 (zeros 192)) (S := [hb, hp_]) y2 ⟨rfl, hm⟩ (by intro i_ hi_; simp only [List.mem_cons, List.not_mem_nil, or_false] at hi_; rcases hi_ with rfl | rfl <;> assumption)
    clear hm hg1 hg2 H1 hNew
    go_wp2_with fail
    refine (hRNew _).mono ?_; rintro e z3 ⟨rp, rb, rfl, y3, hm, hg1, hg2⟩
    have H3 := H2.lay (P := rhoT rp rb 24 (zeros 192)) (S := [rb, rp]) y3 ⟨rfl, hm⟩ (by intro i_ hi_; simp only [List.mem_cons, List.not_mem_nil, or_false] at hi_; rcases hi_ with rfl | rfl <;> assumption)
    clear hm hg1 hg2 H2 hRNew y2 y3
    go_wp2_with fail
    refine (hN _ H3.swap).mono ?_; rintro e z4 ⟨rfl, y4⟩
    have H4 := H3.new y4
    go_wp2_with fail
    refine (hR _ H4).mono ?_; rintro e z5 ⟨rfl, y5⟩
    have H5 := H4.new y5
    go_wp2_with fail
    go_ret
    exact ⟨rfl, H5.1⟩

end Go.Proofs.Ytpmfooeifhhfkaa
