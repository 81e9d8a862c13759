/-
  GuardForbids: the law, walked from contracts.
-/
import Derived.Test.YtgjfidjhbkaobaaGuardV
import Derived.Deep.CutRange
namespace Go.Proofs.Ytgjfidjhbkaobaa
open Go.RowKit Go.Maps

theorem drop_filter {l : List Int} {k : Nat} {x : Int} (hn : l.Nodup) (hx : l[k]? = some x) : (l.drop k).filter (fun y => decide (y ≠ x)) = l.drop (k + 1) := by
  obtain ⟨hk, he⟩ := List.getElem?_eq_some_iff.1 hx
  rw [List.drop_eq_getElem_cons hk, he, List.filter_cons]
  rw [if_neg (by simp), List.filter_eq_self]
  intro y hy
  rw [decide_eq_true_eq]
  rintro rfl
  have h2 : (l.drop k).Nodup := hn.sublist (List.drop_sublist _ _)
  rw [List.drop_eq_getElem_cons hk, he, List.nodup_cons] at h2
  exact h2.1 hy
set_option maxRecDepth 100000 in
set_option maxHeartbeats 20000000 in
/-- behind a Make no leaf tells a frame of which a table's page was made with W; nor behind a Look; with W gone, the TLB knows nothing any more -/
theorem lawGuardForbids_any (A : Option Addr) (n c : Nat) (P : List Pu) (B : Option Addr) (m e0 : Nat) (L : List Gst) (k0 : Ky) (w : World) (hP : SlP w A n P) (hl : GopsIn w B m L) :
    Calls Try.prog 3 #[.slice A n c, .slice B m e0, .agg k0.cs] w fun e w' => e = .returned (.bool true) ∧ Chg [] w w' := by
  obtain ⟨kg, kl, kr⟩ := k0
  simp only [Ky.cs]
  have hHd := fun w' => GHead_any w'
  have hGr := fun z => Great16_any A n c B m e0 z
  have hmm := hl.sl.len
  have hm9 := hl.sl.le
  replace hmm := Lib.hid hmm
  have H0 := (SepC.nil w).alloc #[.int .i64 kg, .int .i64 kl, .int .i64 kr] 25
  cases hg_ : (decide (n > 600) || decide (m > 120))
  rotate_left
  · rw [hg_] at hGr
    go_enter Try.func3, Try.ntmps3
    go_wp2_with fail
    generalize (w.alloc (.cells #[.int .i64 kg, .int .i64 kl, .int .i64 kr] 25)) = z0 at *
    refine (hHd _).mono ?_; rintro e z1 ⟨rfl, y1⟩
    have H1 := H0.new y1
    clear H0 y1 hHd
    go_wp2_with fail
    refine (Made16_at (hP.self H1.1)).mono ?_; intro e z2 hMP
    unfold MadeP16 at hMP
    obtain ⟨wb, dd, gq, mp, q, hp, hb, t, rfl, HM⟩ := hMP
    have H := H1.merge HM
    clear H1 HM hP
    go_wp2_with fail
    refine (hGr _).mono ?_; rintro e z3 ⟨rfl, rfl⟩
    clear hGr
    go_wp2_with fail
    go_ret
    exact ⟨rfl, H.1⟩
  rw [hg_] at hGr
  clear hg_
  go_enter Try.func3, Try.ntmps3
  go_wp2_with fail
  generalize (w.alloc (.cells #[.int .i64 kg, .int .i64 kl, .int .i64 kr] 25)) = z0 at *
  refine (hHd _).mono ?_; rintro e z1 ⟨rfl, y1⟩
  have H1 := H0.new y1
  clear H0 y1 hHd
  go_wp2_with fail
  refine (Made16_at (hP.self H1.1)).mono ?_; intro e z2 hMP
  unfold MadeP16 at hMP
  obtain ⟨wb, dd, gq, mp, q, hp, hb, t, rfl, HM⟩ := hMP
  have H := H1.merge HM
  clear H1 HM hP
  go_wp2_with fail
  refine (hGr _).mono ?_; rintro e z3 ⟨rfl, rfl⟩
  clear hGr
  go_wp2_with fail
  replace H : SepC w _ (gdT dd gq mp q hp hb t 40 4 8 8 gl16 (opsG (gd0 (madeG P)) (L.take 0)) :: blkT wb 43 (wdC hp gq q t dd) :: blkT w.heap.size 25 #[.int .i64 kg, .int .i64 kl, .int .i64 kr] :: []) := H
  go_loopw [9] (fun s_ wr => ∃ k : Nat, k ≤ m ∧ s_ = .int .i64 k ∧ SepC w wr (gdT dd gq mp q hp hb t 40 4 8 8 gl16 (opsG (gd0 (madeG P)) (L.take k)) :: blkT wb 43 (wdC hp gq q t dd) :: blkT w.heap.size 25 #[.int .i64 kg, .int .i64 kl, .int .i64 kr] :: [])) (fun s_ _ => m - (intOf s_).toNat)
  case atStart => exact ⟨0, Nat.zero_le _, rfl, H⟩
  case round =>
    clear H
    obtain ⟨k, hk, rfl, H⟩ := hrel
    by_cases hlt : k < m
    · have hltz : (k : Int) < (m : Int) := by omega
      obtain ⟨b, off, o, rfl, ho, c0, c1, c2, c3, c4, c5, c6, c7, c8, c9, c10⟩ := gopE_cells (hl.new H.1).sl hlt
      have hD := H.wDo o (hl.at_ ho)
      rw [← opsG_take ho] at hD
      simp only [Gst.cs] at hD
      clear H
      go_wp2_with fail
      refine hD.mono ?_; rintro e w2 ⟨rfl, H2⟩
      clear hD c0 c1 c2 c3 c4 c5 c6 c7 c8 c9 c10
      go_wp2_with fail
      go_roundw
      case rel => exact ⟨k + 1, by omega, by go_num, H2⟩
      case measure => simp [intOf]; omega
    · have ek : k = m := by omega
      subst ek
      have hltz : ¬ (k : Int) < (k : Int) := by omega
      rw [List.take_of_length_le (Nat.le_of_eq hmm.out)] at H
      obtain ⟨d, hd⟩ : ∃ d, opsG (gd0 (madeG P)) L = d := ⟨_, rfl⟩
      rw [hd] at H
      have G := H.gIn
      clear hd hltz hlt hk hmm hm9 hl
      generalize w.heap.size = kb at *
      obtain ⟨D1, hD1⟩ : ∃ D1 : Gd, (⟨d.s, putT 8 d.T ⟨0, 5, 0, false, false, false, false⟩, d.l⟩ : Gd) = D1 := ⟨_, rfl⟩
      have G1 : GdIn 40 4 8 gl16 D1 := by rw [← hD1]; exact G.tlb _
      have hmf := fun hn hm hr => make_forbids (k := (⟨kg, kl, kr⟩ : Ky)) G1.ok hn hm hr
      have cP := H.kPut ⟨0, 5, 0, false, false, false, false⟩
      rw [hD1] at cP
      simp only [Ht.v] at cP
      clear hD1 G
      have cW := fun {z : World} {l_ : List Th} (H' : SepC w z (gdT dd gq mp q hp hb t 40 4 8 8 gl16 (D1) :: blkT wb 43 (wdC hp gq q t dd) :: l_)) => H'.wWritable kg
      have cF := fun {z : World} {l_ : List Th} (H' : SepC w z (gdT dd gq mp q hp hb t 40 4 8 8 gl16 (D1) :: l_)) => H'.kFind (⟨kg, kl, kr⟩ : Ky)
      simp only [Ky.cs] at cF
      have cL := fun {z : World} {l_ : List Th} (H' : SepC w z (gdT dd gq mp q hp hb t 40 4 8 8 gl16 (D1) :: l_)) => H'.kLoose kg
      have cM := fun {z : World} {l_ : List Th} (H' : SepC w z (gdT dd gq mp q hp hb t 40 4 8 8 gl16 (D1) :: l_)) => H'.kMake (⟨kg, kl, kr⟩ : Ky)
      simp only [Ky.cs] at cM
      simp only at hmf
      generalize makeG 40 gl16 D1 (⟨kg, kl, kr⟩ : Ky) = D2 at *
      generalize makeGB 40 gl16 D1 (⟨kg, kl, kr⟩ : Ky) = is_ at *
      generalize makeGV 40 gl16 D1 (⟨kg, kl, kr⟩ : Ky) = iv_ at *
      generalize hadE : writB D1.s kg = had at *
      generalize looE : looseB D1 kg = loo at *
      generalize hthE : (pgOf D1.s.L (⟨kg, kl, kr⟩ : Ky)).isSome = there at *
      generalize findV D1.s.L (⟨kg, kl, kr⟩ : Ky) = fv_ at *
      have hmf2 : there = false → is_ = true → kr = 0 → writB D2.s kg = false ∧ (had = true ∨ loo = true → D2.T = []) := fun h1 h2 h3 => hmf (by cases hp_ : pgOf D1.s.L (⟨kg, kl, kr⟩ : Ky) with | none => rfl | some _ => rw [hp_] at hthE; rw [h1] at hthE; cases hthE) h2 h3
      clear hmf hthE hadE looE G1
      have cW2 := fun {z : World} {l_ : List Th} (H' : SepC w z (gdT dd gq mp q hp hb t 40 4 8 8 gl16 (D2) :: blkT wb 43 (wdC hp gq q t dd) :: l_)) => H'.wWritable kg
      have cMa := fun {z : World} {l_ : List Th} (H' : SepC w z (gdT dd gq mp q hp hb t 40 4 8 8 gl16 (D2) :: l_)) => H'.kMany
      obtain ⟨w0_, w1_, w2_, w3_, w4_⟩ := wdC_cells (H.pick 1 rfl).blk
      go_wp2_with fail
      refine cP.mono ?_; rintro e z4 ⟨rfl, H_⟩
      clear cP H w0_ w1_ w2_ w3_ w4_
      have H := H_
      clear H_
      have k0_ := (H.pick 2 rfl).blk.cell 0
      simp only [List.getElem?_toArray, List.getElem?_cons_zero] at k0_
      go_wp2_with fail
      refine (cW H).mono ?_; rintro e z5 ⟨rfl, H_⟩
      clear cW H k0_
      have H := H_
      clear H_
      go_upto_region 11 with fail
      have HH := H.new (Chg.refl [] _).drew
      refine wp_region_noPanic ?_
      refine wp_region_held_drew (S := (fun w' => Blk w' wb 43 (wdC hp gq q t dd) ∧ Blk w' kb 25 #[.int .i64 kg, .int .i64 kl, .int .i64 kr])) (by kernel_rfl) ?_ (fun hHeld => ?_)
      · exact ⟨(HH.pick 1 rfl).blk, (HH.pick 2 rfl).blk⟩
      (refine take_on 0 (some 56) (v := ?_) rfl rfl (by kernel_rfl) (by kernel_rfl) (by kernel_rfl) (fun _ _ _ h => h) (by rfl) (by assumption) ?_ ?_; rotate_left; · (intro w hSw; go_simp; (try with_reducible rfl)))
      (try simp only [Act.put, List.setIfInBounds_toArray, List.set_cons_zero, List.set_cons_succ])
      (refine take_on 1 (some 57) (v := ?_) rfl rfl (by kernel_rfl) (by kernel_rfl) (by kernel_rfl) (fun _ _ _ h => h) (by rfl) (by assumption) ?_ ?_; rotate_left; · (intro w hSw; go_simp; (try with_reducible rfl)))
      (try simp only [Act.put, List.setIfInBounds_toArray, List.set_cons_zero, List.set_cons_succ])
      (refine take_on 2 (some 58) (v := ?_) rfl rfl (by kernel_rfl) (by kernel_rfl) (by kernel_rfl) (fun _ _ _ h => h) (by rfl) (by assumption) ?_ ?_; rotate_left; · (intro w hSw; go_simp; (try with_reducible rfl)))
      (try simp only [Act.put, List.setIfInBounds_toArray, List.set_cons_zero, List.set_cons_succ])
      (refine take_on 3 (some 59) (v := ?_) rfl rfl (by kernel_rfl) (by kernel_rfl) (by kernel_rfl) (fun _ _ _ h => h) (by rfl) (by assumption) ?_ ?_; rotate_left; · (intro w hSw; (try dsimp only at hSw); obtain ⟨_, _, w2_, _, _⟩ := wdC_cells hSw.1; go_simp; (try with_reducible rfl)))
      (try simp only [Act.put, List.setIfInBounds_toArray, List.set_cons_zero, List.set_cons_succ])
      (refine take_on 4 (some 60) (v := ?_) rfl rfl (by kernel_rfl) (by kernel_rfl) (by kernel_rfl) (fun _ _ _ h => h) (by rfl) (by assumption) ?_ ?_; rotate_left; · (intro w hSw; (try dsimp only at hSw); have d0_ := hSw.2.cell 0; have d1_ := hSw.2.cell 1; have d2_ := hSw.2.cell 2; simp only [List.getElem?_toArray, List.getElem?_cons_zero, List.getElem?_cons_succ] at d0_ d1_ d2_; go_simp; (try with_reducible rfl)))
      (try simp only [Act.put, List.setIfInBounds_toArray, List.set_cons_zero, List.set_cons_succ])
      refine wpAnyH_ready (rs := [5]) (by kernel_rfl) (by simp) ?_; refine AllReadyH.cons (o := _) rfl (fun K hK => ?_) AllReadyH.nil
      go_simp
      (go_at_call 16; refine (cF HH).mono ?_; rintro e z6 ⟨rfl, y1⟩)
      refine hK.out _ _ (by (try dsimp only); exact ⟨hHeld.1.chg_ y1 (by simp), hHeld.2.chg_ y1 (by simp)⟩) (fun hHeld => ?_)
      clear hK K
      (try simp only [Act.put, List.setIfInBounds_toArray, List.set_cons_zero, List.set_cons_succ])
      (refine take_on 6 (some 55) (v := ?_) rfl rfl (by kernel_rfl) (by kernel_rfl) (by kernel_rfl) (fun _ _ _ h => h) (by rfl) (by assumption) ?_ ?_; rotate_left; · (intro w hSw; go_simp; (try with_reducible rfl)))
      (try simp only [Act.put, List.setIfInBounds_toArray, List.set_cons_zero, List.set_cons_succ])
      (refine take_on 7 (some 62) (v := ?_) rfl rfl (by kernel_rfl) (by kernel_rfl) (by kernel_rfl) (fun _ _ _ h => h) (by rfl) (by assumption) ?_ ?_; rotate_left; · (intro w hSw; go_simp; (try with_reducible rfl)))
      (try simp only [Act.put, List.setIfInBounds_toArray, List.set_cons_zero, List.set_cons_succ])
      (refine take_on 8 (some 63) (v := ?_) rfl rfl (by kernel_rfl) (by kernel_rfl) (by kernel_rfl) (fun _ _ _ h => h) (by rfl) (by assumption) ?_ ?_; rotate_left; · (intro w hSw; go_simp; (try with_reducible rfl)))
      (try simp only [Act.put, List.setIfInBounds_toArray, List.set_cons_zero, List.set_cons_succ])
      (refine take_on 9 (some 11) (v := ?_) rfl rfl (by kernel_rfl) (by kernel_rfl) (by kernel_rfl) (fun _ _ _ h => h) (by rfl) (by assumption) ?_ ?_; rotate_left; · (intro w hSw; go_simp; (try with_reducible rfl)))
      (try simp only [Act.put, List.setIfInBounds_toArray, List.set_cons_zero, List.set_cons_succ])
      (refine take_on 10 (some 12) (v := ?_) rfl rfl (by kernel_rfl) (by kernel_rfl) (by kernel_rfl) (fun _ _ _ h => h) (by rfl) (by assumption) ?_ ?_; rotate_left; · (intro w hSw; go_simp; (try with_reducible rfl)))
      (try simp only [Act.put, List.setIfInBounds_toArray, List.set_cons_zero, List.set_cons_succ])
      refine wpAnyH_done (by kernel_rfl) ?_ _
      refine NoPanic.normal ?_
      clear H hHeld
      have H := HH.new y1
      clear HH y1 cF
      go_upto_region 12 with fail
      replace H := H.new (Chg.refl [] _).drew
      obtain ⟨w0_, w1_, w2_, w3_, w4_⟩ := wdC_cells (H.pick 1 rfl).blk
      have k0_ := (H.pick 2 rfl).blk.cell 0
      simp only [List.getElem?_toArray, List.getElem?_cons_zero] at k0_
      refine wp_region_still_tail 6 (by kernel_rfl) (by kernel_rfl) ?_
      simp only [List.take_succ_cons, List.take_zero, List.drop_succ_cons, List.drop_zero]
      change wpStill _ _ (World.drew _) _ _ _
      iterate 6 still_step
      refine wpStill_nil ?_
      change wpList _ _ _ _ _ (World.drew _)
      go_wp2_with fail
      refine (cL H).mono ?_; rintro e z7 ⟨rfl, hz_⟩
      subst hz_
      clear cL k0_ w0_ w1_ w2_ w3_ w4_
      go_upto_region 13 with fail
      have HH := H.new (Chg.refl [] _).drew
      refine wp_region_noPanic ?_
      refine wp_region_held_drew (S := (fun w' => Blk w' wb 43 (wdC hp gq q t dd) ∧ Blk w' kb 25 #[.int .i64 kg, .int .i64 kl, .int .i64 kr])) (by kernel_rfl) ?_ (fun hHeld => ?_)
      · exact ⟨(HH.pick 1 rfl).blk, (HH.pick 2 rfl).blk⟩
      (refine take_on 0 (some 72) (v := ?_) rfl rfl (by kernel_rfl) (by kernel_rfl) (by kernel_rfl) (fun _ _ _ h => h) (by rfl) (by assumption) ?_ ?_; rotate_left; · (intro w hSw; go_simp; (try with_reducible rfl)))
      (try simp only [Act.put, List.setIfInBounds_toArray, List.set_cons_zero, List.set_cons_succ])
      (refine take_on 1 (some 73) (v := ?_) rfl rfl (by kernel_rfl) (by kernel_rfl) (by kernel_rfl) (fun _ _ _ h => h) (by rfl) (by assumption) ?_ ?_; rotate_left; · (intro w hSw; go_simp; (try with_reducible rfl)))
      (try simp only [Act.put, List.setIfInBounds_toArray, List.set_cons_zero, List.set_cons_succ])
      (refine take_on 2 (some 74) (v := ?_) rfl rfl (by kernel_rfl) (by kernel_rfl) (by kernel_rfl) (fun _ _ _ h => h) (by rfl) (by assumption) ?_ ?_; rotate_left; · (intro w hSw; go_simp; (try with_reducible rfl)))
      (try simp only [Act.put, List.setIfInBounds_toArray, List.set_cons_zero, List.set_cons_succ])
      (refine take_on 3 (some 75) (v := ?_) rfl rfl (by kernel_rfl) (by kernel_rfl) (by kernel_rfl) (fun _ _ _ h => h) (by rfl) (by assumption) ?_ ?_; rotate_left; · (intro w hSw; (try dsimp only at hSw); obtain ⟨_, _, _, _, w4_⟩ := wdC_cells hSw.1; go_simp; (try with_reducible rfl)))
      (try simp only [Act.put, List.setIfInBounds_toArray, List.set_cons_zero, List.set_cons_succ])
      (refine take_on 4 (some 76) (v := ?_) rfl rfl (by kernel_rfl) (by kernel_rfl) (by kernel_rfl) (fun _ _ _ h => h) (by rfl) (by assumption) ?_ ?_; rotate_left; · (intro w hSw; (try dsimp only at hSw); have d0_ := hSw.2.cell 0; have d1_ := hSw.2.cell 1; have d2_ := hSw.2.cell 2; simp only [List.getElem?_toArray, List.getElem?_cons_zero, List.getElem?_cons_succ] at d0_ d1_ d2_; go_simp; (try with_reducible rfl)))
      (try simp only [Act.put, List.setIfInBounds_toArray, List.set_cons_zero, List.set_cons_succ])
      refine wpAnyH_ready (rs := [5]) (by kernel_rfl) (by simp) ?_; refine AllReadyH.cons (o := _) rfl (fun K hK => ?_) AllReadyH.nil
      go_simp
      (go_at_call 18; refine (cM HH).mono ?_; rintro e z8 ⟨rfl, H2⟩)
      refine hK.out _ _ (by (try dsimp only); exact ⟨(H2.pick 1 rfl).blk, (H2.pick 2 rfl).blk⟩) (fun hHeld => ?_)
      clear hK K
      (try simp only [Act.put, List.setIfInBounds_toArray, List.set_cons_zero, List.set_cons_succ])
      (refine take_on 6 (some 71) (v := ?_) rfl rfl (by kernel_rfl) (by kernel_rfl) (by kernel_rfl) (fun _ _ _ h => h) (by rfl) (by assumption) ?_ ?_; rotate_left; · (intro w hSw; go_simp; (try with_reducible rfl)))
      (try simp only [Act.put, List.setIfInBounds_toArray, List.set_cons_zero, List.set_cons_succ])
      (refine take_on 7 (some 78) (v := ?_) rfl rfl (by kernel_rfl) (by kernel_rfl) (by kernel_rfl) (fun _ _ _ h => h) (by rfl) (by assumption) ?_ ?_; rotate_left; · (intro w hSw; go_simp; (try with_reducible rfl)))
      (try simp only [Act.put, List.setIfInBounds_toArray, List.set_cons_zero, List.set_cons_succ])
      (refine take_on 8 (some 79) (v := ?_) rfl rfl (by kernel_rfl) (by kernel_rfl) (by kernel_rfl) (fun _ _ _ h => h) (by rfl) (by assumption) ?_ ?_; rotate_left; · (intro w hSw; go_simp; (try with_reducible rfl)))
      (try simp only [Act.put, List.setIfInBounds_toArray, List.set_cons_zero, List.set_cons_succ])
      (refine take_on 9 (some 14) (v := ?_) rfl rfl (by kernel_rfl) (by kernel_rfl) (by kernel_rfl) (fun _ _ _ h => h) (by rfl) (by assumption) ?_ ?_; rotate_left; · (intro w hSw; go_simp; (try with_reducible rfl)))
      (try simp only [Act.put, List.setIfInBounds_toArray, List.set_cons_zero, List.set_cons_succ])
      (refine take_on 10 (some 15) (v := ?_) rfl rfl (by kernel_rfl) (by kernel_rfl) (by kernel_rfl) (fun _ _ _ h => h) (by rfl) (by assumption) ?_ ?_; rotate_left; · (intro w hSw; go_simp; (try with_reducible rfl)))
      (try simp only [Act.put, List.setIfInBounds_toArray, List.set_cons_zero, List.set_cons_succ])
      refine wpAnyH_done (by kernel_rfl) ?_ _
      refine NoPanic.normal ?_
      clear H HH hHeld cM
      have H := H2
      clear H2
      go_upto_region 14 with fail
      go_cut [109] from 80 to 109 (fun cv wx => cv = .bool false ∧ SepC w wx (gdT dd gq mp q hp hb t 40 4 8 8 gl16 (D2) :: blkT wb 43 (wdC hp gq q t dd) :: blkT kb 25 #[.int .i64 kg, .int .i64 kl, .int .i64 kr] :: []))
      case first =>
        cases there
        · cases is_
          · go_wp2_with fail
            go_meet
            exact ⟨rfl, H⟩
          · by_cases hr : kr = 0
            · obtain ⟨h1_, h2_⟩ := hmf2 rfl rfl hr
              subst hr
              rw [h1_] at cW2
              clear hmf2 h1_
              obtain ⟨w0_, w1_, w2_, w3_, w4_⟩ := wdC_cells (H.pick 1 rfl).blk
              have k0_ := (H.pick 2 rfl).blk.cell 0; have k2_ := (H.pick 2 rfl).blk.cell 2
              simp only [List.getElem?_toArray, List.getElem?_cons_zero, List.getElem?_cons_succ] at k0_ k2_
              go_wp2_with fail
              refine (cW2 H).mono ?_; rintro e z9 ⟨rfl, H_⟩
              clear cW2 H k0_ k2_ w0_ w1_ w2_ w3_ w4_
              have H := H_
              clear H_
              cases had
              · cases loo
                · clear h2_
                  go_wp2_with fail
                  go_meet
                  exact ⟨rfl, H⟩
                · rw [h2_ (by simp)] at cMa
                  simp only [List.length_nil] at cMa
                  clear h2_
                  obtain ⟨w0_, w1_, w2_, w3_, w4_⟩ := wdC_cells (H.pick 1 rfl).blk
                  go_wp2_with fail
                  refine (cMa H).mono ?_; rintro e z10 ⟨rfl, y_⟩
                  replace H := H.new y_
                  clear w0_ w1_ w2_ w3_ w4_
                  go_wp2_with fail
                  go_meet
                  exact ⟨rfl, H⟩
              · rw [h2_ (by simp)] at cMa
                simp only [List.length_nil] at cMa
                clear h2_
                obtain ⟨w0_, w1_, w2_, w3_, w4_⟩ := wdC_cells (H.pick 1 rfl).blk
                go_wp2_with fail
                refine (cMa H).mono ?_; rintro e z10 ⟨rfl, y_⟩
                replace H := H.new y_
                clear w0_ w1_ w2_ w3_ w4_
                go_wp2_with fail
                go_meet
                exact ⟨rfl, H⟩
            · have hrb : (kr == 0) = false := by simpa using hr
              replace hr := Lib.hid hr
              have k0_ := (H.pick 2 rfl).blk.cell 0; have k2_ := (H.pick 2 rfl).blk.cell 2
              simp only [List.getElem?_toArray, List.getElem?_cons_zero, List.getElem?_cons_succ] at k0_ k2_
              go_wp2_with fail
              go_meet
              exact ⟨rfl, H⟩
        · go_wp2_with fail
          go_meet
          exact ⟨rfl, H⟩
      case rest =>
        obtain ⟨rfl, H2⟩ := hcut
        clear H cW2 cMa hmf2
        have H := H2
        clear H2
        have G2 := H.gIn
        have hnd := G2.ok.nd
        have cLi := H.kList
        obtain ⟨LL, hLL⟩ : ∃ LL, D2.l = LL := ⟨_, rfl⟩
        rw [hLL] at cLi hnd
        obtain ⟨N, hN⟩ : ∃ N, LL.length = N := ⟨_, rfl⟩
        rw [hN] at cLi
        replace hN := Lib.hid hN
        replace hnd := Lib.hid hnd
        obtain ⟨w0_, w1_, w2_, w3_, w4_⟩ := wdC_cells (H.pick 1 rfl).blk
        go_wp2_with fail
        refine cLi.mono ?_; rintro e z11 ⟨A1, c1, rfl, H_⟩
        clear cLi H w0_ w1_ w2_ w3_ w4_
        have H := (H_.pick 2 rfl).pick 2 rfl
        clear H_ G2
        replace hLL := Lib.hid hLL
        go_wp2_with fail
        go_loopw [17] (fun s_ wr => ∃ (k : Nat) (D : Gd), k ≤ N ∧ s_ = .int .i64 k ∧ Aside (D.l = LL.drop k) ∧ SepC w wr (gdT dd gq mp q hp hb t 40 4 8 8 gl16 (D) :: blkT wb 43 (wdC hp gq q t dd) :: ownT (numE .i64) 3 (.slice A1 N c1) LL :: blkT kb 25 #[.int .i64 kg, .int .i64 kl, .int .i64 kr] :: [])) (fun s_ _ => N - (intOf s_).toNat)
        case atStart => exact ⟨0, D2, Nat.zero_le _, rfl, (show Aside _ from by rw [List.drop_zero]; exact hLL.out), H⟩
        case round =>
          clear H
          obtain ⟨k, D, hk, rfl, hDl, H⟩ := hrel
          have hcp := (H.pick 2 rfl).own.cap
          have hN9 : N ≤ 9223372036854775807 := by omega
          clear hcp
          by_cases hlt : k < N
          · have hltz : (k : Int) < (N : Int) := by omega
            obtain ⟨ab, aoff, x, rfl, _, hx, _⟩ := SlN.get (H.pick 2 rfl).own.slg hlt
            obtain ⟨D3, hD3⟩ : ∃ D3 : Gd, (⟨D.s, putT 8 D.T ⟨0, 5, 0, false, false, false, false⟩, D.l⟩ : Gd) = D3 := ⟨_, rfl⟩
            have cP := H.kPut ⟨0, 5, 0, false, false, false, false⟩
            rw [hD3] at cP
            simp only [Ht.v] at cP
            have G3 : GdIn 40 4 8 gl16 D3 := by rw [← hD3]; exact H.gIn.tlb _
            have hl3 : D3.l = LL.drop k := by rw [← hD3]; exact hDl.out
            have hb3 : looseB D3 x = true := by unfold looseB; rw [hl3, List.contains_iff_mem, List.drop_eq_getElem_cons (List.getElem?_eq_some_iff.1 hx).1, (List.getElem?_eq_some_iff.1 hx).2]; simp
            obtain ⟨n1_, n2_, n3_⟩ := look_not G3.ok hb3
            have hl4 : (lookG 40 gl16 D3 x).l = LL.drop (k + 1) := by rw [look_loose, hl3]; exact drop_filter hnd.out hx
            have cK := fun {z : World} {l_ : List Th} (H' : SepC w z (gdT dd gq mp q hp hb t 40 4 8 8 gl16 (D3) :: l_)) => H'.kLook x
            rw [hb3] at cK
            generalize lookG 40 gl16 D3 x = D4 at *
            have cW := fun {z : World} {l_ : List Th} (H' : SepC w z (gdT dd gq mp q hp hb t 40 4 8 8 gl16 (D4) :: blkT wb 43 (wdC hp gq q t dd) :: l_)) => H'.wWritable x
            rw [n1_] at cW
            have cMa := fun {z : World} {l_ : List Th} (H' : SepC w z (gdT dd gq mp q hp hb t 40 4 8 8 gl16 (D4) :: l_)) => H'.kMany
            rw [n2_] at cMa
            simp only [List.length_nil] at cMa
            have cLo := fun {z : World} {l_ : List Th} (H' : SepC w z (gdT dd gq mp q hp hb t 40 4 8 8 gl16 (D4) :: l_)) => H'.kLoose x
            rw [n3_] at cLo
            clear n1_ n2_ n3_ hb3 hl3 G3 hD3
            replace hl4 := Lib.hid hl4; replace hx := Lib.hid hx
            have hS3 : ∀ (z : World) (D' : Gd), SepC w z (gdT dd gq mp q hp hb t 40 4 8 8 gl16 (D') :: blkT wb 43 (wdC hp gq q t dd) :: ownT (numE .i64) 3 (.slice (some ⟨ab, aoff, none⟩) N c1) LL :: blkT kb 25 #[.int .i64 kg, .int .i64 kl, .int .i64 kr] :: []) → z.cell? ⟨wb, 4, none⟩ = some (.pointer (some ⟨dd, 0, none⟩)) ∧ z.cell? ⟨wb, 3, none⟩ = some (.pointer (some ⟨t, 0, none⟩)) ∧ z.cell? ⟨ab, aoff + k, none⟩ = some (.int .i64 x) := fun z D' H' => by
              obtain ⟨b2_, o2_, x2_, e2_, _, h2_, t2_⟩ := SlN.get (H'.pick 2 rfl).own.slg hlt
              cases e2_; rw [hx.out] at h2_; cases h2_
              have hw_ := wdC_cells (H'.pick 1 rfl).blk
              exact ⟨hw_.2.2.2.2, hw_.2.2.2.1, t2_⟩
            obtain ⟨w0_, w1_, w2_, w3_, w4_⟩ := wdC_cells (H.pick 1 rfl).blk
            go_wp2_with fail
            refine cP.mono ?_; rintro e z12 ⟨rfl, H_⟩
            clear cP H w0_ w1_ w2_ w3_ w4_
            have H := H_
            clear H_
            go_upto_region 21 with fail
            have HH := H.new (Chg.refl [] _).drew
            refine wp_region_noPanic ?_
            refine wp_region_held_drew (S := (fun w' => w'.cell? ⟨wb, 4, none⟩ = some (.pointer (some ⟨dd, 0, none⟩)) ∧ w'.cell? ⟨wb, 3, none⟩ = some (.pointer (some ⟨t, 0, none⟩)) ∧ w'.cell? ⟨ab, aoff + k, none⟩ = some (.int .i64 x))) (by kernel_rfl) ?_ (fun hHeld => ?_)
            · exact hS3 _ _ HH
            (refine take_on 0 (some 127) (v := ?_) rfl rfl (by kernel_rfl) (by kernel_rfl) (by kernel_rfl) (fun _ _ _ h => h) (by rfl) (by assumption) ?_ ?_; rotate_left; · (intro w hSw; go_simp; (try with_reducible rfl)))
            (try simp only [Act.put, List.setIfInBounds_toArray, List.set_cons_zero, List.set_cons_succ])
            (refine take_on 1 (some 128) (v := ?_) rfl rfl (by kernel_rfl) (by kernel_rfl) (by kernel_rfl) (fun _ _ _ h => h) (by rfl) (by assumption) ?_ ?_; rotate_left; · (intro w hSw; go_simp; (try with_reducible rfl)))
            (try simp only [Act.put, List.setIfInBounds_toArray, List.set_cons_zero, List.set_cons_succ])
            (refine take_on 2 (some 129) (v := ?_) rfl rfl (by kernel_rfl) (by kernel_rfl) (by kernel_rfl) (fun _ _ _ h => h) (by rfl) (by assumption) ?_ ?_; rotate_left; · (intro w hSw; go_simp; (try with_reducible rfl)))
            (try simp only [Act.put, List.setIfInBounds_toArray, List.set_cons_zero, List.set_cons_succ])
            (refine take_on 3 (some 130) (v := ?_) rfl rfl (by kernel_rfl) (by kernel_rfl) (by kernel_rfl) (fun _ _ _ h => h) (by rfl) (by assumption) ?_ ?_; rotate_left; · (intro w hSw; (try dsimp only at hSw); obtain ⟨s1_, s2_, s3_⟩ := hSw; go_simp; (try with_reducible rfl)))
            (try simp only [Act.put, List.setIfInBounds_toArray, List.set_cons_zero, List.set_cons_succ])
            (refine take_on 4 (some 131) (v := ?_) rfl rfl (by kernel_rfl) (by kernel_rfl) (by kernel_rfl) (fun _ _ _ h => h) (by rfl) (by assumption) ?_ ?_; rotate_left; · (intro w hSw; go_simp; (try with_reducible rfl)))
            (try simp only [Act.put, List.setIfInBounds_toArray, List.set_cons_zero, List.set_cons_succ])
            (refine take_on 5 (some 132) (v := ?_) rfl rfl (by kernel_rfl) (by kernel_rfl) (by kernel_rfl) (fun _ _ _ h => h) (by rfl) (by assumption) ?_ ?_; rotate_left; · (intro w hSw; go_simp; (try with_reducible rfl)))
            (try simp only [Act.put, List.setIfInBounds_toArray, List.set_cons_zero, List.set_cons_succ])
            (refine take_on 6 (some 133) (v := ?_) rfl rfl (by kernel_rfl) (by kernel_rfl) (by kernel_rfl) (fun _ _ _ h => h) (by rfl) (by assumption) ?_ ?_; rotate_left; · (intro w hSw; go_simp; (try with_reducible rfl)))
            (try simp only [Act.put, List.setIfInBounds_toArray, List.set_cons_zero, List.set_cons_succ])
            (refine take_on 7 (some 134) (v := ?_) rfl rfl (by kernel_rfl) (by kernel_rfl) (by kernel_rfl) (fun _ _ _ h => h) (by rfl) (by assumption) ?_ ?_; rotate_left; · (intro w hSw; (try dsimp only at hSw); obtain ⟨s1_, s2_, s3_⟩ := hSw; go_simp; (try with_reducible rfl)))
            (try simp only [Act.put, List.setIfInBounds_toArray, List.set_cons_zero, List.set_cons_succ])
            refine wpAnyH_ready (rs := [8]) (by kernel_rfl) (by simp) ?_; refine AllReadyH.cons (o := _) rfl (fun K hK => ?_) AllReadyH.nil
            go_simp
            (go_at_call 21; refine (cK HH).mono ?_; rintro e u1 ⟨rfl, HA⟩)
            refine hK.out _ _ (by (try dsimp only); exact hS3 _ _ HA) (fun hHeld => ?_)
            clear hK K
            (try simp only [Act.put, List.setIfInBounds_toArray, List.set_cons_zero, List.set_cons_succ])
            (refine take_on 9 (some 136) (v := ?_) rfl rfl (by kernel_rfl) (by kernel_rfl) (by kernel_rfl) (fun _ _ _ h => h) (by rfl) (by assumption) ?_ ?_; rotate_left; · (intro w hSw; go_simp; (try with_reducible rfl)))
            (try simp only [Act.put, List.setIfInBounds_toArray, List.set_cons_zero, List.set_cons_succ])
            (refine take_on 10 (some 137) (v := ?_) rfl rfl (by kernel_rfl) (by kernel_rfl) (by kernel_rfl) (fun _ _ _ h => h) (by rfl) (by assumption) ?_ ?_; rotate_left; · (intro w hSw; go_simp; (try with_reducible rfl)))
            (try simp only [Act.put, List.setIfInBounds_toArray, List.set_cons_zero, List.set_cons_succ])
            (refine take_on 11 (some 138) (v := ?_) rfl rfl (by kernel_rfl) (by kernel_rfl) (by kernel_rfl) (fun _ _ _ h => h) (by rfl) (by assumption) ?_ ?_; rotate_left; · (intro w hSw; go_simp; (try with_reducible rfl)))
            (try simp only [Act.put, List.setIfInBounds_toArray, List.set_cons_zero, List.set_cons_succ])
            (refine take_on 12 (some 139) (v := ?_) rfl rfl (by kernel_rfl) (by kernel_rfl) (by kernel_rfl) (fun _ _ _ h => h) (by rfl) (by assumption) ?_ ?_; rotate_left; · (intro w hSw; go_simp; (try with_reducible rfl)))
            (try simp only [Act.put, List.setIfInBounds_toArray, List.set_cons_zero, List.set_cons_succ])
            (refine take_on 13 (some 140) (v := ?_) rfl rfl (by kernel_rfl) (by kernel_rfl) (by kernel_rfl) (fun _ _ _ h => h) (by rfl) (by assumption) ?_ ?_; rotate_left; · (intro w hSw; go_simp; (try with_reducible rfl)))
            (try simp only [Act.put, List.setIfInBounds_toArray, List.set_cons_zero, List.set_cons_succ])
            (refine take_on 14 (some 141) (v := ?_) rfl rfl (by kernel_rfl) (by kernel_rfl) (by kernel_rfl) (fun _ _ _ h => h) (by rfl) (by assumption) ?_ ?_; rotate_left; · (intro w hSw; go_simp; (try with_reducible rfl)))
            (try simp only [Act.put, List.setIfInBounds_toArray, List.set_cons_zero, List.set_cons_succ])
            (refine take_on 15 (some 142) (v := ?_) rfl rfl (by kernel_rfl) (by kernel_rfl) (by kernel_rfl) (fun _ _ _ h => h) (by rfl) (by assumption) ?_ ?_; rotate_left; · (intro w hSw; (try dsimp only at hSw); obtain ⟨s1_, s2_, s3_⟩ := hSw; go_simp; (try with_reducible rfl)))
            (try simp only [Act.put, List.setIfInBounds_toArray, List.set_cons_zero, List.set_cons_succ])
            refine wpAnyH_ready (rs := [16]) (by kernel_rfl) (by simp) ?_; refine AllReadyH.cons (o := _) rfl (fun K hK => ?_) AllReadyH.nil
            go_simp
            (go_at_call 15; refine (cW HA).mono ?_; rintro e u2 ⟨rfl, HB⟩)
            refine hK.out _ _ (by (try dsimp only); exact hS3 _ _ HB) (fun hHeld => ?_)
            clear hK K
            (try simp only [Act.put, List.setIfInBounds_toArray, List.set_cons_zero, List.set_cons_succ])
            (refine take_on 17 (some 144) (v := ?_) rfl rfl (by kernel_rfl) (by kernel_rfl) (by kernel_rfl) (fun _ _ _ h => h) (by rfl) (by assumption) ?_ ?_; rotate_left; · (intro w hSw; go_simp; (try with_reducible rfl)))
            (try simp only [Act.put, List.setIfInBounds_toArray, List.set_cons_zero, List.set_cons_succ])
            (refine take_on 18 (some 145) (v := ?_) rfl rfl (by kernel_rfl) (by kernel_rfl) (by kernel_rfl) (fun _ _ _ h => h) (by rfl) (by assumption) ?_ ?_; rotate_left; · (intro w hSw; go_simp; (try with_reducible rfl)))
            (try simp only [Act.put, List.setIfInBounds_toArray, List.set_cons_zero, List.set_cons_succ])
            (refine take_on 19 (some 146) (v := ?_) rfl rfl (by kernel_rfl) (by kernel_rfl) (by kernel_rfl) (fun _ _ _ h => h) (by rfl) (by assumption) ?_ ?_; rotate_left; · (intro w hSw; go_simp; (try with_reducible rfl)))
            (try simp only [Act.put, List.setIfInBounds_toArray, List.set_cons_zero, List.set_cons_succ])
            (refine take_on 20 (some 147) (v := ?_) rfl rfl (by kernel_rfl) (by kernel_rfl) (by kernel_rfl) (fun _ _ _ h => h) (by rfl) (by assumption) ?_ ?_; rotate_left; · (intro w hSw; go_simp; (try with_reducible rfl)))
            (try simp only [Act.put, List.setIfInBounds_toArray, List.set_cons_zero, List.set_cons_succ])
            (refine take_on 21 (some 148) (v := ?_) rfl rfl (by kernel_rfl) (by kernel_rfl) (by kernel_rfl) (fun _ _ _ h => h) (by rfl) (by assumption) ?_ ?_; rotate_left; · (intro w hSw; go_simp; (try with_reducible rfl)))
            (try simp only [Act.put, List.setIfInBounds_toArray, List.set_cons_zero, List.set_cons_succ])
            (refine take_on 22 (some 149) (v := ?_) rfl rfl (by kernel_rfl) (by kernel_rfl) (by kernel_rfl) (fun _ _ _ h => h) (by rfl) (by assumption) ?_ ?_; rotate_left; · (intro w hSw; (try dsimp only at hSw); obtain ⟨s1_, s2_, s3_⟩ := hSw; go_simp; (try with_reducible rfl)))
            (try simp only [Act.put, List.setIfInBounds_toArray, List.set_cons_zero, List.set_cons_succ])
            refine wpAnyH_ready (rs := [23]) (by kernel_rfl) (by simp) ?_; refine AllReadyH.cons (o := _) rfl (fun K hK => ?_) AllReadyH.nil
            go_simp
            (go_at_call 19; refine (cMa HB).mono ?_; rintro e u3 ⟨rfl, y3⟩; have HC := HB.new y3)
            refine hK.out _ _ (by (try dsimp only); exact hS3 _ _ HC) (fun hHeld => ?_)
            clear hK K
            (try simp only [Act.put, List.setIfInBounds_toArray, List.set_cons_zero, List.set_cons_succ])
            (refine take_on 24 (some 151) (v := ?_) rfl rfl (by kernel_rfl) (by kernel_rfl) (by kernel_rfl) (fun _ _ _ h => h) (by rfl) (by assumption) ?_ ?_; rotate_left; · (intro w hSw; go_simp; (try with_reducible rfl)))
            (try simp only [Act.put, List.setIfInBounds_toArray, List.set_cons_zero, List.set_cons_succ])
            (refine take_on 25 (some 152) (v := ?_) rfl rfl (by kernel_rfl) (by kernel_rfl) (by kernel_rfl) (fun _ _ _ h => h) (by rfl) (by assumption) ?_ ?_; rotate_left; · (intro w hSw; go_simp; (try with_reducible rfl)))
            (try simp only [Act.put, List.setIfInBounds_toArray, List.set_cons_zero, List.set_cons_succ])
            (refine take_on 26 (some 153) (v := ?_) rfl rfl (by kernel_rfl) (by kernel_rfl) (by kernel_rfl) (fun _ _ _ h => h) (by rfl) (by assumption) ?_ ?_; rotate_left; · (intro w hSw; go_simp; (try with_reducible rfl)))
            (try simp only [Act.put, List.setIfInBounds_toArray, List.set_cons_zero, List.set_cons_succ])
            (refine take_on 27 (some 154) (v := ?_) rfl rfl (by kernel_rfl) (by kernel_rfl) (by kernel_rfl) (fun _ _ _ h => h) (by rfl) (by assumption) ?_ ?_; rotate_left; · (intro w hSw; go_simp; (try with_reducible rfl)))
            (try simp only [Act.put, List.setIfInBounds_toArray, List.set_cons_zero, List.set_cons_succ])
            (refine take_on 28 (some 155) (v := ?_) rfl rfl (by kernel_rfl) (by kernel_rfl) (by kernel_rfl) (fun _ _ _ h => h) (by rfl) (by assumption) ?_ ?_; rotate_left; · (intro w hSw; go_simp; (try with_reducible rfl)))
            (try simp only [Act.put, List.setIfInBounds_toArray, List.set_cons_zero, List.set_cons_succ])
            (refine take_on 29 (some 156) (v := ?_) rfl rfl (by kernel_rfl) (by kernel_rfl) (by kernel_rfl) (fun _ _ _ h => h) (by rfl) (by assumption) ?_ ?_; rotate_left; · (intro w hSw; go_simp; (try with_reducible rfl)))
            (try simp only [Act.put, List.setIfInBounds_toArray, List.set_cons_zero, List.set_cons_succ])
            (refine take_on 30 (some 157) (v := ?_) rfl rfl (by kernel_rfl) (by kernel_rfl) (by kernel_rfl) (fun _ _ _ h => h) (by rfl) (by assumption) ?_ ?_; rotate_left; · (intro w hSw; (try dsimp only at hSw); obtain ⟨s1_, s2_, s3_⟩ := hSw; go_simp; (try with_reducible rfl)))
            (try simp only [Act.put, List.setIfInBounds_toArray, List.set_cons_zero, List.set_cons_succ])
            (refine take_on 31 (some 158) (v := ?_) rfl rfl (by kernel_rfl) (by kernel_rfl) (by kernel_rfl) (fun _ _ _ h => h) (by rfl) (by assumption) ?_ ?_; rotate_left; · (intro w hSw; go_simp; (try with_reducible rfl)))
            (try simp only [Act.put, List.setIfInBounds_toArray, List.set_cons_zero, List.set_cons_succ])
            (refine take_on 32 (some 159) (v := ?_) rfl rfl (by kernel_rfl) (by kernel_rfl) (by kernel_rfl) (fun _ _ _ h => h) (by rfl) (by assumption) ?_ ?_; rotate_left; · (intro w hSw; go_simp; (try with_reducible rfl)))
            (try simp only [Act.put, List.setIfInBounds_toArray, List.set_cons_zero, List.set_cons_succ])
            (refine take_on 33 (some 160) (v := ?_) rfl rfl (by kernel_rfl) (by kernel_rfl) (by kernel_rfl) (fun _ _ _ h => h) (by rfl) (by assumption) ?_ ?_; rotate_left; · (intro w hSw; go_simp; (try with_reducible rfl)))
            (try simp only [Act.put, List.setIfInBounds_toArray, List.set_cons_zero, List.set_cons_succ])
            (refine take_on 34 (some 161) (v := ?_) rfl rfl (by kernel_rfl) (by kernel_rfl) (by kernel_rfl) (fun _ _ _ h => h) (by rfl) (by assumption) ?_ ?_; rotate_left; · (intro w hSw; (try dsimp only at hSw); obtain ⟨s1_, s2_, s3_⟩ := hSw; go_simp; (try with_reducible rfl)))
            (try simp only [Act.put, List.setIfInBounds_toArray, List.set_cons_zero, List.set_cons_succ])
            refine wpAnyH_ready (rs := [35]) (by kernel_rfl) (by simp) ?_; refine AllReadyH.cons (o := _) rfl (fun K hK => ?_) AllReadyH.nil
            go_simp
            (go_at_call 17; refine (cLo HC).mono ?_; rintro e u4 ⟨rfl, rfl⟩)
            refine hK.out _ _ (by (try dsimp only); exact hHeld) (fun hHeld => ?_)
            clear hK K
            (try simp only [Act.put, List.setIfInBounds_toArray, List.set_cons_zero, List.set_cons_succ])
            (refine take_on 36 (some 163) (v := ?_) rfl rfl (by kernel_rfl) (by kernel_rfl) (by kernel_rfl) (fun _ _ _ h => h) (by rfl) (by assumption) ?_ ?_; rotate_left; · (intro w hSw; go_simp; (try with_reducible rfl)))
            (try simp only [Act.put, List.setIfInBounds_toArray, List.set_cons_zero, List.set_cons_succ])
            refine wpAnyH_done (by kernel_rfl) ?_ _
            refine NoPanic.normal ?_
            clear hHeld cK cW cMa cLo HH HA HB
            go_wp2_with fail
            go_roundw
            case rel => exact ⟨k + 1, D4, by omega, by go_num, (show Aside _ from hl4.out), HC⟩
            case measure => simp [intOf]; omega
          · have ek : k = N := by omega
            subst ek
            have hltz : ¬ (k : Int) < (k : Int) := by omega
            have hnil : D.l = [] := by rw [hDl.out, List.drop_eq_nil_iff]; have := hN.out; omega
            have cLi := H.kList
            rw [hnil] at cLi
            simp only [List.length_nil] at cLi
            obtain ⟨w0_, w1_, w2_, w3_, w4_⟩ := wdC_cells (H.pick 1 rfl).blk
            go_wp2_with fail
            refine cLi.mono ?_; rintro e z13 ⟨A2, c2, rfl, H_⟩
            go_wp2_with fail
            go_ret
            exact ⟨rfl, H_.1⟩

end Go.Proofs.Ytgjfidjhbkaobaa
