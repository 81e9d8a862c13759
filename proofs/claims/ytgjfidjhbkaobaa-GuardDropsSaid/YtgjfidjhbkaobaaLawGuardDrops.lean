/-
  GuardDrops: the law, walked from contracts.
-/
import Derived.Test.YtgjfidjhbkaobaaGuardW
import Derived.Deep.CutRange
namespace Go.Proofs.Ytgjfidjhbkaobaa
open Go.RowKit Go.Maps

set_option maxRecDepth 100000 in
set_option maxHeartbeats 20000000 in
/-- a page that is given back is a table's no more, nor loose, unless another page is of it; the TLB knows nothing then -/
theorem lawGuardDrops_any (A : Option Addr) (n c : Nat) (P : List Pu) (B : Option Addr) (m e0 : Nat) (L : List Gst) (at_ : Nat) (w : World) (hP : SlP w A n P) (hl : GopsIn w B m L) (hat : at_ ≤ 255) :
    Calls Try.prog 9 #[.slice A n c, .slice B m e0, .int .u8 at_] w fun e w' => e = .returned (.bool true) ∧ Chg [] w w' := by
  have hHd := fun w' => GHead_any w'
  have hGr := fun z => Great16_any A n c B m e0 z
  have hmm := hl.sl.len
  have hm9 := hl.sl.le
  replace hmm := Lib.hid hmm
  have H0 := SepC.nil w
  cases hg_ : (decide (n > 600) || decide (m > 120))
  rotate_left
  · rw [hg_] at hGr
    go_enter Try.func9, Try.ntmps9
    go_wp2_with fail
    refine (hHd _).mono ?_; rintro e z1 ⟨rfl, y1⟩
    have H1 := H0.new y1
    clear H0 y1 hHd
    go_wp2_with fail
    refine (Made16_at (hP.self H1.1)).mono ?_; intro e z2 hMP
    unfold MadeP16 at hMP
    obtain ⟨wb, dd, gq, mp, q, hp, hb, t, rfl, HM⟩ := hMP
    have H := H1.merge HM
    clear H1 HM hP
    go_wp2_with fail
    refine (hGr _).mono ?_; rintro e z3 ⟨rfl, rfl⟩
    clear hGr
    go_wp2_with fail
    go_ret
    exact ⟨rfl, H.1⟩
  rw [hg_] at hGr
  clear hg_
  go_enter Try.func9, Try.ntmps9
  go_wp2_with fail
  refine (hHd _).mono ?_; rintro e z1 ⟨rfl, y1⟩
  have H1 := H0.new y1
  clear H0 y1 hHd
  go_wp2_with fail
  refine (Made16_at (hP.self H1.1)).mono ?_; intro e z2 hMP
  unfold MadeP16 at hMP
  obtain ⟨wb, dd, gq, mp, q, hp, hb, t, rfl, HM⟩ := hMP
  have H := H1.merge HM
  clear H1 HM hP
  go_wp2_with fail
  refine (hGr _).mono ?_; rintro e z3 ⟨rfl, rfl⟩
  clear hGr
  go_wp2_with fail
  replace H : SepC w _ (gdT dd gq mp q hp hb t 40 4 8 8 gl16 (opsG (gd0 (madeG P)) (L.take 0)) :: blkT wb 43 (wdC hp gq q t dd) :: []) := H
  go_loopw [9] (fun s_ wr => ∃ k : Nat, k ≤ m ∧ s_ = .int .i64 k ∧ SepC w wr (gdT dd gq mp q hp hb t 40 4 8 8 gl16 (opsG (gd0 (madeG P)) (L.take k)) :: blkT wb 43 (wdC hp gq q t dd) :: [])) (fun s_ _ => m - (intOf s_).toNat)
  case atStart => exact ⟨0, Nat.zero_le _, rfl, H⟩
  case round =>
    clear H
    obtain ⟨k, hk, rfl, H⟩ := hrel
    by_cases hlt : k < m
    · have hltz : (k : Int) < (m : Int) := by omega
      obtain ⟨b, off, o, rfl, ho, c0, c1, c2, c3, c4, c5, c6, c7, c8, c9, c10⟩ := gopE_cells (hl.new H.1).sl hlt
      have hD := H.wDo o (hl.at_ ho)
      rw [← opsG_take ho] at hD
      simp only [Gst.cs] at hD
      clear H
      go_wp2_with fail
      refine hD.mono ?_; rintro e w2 ⟨rfl, H2⟩
      clear hD c0 c1 c2 c3 c4 c5 c6 c7 c8 c9 c10
      go_wp2_with fail
      go_roundw
      case rel => exact ⟨k + 1, by omega, by go_num, H2⟩
      case measure => simp [intOf]; omega
    · have ek : k = m := by omega
      subst ek
      have hltz : ¬ (k : Int) < (k : Int) := by omega
      rw [List.take_of_length_le (Nat.le_of_eq hmm.out)] at H
      obtain ⟨d, hd⟩ : ∃ d, opsG (gd0 (madeG P)) L = d := ⟨_, rfl⟩
      rw [hd] at H
      have G := H.gIn
      clear hd hltz hlt hk hmm hm9 hl
      have hok := G.ok.sr
      have hLn := hok.le256
      have hpl := fun j (hj : j < d.s.L.length) => hok.pageAt hj
      have cA := H.kPages
      have hlm : (d.s.L.map Pg.f).length = d.s.L.length := List.length_map _
      rw [hlm] at cA
      clear hlm
      generalize hF7 : d.s.L.map Pg.f = F7 at *
      obtain ⟨N7, hN7⟩ : ∃ N7, d.s.L.length = N7 := ⟨_, rfl⟩
      rw [hN7] at cA hpl hLn
      obtain ⟨w0_, w1_, w2_, w3_, w4_⟩ := wdC_cells (H.pick 1 rfl).blk
      go_wp2_with fail
      refine cA.mono ?_; rintro e z7 ⟨A7, c7, rfl, H_⟩
      clear cA w0_ w1_ w2_ w3_ w4_ H
      have H := (H_.pick 2 rfl).pick 2 rfl
      clear H_
      by_cases h0 : N7 = 0
      · subst h0
        have hdn : dropB d.s 4 = false := by unfold dropB; rw [List.eq_nil_of_length_eq_zero hN7]; rfl
        replace hN7 := Lib.hid hN7; replace hF7 := Lib.hid hF7
        have cD := H.kDrop 4 (by unfold i64B; omega)
        rw [hdn] at cD
        clear hpl hdn G
        obtain ⟨w0_, w1_, w2_, w3_, w4_⟩ := wdC_cells (H.pick 1 rfl).blk
        go_wp2_with fail
        refine (cD).mono ?_; rintro e z11 ⟨rfl, H_⟩
        clear H
        have H := H_
        clear H_
        go_wp2_with fail
        go_ret
        exact ⟨rfl, H.1⟩
      have h0b : ((N7 : Int) == 0) = false := by simpa using h0
      have hNp : 0 < N7 := by omega
      obtain ⟨J, hJ, hJN⟩ : ∃ J : Nat, (at_ : Int) % (N7 : Int) = (J : Int) ∧ J < N7 := ⟨at_ % N7, by simp, Nat.mod_lt _ hNp⟩
      have hJt : Int.tmod (at_ : Int) (N7 : Int) = (J : Int) := by rw [← hJ]; rw [Int.tmod_eq_emod_of_nonneg (by omega)]
      obtain ⟨qj, hq0, hqm, hqa, hqk, hqr, hqF⟩ := hpl J hJN
      clear hpl hq0
      obtain ⟨ab, aoff, ax, rfl, _, hax, hac⟩ := SlN.get (H.pick 2 rfl).own.slg hJN
      rw [hqF] at hax; cases hax
      clear hqF
      obtain ⟨D1, hD1⟩ : ∃ D1 : Gd, (⟨d.s, putT 8 d.T ⟨0, 5, 0, false, false, false, false⟩, d.l⟩ : Gd) = D1 := ⟨_, rfl⟩
      have G1 : GdIn 40 4 8 gl16 D1 := by rw [← hD1]; exact G.tlb _
      have es : D1.s = d.s := by rw [← hD1]
      have eqm : qj ∈ D1.s.L := by rw [es]; exact hqm
      have hdl := drop_many G1.ok eqm
      obtain ⟨e1, e2, e3⟩ := hdl
      have hrl := fun hr => drop_left G1.ok eqm hr
      have hdB : dropB D1.s qj.f = true := by unfold dropB; rw [es, hqa]; rfl
      have hdN : dropB (dropG D1 qj.f).s qj.f = false := by unfold dropB; rw [e3]; rfl
      have hpr := prot_loose (d := dropG D1 qj.f) (g := qj.k.g)
      have hlc := fun hr => (drop_left G1.ok eqm hr).1
      have cK := H.kKey qj.f hqr
      rw [hqa, hqk] at cK
      simp only [Option.isSome_some] at cK
      have cO := fun {z : World} {l_ : List Th} (H' : SepC w z (gdT dd gq mp q hp hb t 40 4 8 8 gl16 (d) :: l_)) => H'.kOf qj.k.g
      have cP := fun {z : World} {l_ : List Th} (H' : SepC w z (gdT dd gq mp q hp hb t 40 4 8 8 gl16 (d) :: l_)) => H'.kPut ⟨0, 5, 0, false, false, false, false⟩
      rw [hD1] at cP
      simp only [Ht.v] at cP
      have cD := fun {z : World} {l_ : List Th} (H' : SepC w z (gdT dd gq mp q hp hb t 40 4 8 8 gl16 (D1) :: l_)) => H'.kDrop qj.f hqr
      rw [hdB] at cD
      rw [es] at e1 hrl hlc
      rw [hN7] at e1
      clear hqa hqk hqm eqm e3 hdB G1 es hD1 hok G
      generalize dropG D1 qj.f = D2 at *
      have cO2 := fun {z : World} {l_ : List Th} (H' : SepC w z (gdT dd gq mp q hp hb t 40 4 8 8 gl16 (D2) :: l_)) => H'.kOf qj.k.g
      have cL2 := fun {z : World} {l_ : List Th} (H' : SepC w z (gdT dd gq mp q hp hb t 40 4 8 8 gl16 (D2) :: l_)) => H'.kLoose qj.k.g
      have cP2 := fun {z : World} {l_ : List Th} (H' : SepC w z (gdT dd gq mp q hp hb t 40 4 8 8 gl16 (D2) :: l_)) => H'.kProt qj.k.g
      have cD2 := fun {z : World} {l_ : List Th} (H' : SepC w z (gdT dd gq mp q hp hb t 40 4 8 8 gl16 (D2) :: l_)) => H'.kDrop qj.f hqr
      rw [hdN] at cD2
      have cM2 := fun {z : World} {l_ : List Th} (H' : SepC w z (gdT dd gq mp q hp hb t 40 4 8 8 gl16 (dropG D2 qj.f) :: l_)) => H'.kMany
      have cA2 := fun {z : World} {l_ : List Th} (H' : SepC w z (gdT dd gq mp q hp hb t 40 4 8 8 gl16 (dropG D2 qj.f) :: l_)) => H'.kPages
      have hD3 : dropG D2 qj.f = D2 := by unfold dropG; unfold dropB at hdN; cases hp_ : pgAt D2.s.L qj.f with | none => rfl | some _ => rw [hp_] at hdN; cases hdN
      rw [hD3] at cD2 cM2 cA2
      rw [e2] at cM2
      simp only [List.length_nil] at cM2
      have hl2 : (D2.s.L.map Pg.f).length = N7 - 1 := by rw [List.length_map]; omega
      rw [hl2] at cA2
      generalize D2.s.L.map Pg.f = F8 at *
      generalize hO1 : ofP d.s.L qj.k.g = O1 at *
      generalize hO2 : ofP D2.s.L qj.k.g = O2 at *
      generalize looseB D2 qj.k.g = lo at *
      generalize protB D2 qj.k.g = pr at *
      obtain ⟨n1, hn1⟩ : ∃ n1, O1.length = n1 := ⟨_, rfl⟩
      obtain ⟨n2, hn2⟩ : ∃ n2, O2.length = n2 := ⟨_, rfl⟩
      rw [hn1] at cO hlc
      rw [hn2] at cO2 hlc hpr
      have hn1L : n1 ≤ 256 := by rw [← hn1, ← hO1]; unfold ofP; rw [List.length_map]; exact Nat.le_trans (List.length_filter_le _ _) (by omega)
      have hlo : qj.k.role = 0 → lo = false := fun hr => (hrl hr).2
      clear hrl hdN hD3 hl2 e2 hO1 hO2
      replace hN7 := Lib.hid hN7; replace hF7 := Lib.hid hF7; replace hn1 := Lib.hid hn1; replace hn2 := Lib.hid hn2
      generalize qj.f = pf at *
      generalize qj.k = kj at *
      obtain ⟨kg, kl, kr⟩ := kj
      simp only [Ky.cs] at *
      obtain ⟨w0_, w1_, w2_, w3_, w4_⟩ := wdC_cells (H.pick 1 rfl).blk
      go_wp2_with fail
      refine cK.mono ?_; rintro e z8 ⟨rfl, y_⟩
      have HX := (H.new y_).alloc #[.int .i64 kg, .int .i64 kl, .int .i64 kr] 25
      clear cK hac y_ H w0_ w1_ w2_ w3_ w4_
      have H := (HX.pick 2 rfl).pick 2 rfl
      clear HX
      go_upto_region 14 with fail
      generalize z8.alloc (.cells #[.int .i64 kg, .int .i64 kl, .int .i64 kr] 25) = z9 at *
      generalize z8.heap.size = kb at *
      replace H := H.new (Chg.refl [] _).drew
      obtain ⟨w0_, w1_, w2_, w3_, w4_⟩ := wdC_cells (H.pick 1 rfl).blk
      have k0_ := (H.pick 2 rfl).blk.cell 0
      simp only [List.getElem?_toArray, List.getElem?_cons_zero] at k0_
      refine wp_region_still_tail 6 (by kernel_rfl) (by kernel_rfl) ?_
      simp only [List.take_succ_cons, List.take_zero, List.drop_succ_cons, List.drop_zero]
      change wpStill _ _ (World.drew _) _ _ _
      iterate 6 still_step
      refine wpStill_nil ?_
      change wpList _ _ _ _ _ (World.drew _)
      go_wp2_with fail
      refine (cO H).mono ?_; rintro e z10 ⟨A1, c1, rfl, H_⟩
      clear cO H k0_ w0_ w1_ w2_ w3_ w4_
      have H := H_.tail
      clear H_
      obtain ⟨w0_, w1_, w2_, w3_, w4_⟩ := wdC_cells (H.pick 1 rfl).blk
      go_wp2_with fail
      refine (cP H).mono ?_; rintro e z11 ⟨rfl, H_⟩
      clear cP H w0_ w1_ w2_ w3_ w4_
      have H := H_
      clear H_
      obtain ⟨w0_, w1_, w2_, w3_, w4_⟩ := wdC_cells (H.pick 1 rfl).blk
      go_wp2_with fail
      refine (cD H).mono ?_; rintro e z12 ⟨rfl, H_⟩
      clear cD H w0_ w1_ w2_ w3_ w4_
      have H := H_
      clear H_
      go_upto_region 17 with fail
      replace H := H.new (Chg.refl [] _).drew
      obtain ⟨w0_, w1_, w2_, w3_, w4_⟩ := wdC_cells (H.pick 1 rfl).blk
      have k0_ := (H.pick 2 rfl).blk.cell 0
      simp only [List.getElem?_toArray, List.getElem?_cons_zero] at k0_
      refine wp_region_still_tail 6 (by kernel_rfl) (by kernel_rfl) ?_
      simp only [List.take_succ_cons, List.take_zero, List.drop_succ_cons, List.drop_zero]
      change wpStill _ _ (World.drew _) _ _ _
      iterate 6 still_step
      refine wpStill_nil ?_
      change wpList _ _ _ _ _ (World.drew _)
      go_wp2_with fail
      refine (cO2 H).mono ?_; rintro e z13 ⟨A2, c2, rfl, H_⟩
      clear cO2 H k0_ w0_ w1_ w2_ w3_ w4_
      have H := H_.tail
      clear H_
      go_upto_region 18 with fail
      have HH := H.new (Chg.refl [] _).drew
      by_cases hr : kr = 0
      · subst hr
        have hlo1 := hlo rfl
        have hlc1 := hlc rfl
        clear hlo hlc
        subst hlo1
        have hb1 : decide ((n1 : Int) > 1) = pr := by rw [hpr]; simp; omega
        have hw2 : IntKind.i64.wrap ((n1 : Int) - 1) = (n2 : Int) := by rw [IntWalk.i64_in _ (by omega)]; omega
        replace hpr := Lib.hid hpr; replace hlc1 := Lib.hid hlc1
        refine wp_region_noPanic ?_
        refine wp_region_held_drew (S := (fun w' => Blk w' wb 43 (wdC hp gq q t dd) ∧ Blk w' kb 25 #[.int .i64 kg, .int .i64 kl, .int .i64 0])) (by kernel_rfl) ?_ (fun hHeld => ?_)
        · exact ⟨(HH.pick 1 rfl).blk, (HH.pick 2 rfl).blk⟩
        (refine take_on 0 (some 105) (v := ?_) rfl rfl (by kernel_rfl) (by kernel_rfl) (by kernel_rfl) (fun _ _ _ h => h) (by rfl) (by assumption) ?_ ?_; rotate_left; · (intro w hSw; go_simp; (try with_reducible rfl)))
        (try simp only [Act.put, List.setIfInBounds_toArray, List.set_cons_zero, List.set_cons_succ])
        (refine take_on 1 (some 106) (v := ?_) rfl rfl (by kernel_rfl) (by kernel_rfl) (by kernel_rfl) (fun _ _ _ h => h) (by rfl) (by assumption) ?_ ?_; rotate_left; · (intro w hSw; (try dsimp only at hSw); have k_ := hSw.2.cell 2; simp only [List.getElem?_toArray, List.getElem?_cons_zero, List.getElem?_cons_succ] at k_; go_simp; (try with_reducible rfl)))
        (try simp only [Act.put, List.setIfInBounds_toArray, List.set_cons_zero, List.set_cons_succ])
        (refine take_on 2 (some 107) (v := ?_) rfl rfl (by kernel_rfl) (by kernel_rfl) (by kernel_rfl) (fun _ _ _ h => h) (by rfl) (by assumption) ?_ ?_; rotate_left; · (intro w hSw; go_simp; (try with_reducible rfl)))
        (try simp only [Act.put, List.setIfInBounds_toArray, List.set_cons_zero, List.set_cons_succ])
        (refine take_on 3 (some 108) (v := ?_) rfl rfl (by kernel_rfl) (by kernel_rfl) (by kernel_rfl) (fun _ _ _ h => h) (by rfl) (by assumption) ?_ ?_; rotate_left; · (intro w hSw; go_simp; (try with_reducible rfl)))
        (try simp only [Act.put, List.setIfInBounds_toArray, List.set_cons_zero, List.set_cons_succ])
        (refine take_on 4 (some 109) (v := ?_) rfl rfl (by kernel_rfl) (by kernel_rfl) (by kernel_rfl) (fun _ _ _ h => h) (by rfl) (by assumption) ?_ ?_; rotate_left; · (intro w hSw; go_simp; (try with_reducible rfl)))
        (try simp only [Act.put, List.setIfInBounds_toArray, List.set_cons_zero, List.set_cons_succ])
        (refine take_on 5 (some 110) (v := ?_) rfl rfl (by kernel_rfl) (by kernel_rfl) (by kernel_rfl) (fun _ _ _ h => h) (by rfl) (by assumption) ?_ ?_; rotate_left; · (intro w hSw; go_simp; (try with_reducible rfl)))
        (try simp only [Act.put, List.setIfInBounds_toArray, List.set_cons_zero, List.set_cons_succ])
        (refine take_on 6 (some 111) (v := ?_) rfl rfl (by kernel_rfl) (by kernel_rfl) (by kernel_rfl) (fun _ _ _ h => h) (by rfl) (by assumption) ?_ ?_; rotate_left; · (intro w hSw; go_simp; (try with_reducible rfl)))
        (try simp only [Act.put, List.setIfInBounds_toArray, List.set_cons_zero, List.set_cons_succ])
        (refine take_on 7 (some 112) (v := ?_) rfl rfl (by kernel_rfl) (by kernel_rfl) (by kernel_rfl) (fun _ _ _ h => h) (by rfl) (by assumption) ?_ ?_; rotate_left; · (intro w hSw; go_simp; (try with_reducible rfl)))
        (try simp only [Act.put, List.setIfInBounds_toArray, List.set_cons_zero, List.set_cons_succ])
        (refine take_on 8 (some 113) (v := ?_) rfl rfl (by kernel_rfl) (by kernel_rfl) (by kernel_rfl) (fun _ _ _ h => h) (by rfl) (by assumption) ?_ ?_; rotate_left; · (intro w hSw; go_simp; (try with_reducible rfl)))
        (try simp only [Act.put, List.setIfInBounds_toArray, List.set_cons_zero, List.set_cons_succ])
        (refine take_on 9 (some 114) (v := ?_) rfl rfl (by kernel_rfl) (by kernel_rfl) (by kernel_rfl) (fun _ _ _ h => h) (by rfl) (by assumption) ?_ ?_; rotate_left; · (intro w hSw; go_simp; (try with_reducible rfl)))
        (try simp only [Act.put, List.setIfInBounds_toArray, List.set_cons_zero, List.set_cons_succ])
        (refine take_on 10 (some 115) (v := ?_) rfl rfl (by kernel_rfl) (by kernel_rfl) (by kernel_rfl) (fun _ _ _ h => h) (by rfl) (by assumption) ?_ ?_; rotate_left; · (intro w hSw; go_simp; (try with_reducible rfl)))
        (try simp only [Act.put, List.setIfInBounds_toArray, List.set_cons_zero, List.set_cons_succ])
        (refine take_on 11 (some 116) (v := ?_) rfl rfl (by kernel_rfl) (by kernel_rfl) (by kernel_rfl) (fun _ _ _ h => h) (by rfl) (by assumption) ?_ ?_; rotate_left; · (intro w hSw; go_simp; (try with_reducible rfl)))
        (try simp only [Act.put, List.setIfInBounds_toArray, List.set_cons_zero, List.set_cons_succ])
        (refine take_on 12 (some 117) (v := ?_) rfl rfl (by kernel_rfl) (by kernel_rfl) (by kernel_rfl) (fun _ _ _ h => h) (by rfl) (by assumption) ?_ ?_; rotate_left; · (intro w hSw; go_simp; (try with_reducible rfl)))
        (try simp only [Act.put, List.setIfInBounds_toArray, List.set_cons_zero, List.set_cons_succ])
        (refine take_on 13 (some 118) (v := ?_) rfl rfl (by kernel_rfl) (by kernel_rfl) (by kernel_rfl) (fun _ _ _ h => h) (by rfl) (by assumption) ?_ ?_; rotate_left; · (intro w hSw; (try dsimp only at hSw); obtain ⟨_, _, _, _, w4_⟩ := wdC_cells hSw.1; go_simp; (try with_reducible rfl)))
        (try simp only [Act.put, List.setIfInBounds_toArray, List.set_cons_zero, List.set_cons_succ])
        (refine take_on 14 (some 119) (v := ?_) rfl rfl (by kernel_rfl) (by kernel_rfl) (by kernel_rfl) (fun _ _ _ h => h) (by rfl) (by assumption) ?_ ?_; rotate_left; · (intro w hSw; go_simp; (try with_reducible rfl)))
        (try simp only [Act.put, List.setIfInBounds_toArray, List.set_cons_zero, List.set_cons_succ])
        (refine take_on 15 (some 120) (v := ?_) rfl rfl (by kernel_rfl) (by kernel_rfl) (by kernel_rfl) (fun _ _ _ h => h) (by rfl) (by assumption) ?_ ?_; rotate_left; · (intro w hSw; (try dsimp only at hSw); have k_ := hSw.2.cell 0; simp only [List.getElem?_toArray, List.getElem?_cons_zero] at k_; go_simp; (try with_reducible rfl)))
        (try simp only [Act.put, List.setIfInBounds_toArray, List.set_cons_zero, List.set_cons_succ])
        refine wpAnyH_ready (rs := [16]) (by kernel_rfl) (by simp) ?_; refine AllReadyH.cons (o := _) rfl (fun K hK => ?_) AllReadyH.nil
        go_simp
        (go_at_call 17; refine (cL2 HH).mono ?_; rintro e u1 ⟨rfl, rfl⟩)
        refine hK.out _ _ (by (try dsimp only); exact hHeld) (fun hHeld => ?_)
        clear hK K
        (try simp only [Act.put, List.setIfInBounds_toArray, List.set_cons_zero, List.set_cons_succ])
        (refine take_on 17 (some 122) (v := ?_) rfl rfl (by kernel_rfl) (by kernel_rfl) (by kernel_rfl) (fun _ _ _ h => h) (by rfl) (by assumption) ?_ ?_; rotate_left; · (intro w hSw; go_simp; (try with_reducible rfl)))
        (try simp only [Act.put, List.setIfInBounds_toArray, List.set_cons_zero, List.set_cons_succ])
        (refine take_on 18 (some 123) (v := ?_) rfl rfl (by kernel_rfl) (by kernel_rfl) (by kernel_rfl) (fun _ _ _ h => h) (by rfl) (by assumption) ?_ ?_; rotate_left; · (intro w hSw; go_simp; (try with_reducible rfl)))
        (try simp only [Act.put, List.setIfInBounds_toArray, List.set_cons_zero, List.set_cons_succ])
        (refine take_on 19 (some 124) (v := ?_) rfl rfl (by kernel_rfl) (by kernel_rfl) (by kernel_rfl) (fun _ _ _ h => h) (by rfl) (by assumption) ?_ ?_; rotate_left; · (intro w hSw; go_simp; (try with_reducible rfl)))
        (try simp only [Act.put, List.setIfInBounds_toArray, List.set_cons_zero, List.set_cons_succ])
        (refine take_on 20 (some 125) (v := ?_) rfl rfl (by kernel_rfl) (by kernel_rfl) (by kernel_rfl) (fun _ _ _ h => h) (by rfl) (by assumption) ?_ ?_; rotate_left; · (intro w hSw; go_simp; (try with_reducible rfl)))
        (try simp only [Act.put, List.setIfInBounds_toArray, List.set_cons_zero, List.set_cons_succ])
        (refine take_on 21 (some 126) (v := ?_) rfl rfl (by kernel_rfl) (by kernel_rfl) (by kernel_rfl) (fun _ _ _ h => h) (by rfl) (by assumption) ?_ ?_; rotate_left; · (intro w hSw; go_simp; (try with_reducible rfl)))
        (try simp only [Act.put, List.setIfInBounds_toArray, List.set_cons_zero, List.set_cons_succ])
        (refine take_on 22 (some 127) (v := ?_) rfl rfl (by kernel_rfl) (by kernel_rfl) (by kernel_rfl) (fun _ _ _ h => h) (by rfl) (by assumption) ?_ ?_; rotate_left; · (intro w hSw; (try dsimp only at hSw); obtain ⟨_, _, _, _, w4_⟩ := wdC_cells hSw.1; go_simp; (try with_reducible rfl)))
        (try simp only [Act.put, List.setIfInBounds_toArray, List.set_cons_zero, List.set_cons_succ])
        (refine take_on 23 (some 128) (v := ?_) rfl rfl (by kernel_rfl) (by kernel_rfl) (by kernel_rfl) (fun _ _ _ h => h) (by rfl) (by assumption) ?_ ?_; rotate_left; · (intro w hSw; go_simp; (try with_reducible rfl)))
        (try simp only [Act.put, List.setIfInBounds_toArray, List.set_cons_zero, List.set_cons_succ])
        (refine take_on 24 (some 129) (v := ?_) rfl rfl (by kernel_rfl) (by kernel_rfl) (by kernel_rfl) (fun _ _ _ h => h) (by rfl) (by assumption) ?_ ?_; rotate_left; · (intro w hSw; (try dsimp only at hSw); have k_ := hSw.2.cell 0; simp only [List.getElem?_toArray, List.getElem?_cons_zero] at k_; go_simp; (try with_reducible rfl)))
        (try simp only [Act.put, List.setIfInBounds_toArray, List.set_cons_zero, List.set_cons_succ])
        (refine take_on 26 (some 131) (v := ?_) rfl rfl (by kernel_rfl) (by kernel_rfl) (by kernel_rfl) (fun _ _ _ h => h) (by rfl) (by assumption) ?_ ?_; rotate_left; · (intro w hSw; go_simp; (try with_reducible rfl)))
        (try simp only [Act.put, List.setIfInBounds_toArray, List.set_cons_zero, List.set_cons_succ])
        (refine take_on 27 (some 132) (v := ?_) rfl rfl (by kernel_rfl) (by kernel_rfl) (by kernel_rfl) (fun _ _ _ h => h) (by rfl) (by assumption) ?_ ?_; rotate_left; · (intro w hSw; go_simp; (try with_reducible rfl)))
        (try simp only [Act.put, List.setIfInBounds_toArray, List.set_cons_zero, List.set_cons_succ])
        refine wpAnyH_ready (rs := [25]) (by kernel_rfl) (by simp) ?_; refine AllReadyH.cons (o := _) rfl (fun K hK => ?_) AllReadyH.nil
        go_simp
        (go_at_call 34; refine (cP2 HH).mono ?_; rintro e u2 ⟨rfl, H2⟩)
        refine hK.out _ _ (by (try dsimp only); exact ⟨(H2.pick 1 rfl).blk, (H2.pick 2 rfl).blk⟩) (fun hHeld => ?_)
        clear hK K
        (try simp only [Act.put, List.setIfInBounds_toArray, List.set_cons_zero, List.set_cons_succ])
        (refine take_on 28 (some 133) (v := ?_) rfl rfl (by kernel_rfl) (by kernel_rfl) (by kernel_rfl) (fun _ _ _ h => h) (by rfl) (by assumption) ?_ ?_; rotate_left; · (intro w hSw; go_simp; (try with_reducible rfl)))
        (try simp only [Act.put, List.setIfInBounds_toArray, List.set_cons_zero, List.set_cons_succ])
        (refine take_on 29 (some 134) (v := ?_) rfl rfl (by kernel_rfl) (by kernel_rfl) (by kernel_rfl) (fun _ _ _ h => h) (by rfl) (by assumption) ?_ ?_; rotate_left; · (intro w hSw; go_simp; (try with_reducible rfl)))
        (try simp only [Act.put, List.setIfInBounds_toArray, List.set_cons_zero, List.set_cons_succ])
        (refine take_on 30 (some 135) (v := ?_) rfl rfl (by kernel_rfl) (by kernel_rfl) (by kernel_rfl) (fun _ _ _ h => h) (by rfl) (by assumption) ?_ ?_; rotate_left; · (intro w hSw; go_simp; (try with_reducible rfl)))
        (try simp only [Act.put, List.setIfInBounds_toArray, List.set_cons_zero, List.set_cons_succ])
        refine wpAnyH_done (by kernel_rfl) ?_ _
        refine NoPanic.normal ?_
        clear H HH hb1 hw2
        clear cL2 cP2
        have H := H2
        obtain ⟨w0_, w1_, w2_, w3_, w4_⟩ := wdC_cells (H.pick 1 rfl).blk
        go_wp2_with fail
        refine (cD2 H).mono ?_; rintro e z14 ⟨rfl, H_⟩
        clear cD2 H w0_ w1_ w2_ w3_ w4_
        have H := H_
        clear H_
        obtain ⟨w0_, w1_, w2_, w3_, w4_⟩ := wdC_cells (H.pick 1 rfl).blk
        go_wp2_with fail
        refine (cM2 H).mono ?_; rintro e z15 ⟨rfl, y_⟩
        clear cM2 w0_ w1_ w2_ w3_ w4_
        replace H := H.new y_
        clear y_
        have hw1 : (((N7 - 1 : Nat) : Int) == (N7 : Int) - 1) = true := by simp; omega
        obtain ⟨w0_, w1_, w2_, w3_, w4_⟩ := wdC_cells (H.pick 1 rfl).blk
        go_wp2_with fail
        refine (cA2 H).mono ?_; rintro e z16 ⟨A8, c8, rfl, H_⟩
        go_wp2_with fail
        go_ret
        exact ⟨rfl, H_.1⟩
      · have hrb : (kr == 0) = false := by simpa using hr
        replace hr := Lib.hid hr
        clear hlo hlc hpr
        refine wp_region_noPanic ?_
        refine wp_region_held_drew (S := (fun w' => Blk w' wb 43 (wdC hp gq q t dd) ∧ Blk w' kb 25 #[.int .i64 kg, .int .i64 kl, .int .i64 kr])) (by kernel_rfl) ?_ (fun hHeld => ?_)
        · exact ⟨(HH.pick 1 rfl).blk, (HH.pick 2 rfl).blk⟩
        (refine take_on 0 (some 105) (v := ?_) rfl rfl (by kernel_rfl) (by kernel_rfl) (by kernel_rfl) (fun _ _ _ h => h) (by rfl) (by assumption) ?_ ?_; rotate_left; · (intro w hSw; go_simp; (try with_reducible rfl)))
        (try simp only [Act.put, List.setIfInBounds_toArray, List.set_cons_zero, List.set_cons_succ])
        (refine take_on 1 (some 106) (v := ?_) rfl rfl (by kernel_rfl) (by kernel_rfl) (by kernel_rfl) (fun _ _ _ h => h) (by rfl) (by assumption) ?_ ?_; rotate_left; · (intro w hSw; (try dsimp only at hSw); have k_ := hSw.2.cell 2; simp only [List.getElem?_toArray, List.getElem?_cons_zero, List.getElem?_cons_succ] at k_; go_simp; (try with_reducible rfl)))
        (try simp only [Act.put, List.setIfInBounds_toArray, List.set_cons_zero, List.set_cons_succ])
        (refine take_on 2 (some 107) (v := ?_) rfl rfl (by kernel_rfl) (by kernel_rfl) (by kernel_rfl) (fun _ _ _ h => h) (by rfl) (by assumption) ?_ ?_; rotate_left; · (intro w hSw; go_simp; (try with_reducible rfl)))
        (try simp only [Act.put, List.setIfInBounds_toArray, List.set_cons_zero, List.set_cons_succ])
        (refine take_on 3 (some 108) (v := ?_) rfl rfl (by kernel_rfl) (by kernel_rfl) (by kernel_rfl) (fun _ _ _ h => h) (by rfl) (by assumption) ?_ ?_; rotate_left; · (intro w hSw; go_simp; (try with_reducible rfl)))
        (try simp only [Act.put, List.setIfInBounds_toArray, List.set_cons_zero, List.set_cons_succ])
        (refine take_off 4 (some 109) rfl rfl (by kernel_rfl) (by kernel_rfl) (by kernel_rfl) (fun _ _ _ h => h) (by rfl) (by assumption) ?_)
        (try simp only [Act.put, List.setIfInBounds_toArray, List.set_cons_zero, List.set_cons_succ])
        (refine take_off 5 (some 110) rfl rfl (by kernel_rfl) (by kernel_rfl) (by kernel_rfl) (fun _ _ _ h => h) (by rfl) (by assumption) ?_)
        (try simp only [Act.put, List.setIfInBounds_toArray, List.set_cons_zero, List.set_cons_succ])
        (refine take_off 6 (some 111) rfl rfl (by kernel_rfl) (by kernel_rfl) (by kernel_rfl) (fun _ _ _ h => h) (by rfl) (by assumption) ?_)
        (try simp only [Act.put, List.setIfInBounds_toArray, List.set_cons_zero, List.set_cons_succ])
        (refine take_off 7 (some 112) rfl rfl (by kernel_rfl) (by kernel_rfl) (by kernel_rfl) (fun _ _ _ h => h) (by rfl) (by assumption) ?_)
        (try simp only [Act.put, List.setIfInBounds_toArray, List.set_cons_zero, List.set_cons_succ])
        (refine take_off 8 (some 113) rfl rfl (by kernel_rfl) (by kernel_rfl) (by kernel_rfl) (fun _ _ _ h => h) (by rfl) (by assumption) ?_)
        (try simp only [Act.put, List.setIfInBounds_toArray, List.set_cons_zero, List.set_cons_succ])
        (refine take_off 9 (some 114) rfl rfl (by kernel_rfl) (by kernel_rfl) (by kernel_rfl) (fun _ _ _ h => h) (by rfl) (by assumption) ?_)
        (try simp only [Act.put, List.setIfInBounds_toArray, List.set_cons_zero, List.set_cons_succ])
        (refine take_off 10 (some 115) rfl rfl (by kernel_rfl) (by kernel_rfl) (by kernel_rfl) (fun _ _ _ h => h) (by rfl) (by assumption) ?_)
        (try simp only [Act.put, List.setIfInBounds_toArray, List.set_cons_zero, List.set_cons_succ])
        (refine take_off 11 (some 116) rfl rfl (by kernel_rfl) (by kernel_rfl) (by kernel_rfl) (fun _ _ _ h => h) (by rfl) (by assumption) ?_)
        (try simp only [Act.put, List.setIfInBounds_toArray, List.set_cons_zero, List.set_cons_succ])
        (refine take_off 12 (some 117) rfl rfl (by kernel_rfl) (by kernel_rfl) (by kernel_rfl) (fun _ _ _ h => h) (by rfl) (by assumption) ?_)
        (try simp only [Act.put, List.setIfInBounds_toArray, List.set_cons_zero, List.set_cons_succ])
        (refine take_off 13 (some 118) rfl rfl (by kernel_rfl) (by kernel_rfl) (by kernel_rfl) (fun _ _ _ h => h) (by rfl) (by assumption) ?_)
        (try simp only [Act.put, List.setIfInBounds_toArray, List.set_cons_zero, List.set_cons_succ])
        (refine take_off 14 (some 119) rfl rfl (by kernel_rfl) (by kernel_rfl) (by kernel_rfl) (fun _ _ _ h => h) (by rfl) (by assumption) ?_)
        (try simp only [Act.put, List.setIfInBounds_toArray, List.set_cons_zero, List.set_cons_succ])
        (refine take_off 15 (some 120) rfl rfl (by kernel_rfl) (by kernel_rfl) (by kernel_rfl) (fun _ _ _ h => h) (by rfl) (by assumption) ?_)
        (try simp only [Act.put, List.setIfInBounds_toArray, List.set_cons_zero, List.set_cons_succ])
        (refine take_off 16 (some 121) rfl rfl (by kernel_rfl) (by kernel_rfl) (by kernel_rfl) (fun _ _ _ h => h) (by rfl) (by assumption) ?_)
        (try simp only [Act.put, List.setIfInBounds_toArray, List.set_cons_zero, List.set_cons_succ])
        (refine take_off 17 (some 122) rfl rfl (by kernel_rfl) (by kernel_rfl) (by kernel_rfl) (fun _ _ _ h => h) (by rfl) (by assumption) ?_)
        (try simp only [Act.put, List.setIfInBounds_toArray, List.set_cons_zero, List.set_cons_succ])
        (refine take_off 18 (some 123) rfl rfl (by kernel_rfl) (by kernel_rfl) (by kernel_rfl) (fun _ _ _ h => h) (by rfl) (by assumption) ?_)
        (try simp only [Act.put, List.setIfInBounds_toArray, List.set_cons_zero, List.set_cons_succ])
        (refine take_off 19 (some 124) rfl rfl (by kernel_rfl) (by kernel_rfl) (by kernel_rfl) (fun _ _ _ h => h) (by rfl) (by assumption) ?_)
        (try simp only [Act.put, List.setIfInBounds_toArray, List.set_cons_zero, List.set_cons_succ])
        (refine take_off 20 (some 125) rfl rfl (by kernel_rfl) (by kernel_rfl) (by kernel_rfl) (fun _ _ _ h => h) (by rfl) (by assumption) ?_)
        (try simp only [Act.put, List.setIfInBounds_toArray, List.set_cons_zero, List.set_cons_succ])
        (refine take_off 21 (some 126) rfl rfl (by kernel_rfl) (by kernel_rfl) (by kernel_rfl) (fun _ _ _ h => h) (by rfl) (by assumption) ?_)
        (try simp only [Act.put, List.setIfInBounds_toArray, List.set_cons_zero, List.set_cons_succ])
        (refine take_off 22 (some 127) rfl rfl (by kernel_rfl) (by kernel_rfl) (by kernel_rfl) (fun _ _ _ h => h) (by rfl) (by assumption) ?_)
        (try simp only [Act.put, List.setIfInBounds_toArray, List.set_cons_zero, List.set_cons_succ])
        (refine take_off 23 (some 128) rfl rfl (by kernel_rfl) (by kernel_rfl) (by kernel_rfl) (fun _ _ _ h => h) (by rfl) (by assumption) ?_)
        (try simp only [Act.put, List.setIfInBounds_toArray, List.set_cons_zero, List.set_cons_succ])
        (refine take_off 24 (some 129) rfl rfl (by kernel_rfl) (by kernel_rfl) (by kernel_rfl) (fun _ _ _ h => h) (by rfl) (by assumption) ?_)
        (try simp only [Act.put, List.setIfInBounds_toArray, List.set_cons_zero, List.set_cons_succ])
        (refine take_off 25 (some 130) rfl rfl (by kernel_rfl) (by kernel_rfl) (by kernel_rfl) (fun _ _ _ h => h) (by rfl) (by assumption) ?_)
        (try simp only [Act.put, List.setIfInBounds_toArray, List.set_cons_zero, List.set_cons_succ])
        (refine take_off 26 (some 131) rfl rfl (by kernel_rfl) (by kernel_rfl) (by kernel_rfl) (fun _ _ _ h => h) (by rfl) (by assumption) ?_)
        (try simp only [Act.put, List.setIfInBounds_toArray, List.set_cons_zero, List.set_cons_succ])
        (refine take_off 27 (some 132) rfl rfl (by kernel_rfl) (by kernel_rfl) (by kernel_rfl) (fun _ _ _ h => h) (by rfl) (by assumption) ?_)
        (try simp only [Act.put, List.setIfInBounds_toArray, List.set_cons_zero, List.set_cons_succ])
        (refine take_off 28 (some 133) rfl rfl (by kernel_rfl) (by kernel_rfl) (by kernel_rfl) (fun _ _ _ h => h) (by rfl) (by assumption) ?_)
        (try simp only [Act.put, List.setIfInBounds_toArray, List.set_cons_zero, List.set_cons_succ])
        (refine take_off 29 (some 134) rfl rfl (by kernel_rfl) (by kernel_rfl) (by kernel_rfl) (fun _ _ _ h => h) (by rfl) (by assumption) ?_)
        (try simp only [Act.put, List.setIfInBounds_toArray, List.set_cons_zero, List.set_cons_succ])
        (refine take_on 30 (some 135) (v := ?_) rfl rfl (by kernel_rfl) (by kernel_rfl) (by kernel_rfl) (fun _ _ _ h => h) (by rfl) (by assumption) ?_ ?_; rotate_left; · (intro w hSw; go_simp; (try with_reducible rfl)))
        (try simp only [Act.put, List.setIfInBounds_toArray, List.set_cons_zero, List.set_cons_succ])
        refine wpAnyH_done (by kernel_rfl) ?_ _
        refine NoPanic.normal ?_
        clear H
        clear cL2 cP2
        have H := HH
        obtain ⟨w0_, w1_, w2_, w3_, w4_⟩ := wdC_cells (H.pick 1 rfl).blk
        go_wp2_with fail
        refine (cD2 H).mono ?_; rintro e z14 ⟨rfl, H_⟩
        clear cD2 H w0_ w1_ w2_ w3_ w4_
        have H := H_
        clear H_
        obtain ⟨w0_, w1_, w2_, w3_, w4_⟩ := wdC_cells (H.pick 1 rfl).blk
        go_wp2_with fail
        refine (cM2 H).mono ?_; rintro e z15 ⟨rfl, y_⟩
        clear cM2 w0_ w1_ w2_ w3_ w4_
        replace H := H.new y_
        clear y_
        have hw1 : (((N7 - 1 : Nat) : Int) == (N7 : Int) - 1) = true := by simp; omega
        obtain ⟨w0_, w1_, w2_, w3_, w4_⟩ := wdC_cells (H.pick 1 rfl).blk
        go_wp2_with fail
        refine (cA2 H).mono ?_; rintro e z16 ⟨A8, c8, rfl, H_⟩
        go_wp2_with fail
        go_ret
        exact ⟨rfl, H_.1⟩

theorem GuardDrops_walk (A : Option Addr) (n c : Nat) (P : List Pu) (B : Option Addr) (m e0 : Nat) (L : List Gst) (at_ : Int) (w : World) (hP : SlP w A n P) (hl : GopsIn w B m L) (hat : 0 ≤ at_ ∧ at_ ≤ 255) :
    Calls Try.prog 9 #[.slice A n c, .slice B m e0, .int .u8 at_] w fun e w' => e = .returned (.bool true) ∧ Chg [] w w' := by
  obtain ⟨k, rfl⟩ := Int.eq_ofNat_of_zero_le hat.1
  exact lawGuardDrops_any A n c P B m e0 L k w hP hl (by omega)

end Go.Proofs.Ytgjfidjhbkaobaa
