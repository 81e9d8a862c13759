/-
  GuestMaps: the walk.
-/
import Derived.Test.YtepbknndemlbcaaLawGuestSets
namespace Go.Proofs.Ytepbknndemlbcaa
open Go.RowKit Go.Maps

theorem drop_rev_snoc (L : List Int) (k : Nat) (hk : k < L.length) : (L.drop k).reverse = (L.drop (k + 1)).reverse ++ [L.getD k 0] := by
  rw [List.drop_eq_getElem_cons hk, List.reverse_cons]
  simp [List.getD_eq_getElem?_getD, List.getElem?_eq_getElem hk]
theorem rev_getD (L : List Int) (k : Nat) (hk : k < L.length) : L.reverse.getD (L.length - 1 - k) 0 = L.getD k 0 := by
  simp only [List.getD_eq_getElem?_getD]
  rw [List.getElem?_reverse (by omega), show L.length - 1 - (L.length - 1 - k) = k by omega]

set_option maxRecDepth 100000 in
set_option maxHeartbeats 8000000 in
theorem GuestMaps_walk (A : Option Addr) (n c : Nat) (L : List Int) (B : Option Addr) (m d : Nat) (w : World) (h : SlK .i64 w A n L) (hop : SlOp w B m) :
    Calls Try.prog 8 #[.slice A n c, .slice B m d] w fun e w' => e = .returned (.bool true) ∧ Chg [] w w' := by
  have hl := h.le
  have hlen := h.len
  have hm := hop.le
  have hwf := h.wf
  have HWF := Lib.hid hwf
  clear hwf
  obtain ⟨i0, hi0, hz0, hz1, hz2⟩ := info_parts int_info
  by_cases hbig : 900 ≤ n
  · have hno : ¬ OkL L 40 := fun hh => by have := hh.2.1; omega
    have hbg : ¬ (n : Int) < 900 := by omega
    go_enter Try.func8, Try.ntmps8
    go_wp2_with fail
    refine (Guhead_any _).mono ?_; rintro e w1 ⟨rfl, hc1⟩
    go_wp2_with fail
    refine (New_at 40 _ (by omega) (by omega)).mono ?_; rintro e w2 ⟨hp, b, rfl, hc2, hm2, hh, hb⟩
    have hca : Chg [] w w2 := hc1.trans hc2 (by simp)
    clear hc1 hc2 hh hb hm2
    go_wp2_with fail
    go_loopw [7, 8] (fun v i w' => v = .slice none 0 0 ∧ (∃ j : Int, 0 ≤ j ∧ j < n ∧ i = .int .i64 j) ∧ w' = w2) (fun _ i _ => 0)
    case atStart => exact ⟨rfl, ⟨_, by omega, by omega, rfl⟩, rfl⟩
    case round =>
      obtain ⟨rfl, ⟨j, hj0, hj, rfl⟩, rfl⟩ := hrel
      go_wp2_with fail
      refine (GNew_no A n c L 40 _ (h.chg hca) hno).mono ?_; rintro e w3 ⟨rfl, hc3⟩
      go_wp2_with fail
      refine (GNew_no none 0 0 [] 40 _ (slk0 .i64 _) (fun h => absurd h.1 (by decide))).mono ?_; rintro e w4 ⟨rfl, hc4⟩
      go_wp2_with fail
      go_ret
      exact ⟨rfl, (hca.trans hc3 (by simp)).trans hc4 (by simp)⟩
  · go_enter Try.func8, Try.ntmps8
    go_wp2_with fail
    refine (Guhead_any _).mono ?_; rintro e w1 ⟨rfl, hc1⟩
    go_wp2_with fail
    refine (New_at 40 _ (by omega) (by omega)).mono ?_; rintro e w2 ⟨hp, b, rfl, hc2, hm2, hh, hb⟩
    have hca : Chg [] w w2 := hc1.trans hc2 (by simp)
    have hbw : w.heap.size ≤ b := by have := hc1.size; omega
    clear hc1 hc2 hh hb
    go_wp2_with fail
    go_loopw [7, 8] (fun v i w' => ∃ (j : Int) (k : Nat), (j + 1 ≤ k ∧ k ≤ j + 1) ∧ k ≤ n ∧ i = .int .i64 j ∧ Chg [] w w' ∧ OwnI w' 3 .i64 v (L.drop k).reverse ∧ (∀ g ∈ v.ownBlock.toList, w2.heap.size ≤ g) ∧ Chg [] w2 w') (fun _ i _ => (intOf i + 1).toNat)
    case atStart => exact ⟨_, n, by omega, by omega, rfl, hca, by rw [← hlen, List.drop_length]; exact OwnI.none_ _ _ _, by simp [Value.ownBlock], Chg.refl _ _⟩
    case round =>
      have hca0 := hca
      clear hca
      obtain ⟨j, k, hj, hk, rfl, hc, ho, hg, hcm⟩ := hrel
      obtain ⟨Av, cv, rfl⟩ := ho.form
      have hlv : (L.drop k).reverse.length = n - k := by rw [List.length_reverse, List.length_drop, hlen]
      rw [hlv] at ho hg ⊢
      cases k with
      | zero =>
        have hj0 : j < 0 := by omega
        rw [Nat.sub_zero] at ho hg ⊢
        rw [List.drop_zero] at ho
        clear hlv
        have hslB : SlK .i64 wr Av n L.reverse := OwnI.slk ho (fun x hx => HWF.out x (by simpa using hx)) (by rw [List.length_reverse]; omega)
        have hmr := hm2.chg hcm (by simp) (by simp)
        clear ho hg hcm hm2
        by_cases hok : OkL L 40
        · have hn64 : n ≤ 64 := hlen ▸ hok.2.1
          go_wp2_with fail
          refine (GNew_ok A n c L 40 _ (h.chg hc) hok).mono ?_; rintro e w3 ⟨p, S, rfl, hc3, h3, _⟩
          have hcb : Chg [] w w3 := hc.trans hc3 (by simp)
          go_wp2_with fail
          refine (GNew_ok Av n cv L.reverse 40 _ (hslB.chg hc3) hok.rev).mono ?_; rintro e w4 ⟨p', S', rfl, hc4, h4, _⟩
          have hcc : Chg [] w w4 := hcb.trans hc4 (by simp)
          have h3' := h3.self hc4
          have hm4 := (hmr.chg hc3 (by simp) (by simp)).chg hc4 (by simp) (by simp)
          have hop4 := hop.chg hcc
          clear hc hc3 hcb h3 hc4 hmr hslB
          go_wp2_with fail
          refine (Great7_any B m d _ hop4).mono ?_; rintro e w' ⟨⟨gr, rfl⟩, rfl⟩
          clear hop4
          cases gr with
          | true =>
            go_wp2_with fail
            go_ret
            exact ⟨rfl, hcc⟩
          | false =>
            go_wp2_with fail
            refine (GuNew_at p hp _).mono ?_; rintro e w5 ⟨q, rfl, hc5, h5, hq⟩
            have hcd : Chg [] w w5 := hcc.trans hc5 (by simp)
            have h35 := h3'.self hc5
            have h45 := h4.self hc5
            have hm5 := hm4.chg hc5 (by simp) (by simp)
            clear hcc hc5 h3' h4 hm4 hq
            go_wp2_with fail
            refine (GuNew_at p' hp _).mono ?_; rintro e w6 ⟨q', rfl, hc6, h6, hq⟩
            have hce : Chg [] w w6 := hcd.trans hc6 (by simp)
            have hm6 := hm5.chg hc6 (by simp) (by simp)
            have g6 : GuIn w6 q S p L hp b 40 (zeros (8 * 40)) := ⟨hc6.blk h5 (by simp), h35.self hc6, hm6, hok.inh⟩
            have g6' : GuIn w6 q' S' p' L.reverse hp b 40 (zeros (8 * 40)) := ⟨h6, h45.self hc6, hm6, hok.rev.inh⟩
            clear hcd hc6 hm5 hm6 h5 h6 h35 h45 hq
            generalize zeros (8 * 40) = W at *
            go_wp2_with fail
            go_loopw [13] (fun i w' => ∃ (k : Nat) (W : List Int), k ≤ m ∧ i = .int .i64 k ∧ Chg [] w w' ∧ GuIn w' q S p L hp b 40 W ∧ GuIn w' q' S' p' L.reverse hp b 40 W) (fun i _ => m - (intOf i).toNat)
            case atStart => exact ⟨0, W, by omega, rfl, hce, g6, g6'⟩
            case round =>
              clear hce g6 g6' W hj hk
              obtain ⟨k, W, hk, rfl, hc, g, g'⟩ := hrel
              by_cases hlt : k < m
              · obtain ⟨ob, off, rfl, what, f, i, x, LA, LN, LC, xs, ho⟩ := (hop.chg hc).get hlt
                have c1 := ho.c1; have c2 := ho.c2; have c3 := ho.c3
                clear ho
                have hset := GuSet_at q S p L hp b 40 W f i x wr.drew (g.self (Chg.refl [] wr).drew)
                go_wp2_with fail
                refine wp_region_still_tail 16 (by kernel_rfl) (by kernel_rfl) ?_
                simp only [List.take_succ_cons, List.take_zero, List.drop_succ_cons, List.drop_zero]
                change wpStill _ _ (World.drew _) _ _ _
                iterate 16 still_step
                refine wpStill_nil ?_
                change wpList _ _ _ _ _ (World.drew wr)
                go_wp2_with fail
                refine hset.mono ?_; rintro e w3 ⟨rfl, hc3, g3⟩
                clear hset c1 c2 c3
                have hcw : Chg [] w w3 := ((hc.trans (Chg.refl [] wr).drew (by simp)).trans hc3 (by intro i hi hm; simp at hm; omega))
                have g3' := (g'.self (Chg.refl [] wr).drew).write hc3 g3.hm
                go_wp2_with fail
                go_roundw
                case rel => exact ⟨k + 1, _, by omega, by go_num, hcw, g3, g3'⟩
                case measure => simp [intOf]; omega
              · obtain rfl : k = m := by omega
                clear hlt hk
                go_wp2_with fail
                go_loopw [14] (fun i w' => ∃ (a : Nat), a ≤ n ∧ i = .int .i64 a ∧ w' = wr) (fun i _ => n - (intOf i).toNat)
                case atStart => exact ⟨0, by omega, rfl, rfl⟩
                case round =>
                  obtain ⟨a, ha, rfl, rfl⟩ := hrel
                  by_cases hlt : a < n
                  · go_wp2_with fail
                    go_loopw [15] (fun i w' => ∃ (i' : Nat), i' ≤ 8 ∧ i = .int .i64 i' ∧ w' = wr) (fun i _ => 8 - (intOf i).toNat)
                    case atStart => exact ⟨0, by omega, rfl, rfl⟩
                    case round =>
                      obtain ⟨i', hi', rfl, rfl⟩ := hrel
                      by_cases hlt8 : i' < 8
                      · have hal : a < L.length := by omega
                        have hget := GuGet_is q S p L hp b 40 W a i' (W.getD (posG L (8 * a + i')) 0) true _ g (getG_nat hok.inh hal hlt8) (by rw [hasG_nat hok.inh]; simp; omega)
                        have hget' := GuGet_is q' S' p' L.reverse hp b 40 W ((n - 1 - a : Nat) : Int) i' (W.getD (posG L (8 * a + i')) 0) true _ g'
                          (by
                            rw [getG_nat hok.rev.inh (by rw [List.length_reverse]; omega) hlt8]
                            congr 1
                            unfold posG
                            rw [show (8 * (n - 1 - a) + i') / 8 = L.length - 1 - a by omega, show (8 * (n - 1 - a) + i') % 8 = i' by omega, show (8 * a + i') / 8 = a by omega, show (8 * a + i') % 8 = i' by omega, rev_getD L a hal])
                          (by rw [hasG_nat hok.rev.inh, List.length_reverse]; simp; omega)
                        have hne : (W.getD (posG L (8 * a + i')) 0 != W.getD (posG L (8 * a + i')) 0) = false := by simp
                        generalize W.getD (posG L (8 * a + i')) 0 = x at *
                        rw [show ((n - 1 - a : Nat) : Int) = (n : Int) - 1 - a by omega] at hget'
                        clear hal
                        go_wp2_with fail
                        refine hget.mono ?_; rintro e w' ⟨rfl, rfl⟩
                        go_wp2_with fail
                        refine hget'.mono ?_; rintro e w' ⟨rfl, rfl⟩
                        clear hget hget'
                        go_wp2_with fail
                        go_roundw
                        case rel => exact ⟨i' + 1, by omega, by go_num, trivial⟩
                        case measure => simp [intOf]; omega
                      · obtain rfl : i' = 8 := by omega
                        go_wp2_with fail
                        go_roundw
                        case rel => exact ⟨a + 1, by omega, by go_num, trivial⟩
                        case measure => simp [intOf]; omega
                  · go_wp2_with fail
                    refine (GuFrames_at q S p L hp b 40 _ _ g).mono ?_; rintro e w' ⟨rfl, rfl⟩
                    go_wp2_with fail
                    refine (GuFrames_at q' S' p' L.reverse hp b 40 _ _ g').mono ?_; rintro e w' ⟨rfl, rfl⟩
                    rw [List.length_reverse]
                    have hee : ((L.length : Int) == (L.length : Int)) = true := by simp
                    go_wp2_with fail
                    go_ret
                    exact ⟨rfl, hc⟩
        · go_wp2_with fail
          refine (GNew_no A n c L 40 _ (h.chg hc) hok).mono ?_; rintro e w3 ⟨rfl, hc3⟩
          have hcb : Chg [] w w3 := hc.trans hc3 (by simp)
          go_wp2_with fail
          refine (GNew_no Av n cv L.reverse 40 _ (hslB.chg hc3) (fun h => hok (OkL.rev_iff.1 h))).mono ?_; rintro e w4 ⟨rfl, hc4⟩
          go_wp2_with fail
          go_ret
          exact ⟨rfl, hcb.trans hc4 (by simp)⟩
      | succ k =>
        have hj0 : 0 ≤ j := by omega
        obtain rfl : j = (k : Int) := by omega
        have hkl : k < L.length := by omega
        obtain ⟨bb, off, rfl, hb, dd, _⟩ := (h.chg hc).get (show k < n by omega)
        have hX := drop_rev_snoc L k hkl
        generalize L.getD k 0 = x at *
        have HX := Lib.hid hX
        have ho' : wr.ownsRow 0 3 1 (.slice Av (n - (k + 1)) cv) (n - (k + 1)) (vals .i64 (L.drop (k + 1)).reverse) := by
          have := ho
          unfold OwnI at this
          rw [hlv] at this
          exact this
        clear hX ho hlv
        go_wp2_with (at_builtin
                     refine wpList_append_src rfl _ _ 22 rfl 0 3 i0 _ 1 8 Try.underlying22 hi0 hz0 hz1 hz2 rfl (by omega) (.slice Av (n - (k + 1)) cv) _ _ rfl (World.ownsRow.alloc ho' _) (some ⟨wr.heap.size, 0, none⟩) 1 1 [.int .i64 x] rfl ⟨by simp, by simp [Value.oneCell'], by simp, cell_src _ wr⟩ (by simp [maxLen]; omega) (by omega) (by simp) ?_
                     intro v3 w3 hown3 hc3 hv3
                     obtain ⟨A3, k3, rfl, _, _⟩ := own_form hown3)
        go_roundw
        case rel =>
          refine ⟨_, k, by omega, by omega, rfl, (hc.alloc _).trans hc3 (by intro i hi hm; have := hg i hm; have := hca0.size; omega), ?_, ?_, (hcm.alloc _).trans hc3 (by intro i hi hm; have := hg i hm; omega)⟩
          · rw [HX.out]
            unfold OwnI
            rw [vals_app, vals_one, List.length_append, List.length_reverse, List.length_drop, hlen]
            exact hown3
          · intro i hi
            rcases hv3 with e | e
            · rw [e] at hi; exact hg i hi
            · rw [e] at hi; simp at hi; have := hcm.size; omega
        case measure => simp [intOf]

end Go.Proofs.Ytepbknndemlbcaa
