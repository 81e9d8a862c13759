/-
  ChoiceTells: the walk.
-/
import Derived.Test.YtgebfagiomcmbaaGreatDoorChoiceHeadK
import Derived.Test.YtgebfagiomcmbaaGreatDoorSepRK
import Derived.Test.YtgebfagiomcmbaaGreatDoorChoiceRAK
import Derived.Test.YtgebfagiomcmbaaGreatDoorChoiceRGK
import Derived.Test.YtgebfagiomcmbaaGreatDoorPlainNK
import Derived.Test.YtgebfagiomcmbaaGreatDoorHoldK
namespace Go.Proofs.YtgebfagiomcmbaaGreatDoor
open Go.RowKit Go.Shelf Go.Maps

/-- only the accesses of these -/
def acc4 (l : List OpM) : List OpM := l.filter fun o => decide (o.what < 4)
theorem acc4_succ {s : Ms} {l : List OpM} {k : Nat} {o : OpM} (ho : l[k]? = some o) : accsM 16 L16 s (acc4 (l.take (k + 1))) = if o.what < 4 then (accM 16 L16 (accsM 16 L16 s (acc4 (l.take k))) o.kind o.user o.a o.v).1 else accsM 16 L16 s (acc4 (l.take k)) := by
  have hk := (List.getElem?_eq_some_iff.1 ho).1
  have he := (List.getElem?_eq_some_iff.1 ho).2
  unfold acc4
  rw [List.take_succ_eq_append_getElem hk, he, List.filter_append]
  by_cases h : o.what < 4 <;> simp [h, accsM, List.foldl_append]
set_option maxRecDepth 100000 in
set_option maxHeartbeats 16000000 in
theorem ChoiceTells_walk (A : Option Addr) (ml c : Nat) (l : List Pu) (B : Option Addr) (no d : Nat) (ops : List OpM) (C : Option Addr) (nc e : Nat) (lc : List Ch) (D : Option Addr) (nb f : Nat) (b8 : List Int) (w : World) (h : SlP w A ml l) (ho : SlM w B no ops) (hC : SlG chE w C nc lc) (hD : SlG (numE .u8) w D nb b8) (hwf : ∀ x ∈ b8, 0 ≤ x ∧ x < 256) (hE : ErrIn w) :
    Calls Tryz.prog 3 #[.slice A ml c, .slice B no d, .slice C nc e, .slice D nb f] w fun e w' => e = .returned (.bool true) ∧ Chg [] w w' := by
  have hwd := (made_wd l h.wf).1
  have hle := h.le
  have hlo := ho.le
  have hlc := hC.le
  have hlb := hD.le
  go_enter Tryz.func3, Tryz.ntmps3
  go_wp2_with fail
  refine (Chhead_any _ hE).mono ?_; rintro e w1 ⟨rfl, k1⟩
  go_wp2_with fail
  refine (MadeN_at A ml c l _ (h.self k1)).mono ?_; rintro e w2 ⟨q, S, p, hh, b, rfl, k2, g2, hb⟩
  have H : SepC w w2 [gueT q S p L16 hh b 16 (madeW l)] := SepC.lay (SepC.new (SepC.nil w) k1) k2 ⟨rfl, g2⟩ hb
  clear g2 hb k1 k2
  by_cases hbigml : (ml : Int) > 600
  · go_wp2_with fail
    go_ret
    exact ⟨rfl, H.1⟩
  · by_cases hbigno : (no : Int) > 200
    · go_wp2_with fail
      go_ret
      exact ⟨rfl, H.1⟩
    · by_cases hbignc : (nc : Int) > 900
      · go_wp2_with fail
        go_ret
        exact ⟨rfl, H.1⟩
      · by_cases hbignb : (nb : Int) > 2000
        · go_wp2_with fail
          go_ret
          exact ⟨rfl, H.1⟩
        · go_wp2_with fail
          refine (PlainN_at A ml c l _ (h.self H.1)).mono ?_; rintro e w3 ⟨q', S', p', hh', b', rfl, k3, g3, hb3⟩
          replace H : SepC w w3 [rgueT q' S' p' L16 hh' b' 16 (madeW l), gueT q S p L16 hh b 16 (madeW l)] := H.lay k3 ⟨rfl, g3⟩ hb3
          clear k3 g3 hb3
          generalize madeW l = W at *
          clear h
          have hs0 : ∃ s0 : Ms, s0 = ⟨W, 1, []⟩ := ⟨_, rfl⟩
          obtain ⟨s0, hs0⟩ := hs0
          replace hs0 := Lib.hid hs0
          go_wp2_with fail
          refine (SepC.newMod 1 hE hwd H.swap).mono ?_; rintro e w4 ⟨m, t, rfl, H1⟩
          clear H
          replace H1 := H1.swap
          go_wp2_with fail
          refine (SepC.rnewMod 1 hwd H1).mono ?_; rintro e w5 ⟨m', t', rfl, H⟩
          clear H1
          replace H := H.swap
          rw [← hs0.out] at H
          go_wp2_with fail
          go_loopg [14] no (fun gg s14 wr => ∃ k : Nat, k ≤ no ∧ no - k ≤ gg ∧ s14 = .int .i64 k ∧ Aside (SepC w wr [modT w m t q S p L16 hh b 16 (accsM 16 L16 s0 (acc4 (ops.take k))), rmodT w m' t' q' S' p' L16 hh' b' 16 (accsM 16 L16 s0 (acc4 (ops.take k)))]))
          case atStart => exact ⟨0, by omega, by omega, rfl, H⟩
          case round =>
            clear H
            obtain ⟨k, hk, hg, rfl, H⟩ := hrel
            replace H := H.out
            by_cases hlt : k < no
            · obtain ⟨ob, off, o, rfl, hbl, hok, how, hcw⟩ := ho.get hlt
              have hc := hcw.chg H.1 hbl (by simp)
              obtain ⟨c0, c1, c2, c3, c4, c5, c6, c7⟩ := hc
              have hsn := Lib.hid (acc4_succ (s := s0) hok)
              generalize accsM 16 L16 s0 (acc4 (ops.take k)) = s1 at *
              have hv := how
              clear hok how
              obtain ⟨what, kind', user', a', v', g', i', page'⟩ := o
              simp only at *
              have hlt' : (k : Int) < (no : Int) := by omega
              by_cases hw4 : what < 4
              · have hA := (H.new (Chg.refl [] wr).drew).mod fun F HB => MAcc_b kind' user' a' v' hv.a hv.v HB
                clear H
                have hsn : Hid (accsM 16 L16 s0 (acc4 (ops.take (k + 1))) = (accM 16 L16 s1 kind' user' a' v').1) := Lib.hid (by rw [hsn.out, if_pos hw4])
                have hwd4 : decide (what < 4) = true := decide_eq_true hw4
                go_wp2_with fail
                refine wp_region_still_tail 21 (by kernel_rfl) (by kernel_rfl) ?_
                simp only [List.take_succ_cons, List.take_zero, List.drop_succ_cons, List.drop_zero]
                change wpStill _ _ (World.drew _) _ _ _
                iterate 21 still_step
                refine wpStill_nil ?_
                change wpList _ _ _ _ _ (World.drew _)
                go_wp2_with fail
                refine hA.mono ?_; rintro e w6 ⟨rfl, H6⟩
                clear hA
                go_wp2_with fail
                have hA := (H6.swap.new (Chg.refl [] w6).drew).rmod fun F HB => RMAcc_b kind' user' a' v' hv.a hv.v HB
                clear c0 c1 c2 c3 c4 c5 c6 c7
                obtain ⟨c0, c1, c2, c3, c4, c5, c6, c7⟩ := hcw.chg H6.1 hbl (by simp)
                clear H6
                refine wp_region_still_tail 21 (by kernel_rfl) (by kernel_rfl) ?_
                simp only [List.take_succ_cons, List.take_zero, List.drop_succ_cons, List.drop_zero]
                change wpStill _ _ (World.drew _) _ _ _
                iterate 21 still_step
                refine wpStill_nil ?_
                change wpList _ _ _ _ _ (World.drew _)
                go_wp2_with fail
                refine hA.mono ?_; rintro e w7 ⟨rfl, H7⟩
                clear hA
                have H6 := H7.swap
                clear H7
                go_wp2_with fail
                go_roundg (no - (k + 1))
                case measure => omega
                case rel => exact ⟨k + 1, by omega, by omega, by go_num, by rw [hsn.out]; exact H6⟩
              · have hsn : Hid (accsM 16 L16 s0 (acc4 (ops.take (k + 1))) = s1) := Lib.hid (by rw [hsn.out, if_neg hw4])
                have hwd4 : decide (what < 4) = false := decide_eq_false hw4
                go_wp2_with fail
                go_roundg (no - (k + 1))
                case measure => omega
                case rel => exact ⟨k + 1, by omega, by omega, by go_num, by rw [hsn.out]; exact H⟩
            · obtain rfl : k = no := by omega
              rw [show ops.take k = ops from by rw [← ho.len, List.take_length]] at H
              clear hlt hk hg
              generalize accsM 16 L16 s0 (acc4 ops) = s at *
              have hA := H.mod fun F HB => ChApply_b C nc e lc (fun w' hc _ => hC.new hc) HB
              go_wp2_with fail
              refine hA.mono ?_; rintro e x1 ⟨rfl, H1⟩
              clear hA H
              have hG := ChGet_any D nb f b8 x1 (hD.new H1.1) (by omega) hwf
              go_wp2_with fail
              refine hG.mono ?_; rintro e x2 ⟨hX, k2⟩
              clear hG
              have H2 := H1.new k2
              have hG := RChGet_any D nb f b8 x2 (hD.new H2.1) (by omega) hwf
              rcases hX with ⟨hn, rfl⟩ | ⟨A2, c2, L2, hL, rfl, lg2⟩
              · go_wp2_with fail
                refine hG.mono ?_; rintro e x3 ⟨(⟨_, rfl⟩ | ⟨_, _, _, hL, _⟩), k3⟩; rotate_left; · rw [hn] at hL; cases hL
                have H := ((H2.new k3).ownNil chE 56).ownNil chE 56
                clear hG H1 H2 k2 k3
                go_wp2_with fail
                have hRA := fun w' (k : Chg [] x3 w') => ((H.pick 3 rfl).new k).rmod fun F HB => RChApply_b C nc e lc (fun w' hc => hC.new hc) HB
                have h0 := H.1
                clear H
                refine wp_region_noPanic ?_
                refine wp_region_held_drew (S := (fun w' => Chg [] w w')) (by kernel_rfl) ?_ (fun hHeld => ?_)
                · exact h0.drew
                (refine take_on 0 (some 127) (v := ?_) rfl rfl (by kernel_rfl) (by kernel_rfl) (by kernel_rfl) (fun _ _ _ h => h) (by rfl) (by assumption) ?_ ?_; rotate_left; · (intro w hSw; (try dsimp only at hSw); go_simp; (try with_reducible rfl)))
                (try simp only [Act.put, List.setIfInBounds_toArray, List.set_cons_zero, List.set_cons_succ])
                (refine take_on 1 (some 128) (v := ?_) rfl rfl (by kernel_rfl) (by kernel_rfl) (by kernel_rfl) (fun _ _ _ h => h) (by rfl) (by assumption) ?_ ?_; rotate_left; · (intro w hSw; (try dsimp only at hSw); go_simp; (try with_reducible rfl)))
                (try simp only [Act.put, List.setIfInBounds_toArray, List.set_cons_zero, List.set_cons_succ])
                (refine take_on 2 (some 129) (v := ?_) rfl rfl (by kernel_rfl) (by kernel_rfl) (by kernel_rfl) (fun _ _ _ h => h) (by rfl) (by assumption) ?_ ?_; rotate_left; · (intro w hSw; (try dsimp only at hSw); go_simp; (try with_reducible rfl)))
                (try simp only [Act.put, List.setIfInBounds_toArray, List.set_cons_zero, List.set_cons_succ])
                (refine take_on 3 (some 130) (v := ?_) rfl rfl (by kernel_rfl) (by kernel_rfl) (by kernel_rfl) (fun _ _ _ h => h) (by rfl) (by assumption) ?_ ?_; rotate_left; · (intro w hSw; (try dsimp only at hSw); go_simp; (try with_reducible rfl)))
                (try simp only [Act.put, List.setIfInBounds_toArray, List.set_cons_zero, List.set_cons_succ])
                (refine take_on 4 (some 131) (v := ?_) rfl rfl (by kernel_rfl) (by kernel_rfl) (by kernel_rfl) (fun _ _ _ h => h) (by rfl) (by assumption) ?_ ?_; rotate_left; · (intro w hSw; (try dsimp only at hSw); go_simp; (try with_reducible rfl)))
                (try simp only [Act.put, List.setIfInBounds_toArray, List.set_cons_zero, List.set_cons_succ])
                refine wpAnyH_ready (rs := [5]) (by kernel_rfl) (by simp) ?_; refine AllReadyH.cons (o := _) rfl (fun K hK => ?_) AllReadyH.nil
                go_simp
                (go_at_call 19; refine (hRA _ (Chg.refl [] x3).drew).mono ?_; rintro e x4 ⟨rfl, H4⟩)
                refine hK.out _ _ (by (try dsimp only); exact H4.1) (fun hHeld => ?_)
                clear hK K
                (try simp only [Act.put, List.setIfInBounds_toArray, List.set_cons_zero, List.set_cons_succ])
                clear hRA
                generalize appN 16 L16 s lc = N at *
                generalize appM 16 L16 s lc = s2 at *
                have H : SepC w x4 [modT w m t q S p L16 hh b 16 s2, rmodT w m' t' q' S' p' L16 hh' b' 16 s2, ownT chE 56 (.slice none 0 0) ([] : List Ch), ownT chE 56 (.slice none 0 0) ([] : List Ch)] := H4.pick 3 rfl
                clear H4
                (refine take_on 6 (some 133) (v := ?_) rfl rfl (by kernel_rfl) (by kernel_rfl) (by kernel_rfl) (fun _ _ _ h => h) (by rfl) (by assumption) ?_ ?_; rotate_left; · (intro w hSw; (try dsimp only at hSw); go_simp; (try with_reducible rfl)))
                (try simp only [Act.put, List.setIfInBounds_toArray, List.set_cons_zero, List.set_cons_succ])
                (refine take_on 7 (some 134) (v := ?_) rfl rfl (by kernel_rfl) (by kernel_rfl) (by kernel_rfl) (fun _ _ _ h => h) (by rfl) (by assumption) ?_ ?_; rotate_left; · (intro w hSw; (try dsimp only at hSw); go_simp; (try with_reducible rfl)))
                (try simp only [Act.put, List.setIfInBounds_toArray, List.set_cons_zero, List.set_cons_succ])
                (refine take_on 8 (some 135) (v := ?_) rfl rfl (by kernel_rfl) (by kernel_rfl) (by kernel_rfl) (fun _ _ _ h => h) (by rfl) (by assumption) ?_ ?_; rotate_left; · (intro w hSw; (try dsimp only at hSw); go_simp; (try with_reducible rfl)))
                (try simp only [Act.put, List.setIfInBounds_toArray, List.set_cons_zero, List.set_cons_succ])
                (refine take_on 9 (some 136) (v := ?_) rfl rfl (by kernel_rfl) (by kernel_rfl) (by kernel_rfl) (fun _ _ _ h => h) (by rfl) (by assumption) ?_ ?_; rotate_left; · (intro w hSw; (try dsimp only at hSw); go_simp; (try with_reducible rfl)))
                (try simp only [Act.put, List.setIfInBounds_toArray, List.set_cons_zero, List.set_cons_succ])
                (refine take_on 11 (some 138) (v := ?_) rfl rfl (by kernel_rfl) (by kernel_rfl) (by kernel_rfl) (fun _ _ _ h => h) (by rfl) (by assumption) ?_ ?_; rotate_left; · (intro w hSw; (try dsimp only at hSw); go_simp; (try with_reducible rfl)))
                (try simp only [Act.put, List.setIfInBounds_toArray, List.set_cons_zero, List.set_cons_succ])
                refine wpAnyH_ready (rs := [10]) (by kernel_rfl) (by simp) ?_; refine AllReadyH.cons (o := _) rfl (fun K hK => ?_) AllReadyH.nil
                go_simp
                (go_at_call 21; refine (MAll_b H.modB).mono ?_; rintro e x5 ⟨A5, c5, rfl, k5, o5, _⟩)
                refine hK.out _ _ (by (try dsimp only); exact (H.new k5).1) (fun hHeld => ?_)
                clear hK K
                (try simp only [Act.put, List.setIfInBounds_toArray, List.set_cons_zero, List.set_cons_succ])
                have s5 := o5.slh
                replace H := H.new k5
                clear o5 k5
                refine wpAnyH_ready (rs := [12]) (by kernel_rfl) (by simp) ?_; refine AllReadyH.cons (o := _) rfl (fun K hK => ?_) AllReadyH.nil
                go_simp
                (go_at_call 22; refine (RMAll_b (SepC.rmodB H.swap)).mono ?_; rintro e x6 ⟨A6, c6, rfl, k6, o6, _⟩)
                refine hK.out _ _ (by (try dsimp only); exact (H.new k6).1) (fun hHeld => ?_)
                clear hK K
                (try simp only [Act.put, List.setIfInBounds_toArray, List.set_cons_zero, List.set_cons_succ])
                have s6 := o6.slh
                replace s5 := s5.new k6
                replace H := H.new k6
                clear o6 k6
                refine wpAnyH_ready (rs := [13]) (by kernel_rfl) (by simp) ?_; refine AllReadyH.cons (o := _) rfl (fun K hK => ?_) AllReadyH.nil
                go_simp
                (go_at_call 20; refine (TSame_at A5 A6 _ _ c5 c6 _ _ _ s5 s6).mono ?_; rintro e x6b ⟨rfl, y6⟩; rw [eqHs_self])
                refine hK.out _ _ (by (try dsimp only); exact (H.new y6).1) (fun hHeld => ?_)
                clear hK K
                (try simp only [Act.put, List.setIfInBounds_toArray, List.set_cons_zero, List.set_cons_succ])
                replace H := H.new y6
                clear s5 s6 y6
                (refine take_on 14 (some 141) (v := ?_) rfl rfl (by kernel_rfl) (by kernel_rfl) (by kernel_rfl) (fun _ _ _ h => h) (by rfl) (by assumption) ?_ ?_; rotate_left; · (intro w hSw; (try dsimp only at hSw); go_simp; (try with_reducible rfl)))
                (try simp only [Act.put, List.setIfInBounds_toArray, List.set_cons_zero, List.set_cons_succ])
                (refine take_on 15 (some 142) (v := ?_) rfl rfl (by kernel_rfl) (by kernel_rfl) (by kernel_rfl) (fun _ _ _ h => h) (by rfl) (by assumption) ?_ ?_; rotate_left; · (intro w hSw; (try dsimp only at hSw); go_simp; (try with_reducible rfl)))
                (try simp only [Act.put, List.setIfInBounds_toArray, List.set_cons_zero, List.set_cons_succ])
                (refine take_on 16 (some 143) (v := ?_) rfl rfl (by kernel_rfl) (by kernel_rfl) (by kernel_rfl) (fun _ _ _ h => h) (by rfl) (by assumption) ?_ ?_; rotate_left; · (intro w hSw; (try dsimp only at hSw); go_simp; (try with_reducible rfl)))
                (try simp only [Act.put, List.setIfInBounds_toArray, List.set_cons_zero, List.set_cons_succ])
                (refine take_on 18 (some 145) (v := ?_) rfl rfl (by kernel_rfl) (by kernel_rfl) (by kernel_rfl) (fun _ _ _ h => h) (by rfl) (by assumption) ?_ ?_; rotate_left; · (intro w hSw; (try dsimp only at hSw); go_simp; (try with_reducible rfl)))
                (try simp only [Act.put, List.setIfInBounds_toArray, List.set_cons_zero, List.set_cons_succ])
                refine wpAnyH_ready (rs := [17]) (by kernel_rfl) (by simp) ?_; refine AllReadyH.cons (o := _) rfl (fun K hK => ?_) AllReadyH.nil
                go_simp
                (go_at_call 24; refine (GuAll_at q S p L16 hh b 16 s2.W _ H.modB.gu).mono ?_; rintro e x7 ⟨A7, c7, rfl, k7, o7, _⟩)
                refine hK.out _ _ (by (try dsimp only); exact (H.new k7).1) (fun hHeld => ?_)
                clear hK K
                (try simp only [Act.put, List.setIfInBounds_toArray, List.set_cons_zero, List.set_cons_succ])
                have s7 := ownI_slu o7
                replace H := H.new k7
                clear o7 k7
                refine wpAnyH_ready (rs := [19]) (by kernel_rfl) (by simp) ?_; refine AllReadyH.cons (o := _) rfl (fun K hK => ?_) AllReadyH.nil
                go_simp
                (go_at_call 25; refine (RGuAll_at q' S' p' L16 hh' b' 16 s2.W _ (SepC.rmodB H.swap).gu).mono ?_; rintro e x8 ⟨A8, c8, rfl, k8, o8, _⟩)
                refine hK.out _ _ (by (try dsimp only); exact (H.new k8).1) (fun hHeld => ?_)
                clear hK K
                (try simp only [Act.put, List.setIfInBounds_toArray, List.set_cons_zero, List.set_cons_succ])
                have s8 := ownI_slu o8
                replace s7 := s7.chg k8 (by simp)
                replace H := H.new k8
                clear o8 k8
                refine wpAnyH_ready (rs := [20]) (by kernel_rfl) (by simp) ?_; refine AllReadyH.cons (o := _) rfl (fun K hK => ?_) AllReadyH.nil
                go_simp
                (go_at_call 23; refine (SameWords_any A7 A8 _ _ c7 c8 _ _ _ s7 s8 (by decide) (by decide)).mono ?_; rintro e x8b ⟨rfl, nd, rfl⟩; rw [eqL_self])
                refine hK.out _ _ (by (try dsimp only); exact H.1.drewN nd) (fun hHeld => ?_)
                clear hK K
                (try simp only [Act.put, List.setIfInBounds_toArray, List.set_cons_zero, List.set_cons_succ])
                replace H := H.new ((Chg.refl [] x8).drewN nd)
                clear s7 s8
                generalize x8.drewN nd = x8b at *
                (refine take_on 21 (some 148) (v := ?_) rfl rfl (by kernel_rfl) (by kernel_rfl) (by kernel_rfl) (fun _ _ _ h => h) (by rfl) (by assumption) ?_ ?_; rotate_left; · (intro w hSw; (try dsimp only at hSw); go_simp; (try with_reducible rfl)))
                (try simp only [Act.put, List.setIfInBounds_toArray, List.set_cons_zero, List.set_cons_succ])
                (refine take_on 22 (some 149) (v := ?_) rfl rfl (by kernel_rfl) (by kernel_rfl) (by kernel_rfl) (fun _ _ _ h => h) (by rfl) (by assumption) ?_ ?_; rotate_left; · (intro w hSw; (try dsimp only at hSw); go_simp; (try with_reducible rfl)))
                (try simp only [Act.put, List.setIfInBounds_toArray, List.set_cons_zero, List.set_cons_succ])
                (refine take_on 23 (some 150) (v := ?_) rfl rfl (by kernel_rfl) (by kernel_rfl) (by kernel_rfl) (fun _ _ _ h => h) (by rfl) (by assumption) ?_ ?_; rotate_left; · (intro w hSw; (try dsimp only at hSw); go_simp; (try with_reducible rfl)))
                (try simp only [Act.put, List.setIfInBounds_toArray, List.set_cons_zero, List.set_cons_succ])
                (refine take_on 26 (some 153) (v := ?_) rfl rfl (by kernel_rfl) (by kernel_rfl) (by kernel_rfl) (fun _ _ _ h => h) (by rfl) (by assumption) ?_ ?_; rotate_left; · (intro w hSw; (try dsimp only at hSw); go_simp; (try with_reducible rfl)))
                (try simp only [Act.put, List.setIfInBounds_toArray, List.set_cons_zero, List.set_cons_succ])
                refine wpAnyH_ready (rs := [24]) (by kernel_rfl) (by simp) ?_; refine AllReadyH.cons (o := _) rfl (fun K hK => ?_) AllReadyH.nil
                go_simp
                (go_at_call 26; refine (ChPut_any C nc e lc _ (hC.new H.1) (by omega)).mono ?_; rintro e x9 ⟨A9, c9, rfl, o9, _, k9⟩)
                refine hK.out _ _ (by (try dsimp only); exact (H.new k9).1) (fun hHeld => ?_)
                clear hK K
                (try simp only [Act.put, List.setIfInBounds_toArray, List.set_cons_zero, List.set_cons_succ])
                replace H := H.new k9
                have h9 := H.1
                clear k9 hHeld
                refine held_up (S' := fun w' => Chg [] x9 w') (fun w' k => h9.trans k (by simp)) ?_
                have hHeld : Chg [] x9 x9 := Chg.refl _ _
                have hs9 := fun w' (k : Chg [] x9 w') => run_str (P := Tryz.prog) (c := c9) (o9.slg.new k) (fun e => (o9.nil_ e).1) 25 5 9 Tryz.underlying25 Tryz.underlying5 Tryz.underlying9
                generalize hsb : strOfNums (putC lc) = sb at hs9
                replace hsb := Lib.hid hsb
                clear o9
                (refine take_on 25 (some 152) (v := ?_) rfl rfl (by kernel_rfl) (by kernel_rfl) (by kernel_rfl) (fun _ _ _ h => h) (by rfl) (by assumption) ?_ ?_; rotate_left; · (intro w hSw; (try dsimp only at hSw); have hq_ := hs9 _ hSw; go_simp; (try with_reducible rfl)))
                (try simp only [Act.put, List.setIfInBounds_toArray, List.set_cons_zero, List.set_cons_succ])
                clear hs9
                refine wpAnyH_ready (rs := [27]) (by kernel_rfl) (by simp) ?_; refine AllReadyH.cons (o := _) rfl (fun K hK => ?_) AllReadyH.nil
                go_simp
                (go_at_call 27; refine (RChPut_any C nc e lc _ (hC.new H.1) (by omega)).mono ?_; rintro e x10 ⟨A10, c10, rfl, lg⟩)
                refine hK.out _ _ (by (try dsimp only); exact lg.1) (fun hHeld => ?_)
                clear hK K
                (try simp only [Act.put, List.setIfInBounds_toArray, List.set_cons_zero, List.set_cons_succ])
                have o10 := lg.2.1
                have h10 := lg.1
                replace H := H.new lg.1
                clear lg h9
                have h9 := H.1
                have sx := (H.pick 3 rfl).own.slg
                have sy := (H.pick 2 rfl).own.slg
                clear H hHeld
                refine held_up (S' := fun w' => Chg [] x10 w') (fun w' k => h10.trans k (by simp)) ?_
                clear h10
                have hHeld : Chg [] x10 x10 := Chg.refl _ _
                have hs10 := fun w' (k : Chg [] x10 w') => run_str (P := Tryz.prog) (c := c10) (o10.slg.new k) (fun e => (o10.nil_ e).1) 25 5 9 Tryz.underlying25 Tryz.underlying5 Tryz.underlying9
                rw [hsb.out] at hs10
                clear o10 hsb
                (refine take_on 28 (some 155) (v := ?_) rfl rfl (by kernel_rfl) (by kernel_rfl) (by kernel_rfl) (fun _ _ _ h => h) (by rfl) (by assumption) ?_ ?_; rotate_left; · (intro w hSw; (try dsimp only at hSw); have hq_ := hs10 _ hSw; go_simp; (try with_reducible rfl)))
                (try simp only [Act.put, List.setIfInBounds_toArray, List.set_cons_zero, List.set_cons_succ])
                clear hs10
                (refine take_on 29 (some 156) (v := ?_) rfl rfl (by kernel_rfl) (by kernel_rfl) (by kernel_rfl) (fun _ _ _ h => h) (by rfl) (by assumption) ?_ ?_; rotate_left; · (intro w hSw; (try dsimp only at hSw); go_simp; (try with_reducible rfl)))
                (try simp only [Act.put, List.setIfInBounds_toArray, List.set_cons_zero, List.set_cons_succ])
                (refine take_on 30 (some 157) (v := ?_) rfl rfl (by kernel_rfl) (by kernel_rfl) (by kernel_rfl) (fun _ _ _ h => h) (by rfl) (by assumption) ?_ ?_; rotate_left; · (intro w hSw; (try dsimp only at hSw); go_simp; (try with_reducible rfl)))
                (try simp only [Act.put, List.setIfInBounds_toArray, List.set_cons_zero, List.set_cons_succ])
                (refine take_on 31 (some 158) (v := ?_) rfl rfl (by kernel_rfl) (by kernel_rfl) (by kernel_rfl) (fun _ _ _ h => h) (by rfl) (by assumption) ?_ ?_; rotate_left; · (intro w hSw; (try dsimp only at hSw); go_simp; (try with_reducible rfl)))
                (try simp only [Act.put, List.setIfInBounds_toArray, List.set_cons_zero, List.set_cons_succ])
                (refine take_on 32 (some 159) (v := ?_) rfl rfl (by kernel_rfl) (by kernel_rfl) (by kernel_rfl) (fun _ _ _ h => h) (by rfl) (by assumption) ?_ ?_; rotate_left; · (intro w hSw; (try dsimp only at hSw); go_simp; (try with_reducible rfl)))
                (try simp only [Act.put, List.setIfInBounds_toArray, List.set_cons_zero, List.set_cons_succ])
                (refine take_on 33 (some 160) (v := ?_) rfl rfl (by kernel_rfl) (by kernel_rfl) (by kernel_rfl) (fun _ _ _ h => h) (by rfl) (by assumption) ?_ ?_; rotate_left; · (intro w hSw; (try dsimp only at hSw); go_simp; (try with_reducible rfl)))
                (try simp only [Act.put, List.setIfInBounds_toArray, List.set_cons_zero, List.set_cons_succ])
                refine wpAnyH_ready (rs := [34]) (by kernel_rfl) (by simp) ?_; refine AllReadyH.cons (o := _) rfl (fun K hK => ?_) AllReadyH.nil
                go_simp
                (go_at_call 28; refine (ChSame_any none none _ _ 0 0 ([] : List Ch) ([] : List Ch) _ sx sy).mono ?_; rintro e x11 ⟨rfl, y10⟩; rw [decide_eq_true (rfl : ([] : List Ch) = ([] : List Ch))])
                refine hK.out _ _ (by (try dsimp only); exact hHeld.trans y10 (by simp)) (fun hHeld => ?_)
                clear hK K
                (try simp only [Act.put, List.setIfInBounds_toArray, List.set_cons_zero, List.set_cons_succ])
                clear sx sy
                (refine take_on 35 (some 162) (v := ?_) rfl rfl (by kernel_rfl) (by kernel_rfl) (by kernel_rfl) (fun _ _ _ h => h) (by rfl) (by assumption) ?_ ?_; rotate_left; · (intro w hSw; (try dsimp only at hSw); go_simp; (try with_reducible rfl)))
                (try simp only [Act.put, List.setIfInBounds_toArray, List.set_cons_zero, List.set_cons_succ])
                (refine take_on 36 (some 163) (v := ?_) rfl rfl (by kernel_rfl) (by kernel_rfl) (by kernel_rfl) (fun _ _ _ h => h) (by rfl) (by assumption) ?_ ?_; rotate_left; · (intro w hSw; (try dsimp only at hSw); go_simp; (try with_reducible rfl)))
                (try simp only [Act.put, List.setIfInBounds_toArray, List.set_cons_zero, List.set_cons_succ])
                (refine take_on 37 (some 164) (v := ?_) rfl rfl (by kernel_rfl) (by kernel_rfl) (by kernel_rfl) (fun _ _ _ h => h) (by rfl) (by assumption) ?_ ?_; rotate_left; · (intro w hSw; (try dsimp only at hSw); go_simp; (try with_reducible rfl)))
                (try simp only [Act.put, List.setIfInBounds_toArray, List.set_cons_zero, List.set_cons_succ])
                (refine take_on 38 (some 165) (v := ?_) rfl rfl (by kernel_rfl) (by kernel_rfl) (by kernel_rfl) (fun _ _ _ h => h) (by rfl) (by assumption) ?_ ?_; rotate_left; · (intro w hSw; (try dsimp only at hSw); go_simp; (try with_reducible rfl)))
                (try simp only [Act.put, List.setIfInBounds_toArray, List.set_cons_zero, List.set_cons_succ])
                (refine take_on 39 (some 166) (v := ?_) rfl rfl (by kernel_rfl) (by kernel_rfl) (by kernel_rfl) (fun _ _ _ h => h) (by rfl) (by assumption) ?_ ?_; rotate_left; · (intro w hSw; (try dsimp only at hSw); go_simp; (try with_reducible rfl)))
                (try simp only [Act.put, List.setIfInBounds_toArray, List.set_cons_zero, List.set_cons_succ])
                (refine take_on 40 (some 167) (v := ?_) rfl rfl (by kernel_rfl) (by kernel_rfl) (by kernel_rfl) (fun _ _ _ h => h) (by rfl) (by assumption) ?_ ?_; rotate_left; · (intro w hSw; (try dsimp only at hSw); go_simp; (try with_reducible rfl)))
                (try simp only [Act.put, List.setIfInBounds_toArray, List.set_cons_zero, List.set_cons_succ])
                (refine take_on 41 (some 8) (v := ?_) rfl rfl (by kernel_rfl) (by kernel_rfl) (by kernel_rfl) (fun _ _ _ h => h) (by rfl) (by assumption) ?_ ?_; rotate_left; · (intro w hSw; (try dsimp only at hSw); go_simp; (try with_reducible rfl)))
                (try simp only [Act.put, List.setIfInBounds_toArray, List.set_cons_zero, List.set_cons_succ])
                refine wpAnyH_done (by kernel_rfl) ?_ _
                refine NoPanic.normal ?_
                have h10 := h9.trans hHeld (by simp)
                clear hHeld y10
                go_wp2_with fail
                go_ret
                exact ⟨rfl, h10⟩
              · go_wp2_with fail
                refine hG.mono ?_; rintro e x3 ⟨(⟨hn, _⟩ | ⟨A3, c3, L3, hL3, rfl, lg3⟩), k3⟩; · rw [hL] at hn; cases hn
                rw [hL] at hL3; injection hL3 with hL3; subst hL3
                have H := ((H1.lay k2 (P := ownT chE 56 (.slice A2 L2.length c2) L2) ⟨rfl, lg2.2.1⟩ lg2.2.2).lay k3 (P := ownT chE 56 (.slice A3 L2.length c3) L2) ⟨rfl, lg3.2.1⟩ lg3.2.2)
                clear hG H1 H2 k2 k3 lg2 lg3 hL
                go_wp2_with fail
                have hRA := fun w' (k : Chg [] x3 w') => ((H.pick 3 rfl).new k).rmod fun F HB => RChApply_b C nc e lc (fun w' hc => hC.new hc) HB
                have h0 := H.1
                clear H
                refine wp_region_noPanic ?_
                refine wp_region_held_drew (S := (fun w' => Chg [] w w')) (by kernel_rfl) ?_ (fun hHeld => ?_)
                · exact h0.drew
                (refine take_on 0 (some 127) (v := ?_) rfl rfl (by kernel_rfl) (by kernel_rfl) (by kernel_rfl) (fun _ _ _ h => h) (by rfl) (by assumption) ?_ ?_; rotate_left; · (intro w hSw; (try dsimp only at hSw); go_simp; (try with_reducible rfl)))
                (try simp only [Act.put, List.setIfInBounds_toArray, List.set_cons_zero, List.set_cons_succ])
                (refine take_on 1 (some 128) (v := ?_) rfl rfl (by kernel_rfl) (by kernel_rfl) (by kernel_rfl) (fun _ _ _ h => h) (by rfl) (by assumption) ?_ ?_; rotate_left; · (intro w hSw; (try dsimp only at hSw); go_simp; (try with_reducible rfl)))
                (try simp only [Act.put, List.setIfInBounds_toArray, List.set_cons_zero, List.set_cons_succ])
                (refine take_on 2 (some 129) (v := ?_) rfl rfl (by kernel_rfl) (by kernel_rfl) (by kernel_rfl) (fun _ _ _ h => h) (by rfl) (by assumption) ?_ ?_; rotate_left; · (intro w hSw; (try dsimp only at hSw); go_simp; (try with_reducible rfl)))
                (try simp only [Act.put, List.setIfInBounds_toArray, List.set_cons_zero, List.set_cons_succ])
                (refine take_on 3 (some 130) (v := ?_) rfl rfl (by kernel_rfl) (by kernel_rfl) (by kernel_rfl) (fun _ _ _ h => h) (by rfl) (by assumption) ?_ ?_; rotate_left; · (intro w hSw; (try dsimp only at hSw); go_simp; (try with_reducible rfl)))
                (try simp only [Act.put, List.setIfInBounds_toArray, List.set_cons_zero, List.set_cons_succ])
                (refine take_on 4 (some 131) (v := ?_) rfl rfl (by kernel_rfl) (by kernel_rfl) (by kernel_rfl) (fun _ _ _ h => h) (by rfl) (by assumption) ?_ ?_; rotate_left; · (intro w hSw; (try dsimp only at hSw); go_simp; (try with_reducible rfl)))
                (try simp only [Act.put, List.setIfInBounds_toArray, List.set_cons_zero, List.set_cons_succ])
                refine wpAnyH_ready (rs := [5]) (by kernel_rfl) (by simp) ?_; refine AllReadyH.cons (o := _) rfl (fun K hK => ?_) AllReadyH.nil
                go_simp
                (go_at_call 19; refine (hRA _ (Chg.refl [] x3).drew).mono ?_; rintro e x4 ⟨rfl, H4⟩)
                refine hK.out _ _ (by (try dsimp only); exact H4.1) (fun hHeld => ?_)
                clear hK K
                (try simp only [Act.put, List.setIfInBounds_toArray, List.set_cons_zero, List.set_cons_succ])
                clear hRA
                generalize appN 16 L16 s lc = N at *
                generalize appM 16 L16 s lc = s2 at *
                have H : SepC w x4 [modT w m t q S p L16 hh b 16 s2, rmodT w m' t' q' S' p' L16 hh' b' 16 s2, ownT chE 56 (.slice A3 L2.length c3) L2, ownT chE 56 (.slice A2 L2.length c2) L2] := H4.pick 3 rfl
                clear H4
                (refine take_on 6 (some 133) (v := ?_) rfl rfl (by kernel_rfl) (by kernel_rfl) (by kernel_rfl) (fun _ _ _ h => h) (by rfl) (by assumption) ?_ ?_; rotate_left; · (intro w hSw; (try dsimp only at hSw); go_simp; (try with_reducible rfl)))
                (try simp only [Act.put, List.setIfInBounds_toArray, List.set_cons_zero, List.set_cons_succ])
                (refine take_on 7 (some 134) (v := ?_) rfl rfl (by kernel_rfl) (by kernel_rfl) (by kernel_rfl) (fun _ _ _ h => h) (by rfl) (by assumption) ?_ ?_; rotate_left; · (intro w hSw; (try dsimp only at hSw); go_simp; (try with_reducible rfl)))
                (try simp only [Act.put, List.setIfInBounds_toArray, List.set_cons_zero, List.set_cons_succ])
                (refine take_on 8 (some 135) (v := ?_) rfl rfl (by kernel_rfl) (by kernel_rfl) (by kernel_rfl) (fun _ _ _ h => h) (by rfl) (by assumption) ?_ ?_; rotate_left; · (intro w hSw; (try dsimp only at hSw); go_simp; (try with_reducible rfl)))
                (try simp only [Act.put, List.setIfInBounds_toArray, List.set_cons_zero, List.set_cons_succ])
                (refine take_on 9 (some 136) (v := ?_) rfl rfl (by kernel_rfl) (by kernel_rfl) (by kernel_rfl) (fun _ _ _ h => h) (by rfl) (by assumption) ?_ ?_; rotate_left; · (intro w hSw; (try dsimp only at hSw); go_simp; (try with_reducible rfl)))
                (try simp only [Act.put, List.setIfInBounds_toArray, List.set_cons_zero, List.set_cons_succ])
                (refine take_on 11 (some 138) (v := ?_) rfl rfl (by kernel_rfl) (by kernel_rfl) (by kernel_rfl) (fun _ _ _ h => h) (by rfl) (by assumption) ?_ ?_; rotate_left; · (intro w hSw; (try dsimp only at hSw); go_simp; (try with_reducible rfl)))
                (try simp only [Act.put, List.setIfInBounds_toArray, List.set_cons_zero, List.set_cons_succ])
                refine wpAnyH_ready (rs := [10]) (by kernel_rfl) (by simp) ?_; refine AllReadyH.cons (o := _) rfl (fun K hK => ?_) AllReadyH.nil
                go_simp
                (go_at_call 21; refine (MAll_b H.modB).mono ?_; rintro e x5 ⟨A5, c5, rfl, k5, o5, _⟩)
                refine hK.out _ _ (by (try dsimp only); exact (H.new k5).1) (fun hHeld => ?_)
                clear hK K
                (try simp only [Act.put, List.setIfInBounds_toArray, List.set_cons_zero, List.set_cons_succ])
                have s5 := o5.slh
                replace H := H.new k5
                clear o5 k5
                refine wpAnyH_ready (rs := [12]) (by kernel_rfl) (by simp) ?_; refine AllReadyH.cons (o := _) rfl (fun K hK => ?_) AllReadyH.nil
                go_simp
                (go_at_call 22; refine (RMAll_b (SepC.rmodB H.swap)).mono ?_; rintro e x6 ⟨A6, c6, rfl, k6, o6, _⟩)
                refine hK.out _ _ (by (try dsimp only); exact (H.new k6).1) (fun hHeld => ?_)
                clear hK K
                (try simp only [Act.put, List.setIfInBounds_toArray, List.set_cons_zero, List.set_cons_succ])
                have s6 := o6.slh
                replace s5 := s5.new k6
                replace H := H.new k6
                clear o6 k6
                refine wpAnyH_ready (rs := [13]) (by kernel_rfl) (by simp) ?_; refine AllReadyH.cons (o := _) rfl (fun K hK => ?_) AllReadyH.nil
                go_simp
                (go_at_call 20; refine (TSame_at A5 A6 _ _ c5 c6 _ _ _ s5 s6).mono ?_; rintro e x6b ⟨rfl, y6⟩; rw [eqHs_self])
                refine hK.out _ _ (by (try dsimp only); exact (H.new y6).1) (fun hHeld => ?_)
                clear hK K
                (try simp only [Act.put, List.setIfInBounds_toArray, List.set_cons_zero, List.set_cons_succ])
                replace H := H.new y6
                clear s5 s6 y6
                (refine take_on 14 (some 141) (v := ?_) rfl rfl (by kernel_rfl) (by kernel_rfl) (by kernel_rfl) (fun _ _ _ h => h) (by rfl) (by assumption) ?_ ?_; rotate_left; · (intro w hSw; (try dsimp only at hSw); go_simp; (try with_reducible rfl)))
                (try simp only [Act.put, List.setIfInBounds_toArray, List.set_cons_zero, List.set_cons_succ])
                (refine take_on 15 (some 142) (v := ?_) rfl rfl (by kernel_rfl) (by kernel_rfl) (by kernel_rfl) (fun _ _ _ h => h) (by rfl) (by assumption) ?_ ?_; rotate_left; · (intro w hSw; (try dsimp only at hSw); go_simp; (try with_reducible rfl)))
                (try simp only [Act.put, List.setIfInBounds_toArray, List.set_cons_zero, List.set_cons_succ])
                (refine take_on 16 (some 143) (v := ?_) rfl rfl (by kernel_rfl) (by kernel_rfl) (by kernel_rfl) (fun _ _ _ h => h) (by rfl) (by assumption) ?_ ?_; rotate_left; · (intro w hSw; (try dsimp only at hSw); go_simp; (try with_reducible rfl)))
                (try simp only [Act.put, List.setIfInBounds_toArray, List.set_cons_zero, List.set_cons_succ])
                (refine take_on 18 (some 145) (v := ?_) rfl rfl (by kernel_rfl) (by kernel_rfl) (by kernel_rfl) (fun _ _ _ h => h) (by rfl) (by assumption) ?_ ?_; rotate_left; · (intro w hSw; (try dsimp only at hSw); go_simp; (try with_reducible rfl)))
                (try simp only [Act.put, List.setIfInBounds_toArray, List.set_cons_zero, List.set_cons_succ])
                refine wpAnyH_ready (rs := [17]) (by kernel_rfl) (by simp) ?_; refine AllReadyH.cons (o := _) rfl (fun K hK => ?_) AllReadyH.nil
                go_simp
                (go_at_call 24; refine (GuAll_at q S p L16 hh b 16 s2.W _ H.modB.gu).mono ?_; rintro e x7 ⟨A7, c7, rfl, k7, o7, _⟩)
                refine hK.out _ _ (by (try dsimp only); exact (H.new k7).1) (fun hHeld => ?_)
                clear hK K
                (try simp only [Act.put, List.setIfInBounds_toArray, List.set_cons_zero, List.set_cons_succ])
                have s7 := ownI_slu o7
                replace H := H.new k7
                clear o7 k7
                refine wpAnyH_ready (rs := [19]) (by kernel_rfl) (by simp) ?_; refine AllReadyH.cons (o := _) rfl (fun K hK => ?_) AllReadyH.nil
                go_simp
                (go_at_call 25; refine (RGuAll_at q' S' p' L16 hh' b' 16 s2.W _ (SepC.rmodB H.swap).gu).mono ?_; rintro e x8 ⟨A8, c8, rfl, k8, o8, _⟩)
                refine hK.out _ _ (by (try dsimp only); exact (H.new k8).1) (fun hHeld => ?_)
                clear hK K
                (try simp only [Act.put, List.setIfInBounds_toArray, List.set_cons_zero, List.set_cons_succ])
                have s8 := ownI_slu o8
                replace s7 := s7.chg k8 (by simp)
                replace H := H.new k8
                clear o8 k8
                refine wpAnyH_ready (rs := [20]) (by kernel_rfl) (by simp) ?_; refine AllReadyH.cons (o := _) rfl (fun K hK => ?_) AllReadyH.nil
                go_simp
                (go_at_call 23; refine (SameWords_any A7 A8 _ _ c7 c8 _ _ _ s7 s8 (by decide) (by decide)).mono ?_; rintro e x8b ⟨rfl, nd, rfl⟩; rw [eqL_self])
                refine hK.out _ _ (by (try dsimp only); exact H.1.drewN nd) (fun hHeld => ?_)
                clear hK K
                (try simp only [Act.put, List.setIfInBounds_toArray, List.set_cons_zero, List.set_cons_succ])
                replace H := H.new ((Chg.refl [] x8).drewN nd)
                clear s7 s8
                generalize x8.drewN nd = x8b at *
                (refine take_on 21 (some 148) (v := ?_) rfl rfl (by kernel_rfl) (by kernel_rfl) (by kernel_rfl) (fun _ _ _ h => h) (by rfl) (by assumption) ?_ ?_; rotate_left; · (intro w hSw; (try dsimp only at hSw); go_simp; (try with_reducible rfl)))
                (try simp only [Act.put, List.setIfInBounds_toArray, List.set_cons_zero, List.set_cons_succ])
                (refine take_on 22 (some 149) (v := ?_) rfl rfl (by kernel_rfl) (by kernel_rfl) (by kernel_rfl) (fun _ _ _ h => h) (by rfl) (by assumption) ?_ ?_; rotate_left; · (intro w hSw; (try dsimp only at hSw); go_simp; (try with_reducible rfl)))
                (try simp only [Act.put, List.setIfInBounds_toArray, List.set_cons_zero, List.set_cons_succ])
                (refine take_on 23 (some 150) (v := ?_) rfl rfl (by kernel_rfl) (by kernel_rfl) (by kernel_rfl) (fun _ _ _ h => h) (by rfl) (by assumption) ?_ ?_; rotate_left; · (intro w hSw; (try dsimp only at hSw); go_simp; (try with_reducible rfl)))
                (try simp only [Act.put, List.setIfInBounds_toArray, List.set_cons_zero, List.set_cons_succ])
                (refine take_on 26 (some 153) (v := ?_) rfl rfl (by kernel_rfl) (by kernel_rfl) (by kernel_rfl) (fun _ _ _ h => h) (by rfl) (by assumption) ?_ ?_; rotate_left; · (intro w hSw; (try dsimp only at hSw); go_simp; (try with_reducible rfl)))
                (try simp only [Act.put, List.setIfInBounds_toArray, List.set_cons_zero, List.set_cons_succ])
                refine wpAnyH_ready (rs := [24]) (by kernel_rfl) (by simp) ?_; refine AllReadyH.cons (o := _) rfl (fun K hK => ?_) AllReadyH.nil
                go_simp
                (go_at_call 26; refine (ChPut_any C nc e lc _ (hC.new H.1) (by omega)).mono ?_; rintro e x9 ⟨A9, c9, rfl, o9, _, k9⟩)
                refine hK.out _ _ (by (try dsimp only); exact (H.new k9).1) (fun hHeld => ?_)
                clear hK K
                (try simp only [Act.put, List.setIfInBounds_toArray, List.set_cons_zero, List.set_cons_succ])
                replace H := H.new k9
                have h9 := H.1
                clear k9 hHeld
                refine held_up (S' := fun w' => Chg [] x9 w') (fun w' k => h9.trans k (by simp)) ?_
                have hHeld : Chg [] x9 x9 := Chg.refl _ _
                have hs9 := fun w' (k : Chg [] x9 w') => run_str (P := Tryz.prog) (c := c9) (o9.slg.new k) (fun e => (o9.nil_ e).1) 25 5 9 Tryz.underlying25 Tryz.underlying5 Tryz.underlying9
                generalize hsb : strOfNums (putC lc) = sb at hs9
                replace hsb := Lib.hid hsb
                clear o9
                (refine take_on 25 (some 152) (v := ?_) rfl rfl (by kernel_rfl) (by kernel_rfl) (by kernel_rfl) (fun _ _ _ h => h) (by rfl) (by assumption) ?_ ?_; rotate_left; · (intro w hSw; (try dsimp only at hSw); have hq_ := hs9 _ hSw; go_simp; (try with_reducible rfl)))
                (try simp only [Act.put, List.setIfInBounds_toArray, List.set_cons_zero, List.set_cons_succ])
                clear hs9
                refine wpAnyH_ready (rs := [27]) (by kernel_rfl) (by simp) ?_; refine AllReadyH.cons (o := _) rfl (fun K hK => ?_) AllReadyH.nil
                go_simp
                (go_at_call 27; refine (RChPut_any C nc e lc _ (hC.new H.1) (by omega)).mono ?_; rintro e x10 ⟨A10, c10, rfl, lg⟩)
                refine hK.out _ _ (by (try dsimp only); exact lg.1) (fun hHeld => ?_)
                clear hK K
                (try simp only [Act.put, List.setIfInBounds_toArray, List.set_cons_zero, List.set_cons_succ])
                have o10 := lg.2.1
                have h10 := lg.1
                replace H := H.new lg.1
                clear lg h9
                have h9 := H.1
                have sx := (H.pick 3 rfl).own.slg
                have sy := (H.pick 2 rfl).own.slg
                clear H hHeld
                refine held_up (S' := fun w' => Chg [] x10 w') (fun w' k => h10.trans k (by simp)) ?_
                clear h10
                have hHeld : Chg [] x10 x10 := Chg.refl _ _
                have hs10 := fun w' (k : Chg [] x10 w') => run_str (P := Tryz.prog) (c := c10) (o10.slg.new k) (fun e => (o10.nil_ e).1) 25 5 9 Tryz.underlying25 Tryz.underlying5 Tryz.underlying9
                rw [hsb.out] at hs10
                clear o10 hsb
                (refine take_on 28 (some 155) (v := ?_) rfl rfl (by kernel_rfl) (by kernel_rfl) (by kernel_rfl) (fun _ _ _ h => h) (by rfl) (by assumption) ?_ ?_; rotate_left; · (intro w hSw; (try dsimp only at hSw); have hq_ := hs10 _ hSw; go_simp; (try with_reducible rfl)))
                (try simp only [Act.put, List.setIfInBounds_toArray, List.set_cons_zero, List.set_cons_succ])
                clear hs10
                (refine take_on 29 (some 156) (v := ?_) rfl rfl (by kernel_rfl) (by kernel_rfl) (by kernel_rfl) (fun _ _ _ h => h) (by rfl) (by assumption) ?_ ?_; rotate_left; · (intro w hSw; (try dsimp only at hSw); go_simp; (try with_reducible rfl)))
                (try simp only [Act.put, List.setIfInBounds_toArray, List.set_cons_zero, List.set_cons_succ])
                (refine take_on 30 (some 157) (v := ?_) rfl rfl (by kernel_rfl) (by kernel_rfl) (by kernel_rfl) (fun _ _ _ h => h) (by rfl) (by assumption) ?_ ?_; rotate_left; · (intro w hSw; (try dsimp only at hSw); go_simp; (try with_reducible rfl)))
                (try simp only [Act.put, List.setIfInBounds_toArray, List.set_cons_zero, List.set_cons_succ])
                (refine take_on 31 (some 158) (v := ?_) rfl rfl (by kernel_rfl) (by kernel_rfl) (by kernel_rfl) (fun _ _ _ h => h) (by rfl) (by assumption) ?_ ?_; rotate_left; · (intro w hSw; (try dsimp only at hSw); go_simp; (try with_reducible rfl)))
                (try simp only [Act.put, List.setIfInBounds_toArray, List.set_cons_zero, List.set_cons_succ])
                (refine take_on 32 (some 159) (v := ?_) rfl rfl (by kernel_rfl) (by kernel_rfl) (by kernel_rfl) (fun _ _ _ h => h) (by rfl) (by assumption) ?_ ?_; rotate_left; · (intro w hSw; (try dsimp only at hSw); go_simp; (try with_reducible rfl)))
                (try simp only [Act.put, List.setIfInBounds_toArray, List.set_cons_zero, List.set_cons_succ])
                (refine take_on 33 (some 160) (v := ?_) rfl rfl (by kernel_rfl) (by kernel_rfl) (by kernel_rfl) (fun _ _ _ h => h) (by rfl) (by assumption) ?_ ?_; rotate_left; · (intro w hSw; (try dsimp only at hSw); go_simp; (try with_reducible rfl)))
                (try simp only [Act.put, List.setIfInBounds_toArray, List.set_cons_zero, List.set_cons_succ])
                refine wpAnyH_ready (rs := [34]) (by kernel_rfl) (by simp) ?_; refine AllReadyH.cons (o := _) rfl (fun K hK => ?_) AllReadyH.nil
                go_simp
                (go_at_call 28; refine (ChSame_any A2 A3 _ _ c2 c3 L2 L2 _ sx sy).mono ?_; rintro e x11 ⟨rfl, y10⟩; rw [decide_eq_true (rfl : L2 = L2)])
                refine hK.out _ _ (by (try dsimp only); exact hHeld.trans y10 (by simp)) (fun hHeld => ?_)
                clear hK K
                (try simp only [Act.put, List.setIfInBounds_toArray, List.set_cons_zero, List.set_cons_succ])
                clear sx sy
                (refine take_on 35 (some 162) (v := ?_) rfl rfl (by kernel_rfl) (by kernel_rfl) (by kernel_rfl) (fun _ _ _ h => h) (by rfl) (by assumption) ?_ ?_; rotate_left; · (intro w hSw; (try dsimp only at hSw); go_simp; (try with_reducible rfl)))
                (try simp only [Act.put, List.setIfInBounds_toArray, List.set_cons_zero, List.set_cons_succ])
                (refine take_on 36 (some 163) (v := ?_) rfl rfl (by kernel_rfl) (by kernel_rfl) (by kernel_rfl) (fun _ _ _ h => h) (by rfl) (by assumption) ?_ ?_; rotate_left; · (intro w hSw; (try dsimp only at hSw); go_simp; (try with_reducible rfl)))
                (try simp only [Act.put, List.setIfInBounds_toArray, List.set_cons_zero, List.set_cons_succ])
                (refine take_on 37 (some 164) (v := ?_) rfl rfl (by kernel_rfl) (by kernel_rfl) (by kernel_rfl) (fun _ _ _ h => h) (by rfl) (by assumption) ?_ ?_; rotate_left; · (intro w hSw; (try dsimp only at hSw); go_simp; (try with_reducible rfl)))
                (try simp only [Act.put, List.setIfInBounds_toArray, List.set_cons_zero, List.set_cons_succ])
                (refine take_on 38 (some 165) (v := ?_) rfl rfl (by kernel_rfl) (by kernel_rfl) (by kernel_rfl) (fun _ _ _ h => h) (by rfl) (by assumption) ?_ ?_; rotate_left; · (intro w hSw; (try dsimp only at hSw); go_simp; (try with_reducible rfl)))
                (try simp only [Act.put, List.setIfInBounds_toArray, List.set_cons_zero, List.set_cons_succ])
                (refine take_on 39 (some 166) (v := ?_) rfl rfl (by kernel_rfl) (by kernel_rfl) (by kernel_rfl) (fun _ _ _ h => h) (by rfl) (by assumption) ?_ ?_; rotate_left; · (intro w hSw; (try dsimp only at hSw); go_simp; (try with_reducible rfl)))
                (try simp only [Act.put, List.setIfInBounds_toArray, List.set_cons_zero, List.set_cons_succ])
                (refine take_on 40 (some 167) (v := ?_) rfl rfl (by kernel_rfl) (by kernel_rfl) (by kernel_rfl) (fun _ _ _ h => h) (by rfl) (by assumption) ?_ ?_; rotate_left; · (intro w hSw; (try dsimp only at hSw); go_simp; (try with_reducible rfl)))
                (try simp only [Act.put, List.setIfInBounds_toArray, List.set_cons_zero, List.set_cons_succ])
                (refine take_on 41 (some 8) (v := ?_) rfl rfl (by kernel_rfl) (by kernel_rfl) (by kernel_rfl) (fun _ _ _ h => h) (by rfl) (by assumption) ?_ ?_; rotate_left; · (intro w hSw; (try dsimp only at hSw); go_simp; (try with_reducible rfl)))
                (try simp only [Act.put, List.setIfInBounds_toArray, List.set_cons_zero, List.set_cons_succ])
                refine wpAnyH_done (by kernel_rfl) ?_ _
                refine NoPanic.normal ?_
                have h10 := h9.trans hHeld (by simp)
                clear hHeld y10
                go_wp2_with fail
                go_ret
                exact ⟨rfl, h10⟩

end Go.Proofs.YtgebfagiomcmbaaGreatDoor
