/-
  The contract of choice.Apply.
-/
import Derived.Test.YtgebfagiomcmbaaGreatDoorChoiceAK
import Derived.Test.YtgebfagiomcmbaaGreatDoorG10bK
import Derived.Deep.LoopGhost
namespace Go.Proofs.YtgebfagiomcmbaaGreatDoor
open Go.RowKit Go.Shelf

set_option maxRecDepth 100000 in
set_option maxHeartbeats 4000000 in
theorem ChApply_b {w0 w : World} {F : List Nat} {m t q p h b n : Nat} {S : List Nat} {L : List Int} {s : Ms} (A : Option Addr) (nn c : Nat) (l : List Ch) (hS : ∀ w', Chg [] w0 w' → Far F w w' → SlG chE w' A nn l) (H : ModB w0 F w m t q S p L h b n s) :
    Calls Tryz.prog 16 #[.pointer (some ⟨m, 0, none⟩), .slice A nn c] w fun e w' => e = .returned (.int .i64 (appN n L s l : Nat)) ∧ ModB w0 F w' m t q S p L h b n (appM n L s l) ∧ Far F w w' := by
  have hnn := (hS w H.c0 (Far.refl _ _)).le
  have hll := Lib.hid (hS w H.c0 (Far.refl _ _)).len
  have f0 := Far.refl F w
  go_enter Tryz.func16, Tryz.ntmps16
  go_wp2_with fail
  go_loopg [5, 10] nn (fun gg s5 s10 wr => ∃ (k : Nat), k ≤ nn ∧ nn - k ≤ gg ∧ s5 = .int .i64 (appN n L s (l.take k) : Nat) ∧ s10 = .int .i64 k ∧ Aside (ModB w0 F wr m t q S p L h b n (appM n L s (l.take k))) ∧ Aside (Far F w wr))
  case atStart => exact ⟨0, by omega, by omega, by simp [appN], rfl, H, f0⟩
  case round =>
    obtain ⟨k, hk, hg, rfl, rfl, H, f⟩ := hrel
    clear f0
    have H := H.out
    have f := f.out
    by_cases hlt : k < nn
    · obtain ⟨bl, off, ⟨cf, cp⟩, rfl, hbl, hx, c0, c1⟩ := SlC.get (hS _ H.c0 f) hlt
      have hM := Lib.hid (appM_succ (n := n) (L := L) (s := s) hx)
      have hN := Lib.hid (appN_succ (n := n) (L := L) (s := s) hx)
      have hNl : appN n L s (l.take k) ≤ k := Nat.le_trans (appN_le _ _) (by simp; omega)
      simp only at c0 c1
      generalize appM n L s (l.take k) = s1 at *
      generalize appN n L s (l.take k) = N at *
      clear hx
      have al := (Chg.refl [] wr).alloc (.cells #[.bool cf, .int .i64 cp] 56)
      have B := Blk.new wr 56 #[.bool cf, .int .i64 cp]
      have H := H.more (G := [wr.heap.size]) al (by intro i hi; simp at hi; subst hi; simp)
      have f := f.trans (Far.of_new al)
      have hR := fun w9 => ChRight_any cf cp w9
      clear al
      go_wp2_with fail
      generalize hw1 : wr.alloc (.cells #[.bool cf, .int .i64 cp] 56) = w1 at *
      generalize wr.heap.size = g at *
      clear hw1 c0 c1
      cases hok : Ch.ok ⟨cf, cp⟩ with
      | false =>
        rw [hok] at hR
        have hM : Hid (appM n L s (l.take (k + 1)) = s1) := Lib.hid (by rw [hM.out]; unfold stepC; rw [hok]; rfl)
        have hN : Hid (appN n L s (l.take (k + 1)) = N) := Lib.hid (by rw [hN.out]; unfold didC; rw [hok]; simp)
        clear hok
        refine wp_region_noPanic ?_
        refine wp_region_held_drew (S := (fun w' => Blk w' g 56 #[.bool cf, .int .i64 cp])) (by kernel_rfl) ?_ (fun hHeld => ?_)
        · exact B.drew
        (refine take_on 0 (some 14) (v := ?_) rfl rfl (by kernel_rfl) (by kernel_rfl) (by kernel_rfl) (fun _ _ _ h => h) (by rfl) (by assumption) ?_ ?_; rotate_left; · (intro w hSw; (try dsimp only at hSw); obtain ⟨c0_, c1_⟩ := blk2 hSw; go_simp; (try with_reducible rfl)))
        (try simp only [Act.put, List.setIfInBounds_toArray, List.set_cons_zero, List.set_cons_succ])
        refine wpAnyH_ready (rs := [1]) (by kernel_rfl) (by simp) ?_; refine AllReadyH.cons (o := _) rfl (fun K hK => ?_) AllReadyH.nil
        go_simp
        (go_at_call 32; refine (hR _).mono ?_; rintro e u1 ⟨rfl, y1⟩)
        refine hK.out _ _ (by (try dsimp only); exact hHeld.chg_ y1 (by simp)) (fun hHeld => ?_)
        clear hK K
        (try simp only [Act.put, List.setIfInBounds_toArray, List.set_cons_zero, List.set_cons_succ])
        clear hR
        (refine take_on 2 (some 16) (v := ?_) rfl rfl (by kernel_rfl) (by kernel_rfl) (by kernel_rfl) (fun _ _ _ h => h) (by rfl) (by assumption) ?_ ?_; rotate_left; · (intro w hSw; (try dsimp only at hSw); go_simp; (try with_reducible rfl)))
        (try simp only [Act.put, List.setIfInBounds_toArray, List.set_cons_zero, List.set_cons_succ])
        (refine take_off 3 (some 17) rfl rfl (by kernel_rfl) (by kernel_rfl) (by kernel_rfl) (fun _ _ _ h => h) (by rfl) (by assumption) ?_)
        (try simp only [Act.put, List.setIfInBounds_toArray, List.set_cons_zero, List.set_cons_succ])
        (refine take_off 4 (some 18) rfl rfl (by kernel_rfl) (by kernel_rfl) (by kernel_rfl) (fun _ _ _ h => h) (by rfl) (by assumption) ?_)
        (try simp only [Act.put, List.setIfInBounds_toArray, List.set_cons_zero, List.set_cons_succ])
        (refine take_off 5 (some 19) rfl rfl (by kernel_rfl) (by kernel_rfl) (by kernel_rfl) (fun _ _ _ h => h) (by rfl) (by assumption) ?_)
        (try simp only [Act.put, List.setIfInBounds_toArray, List.set_cons_zero, List.set_cons_succ])
        (refine take_off 6 (some 20) rfl rfl (by kernel_rfl) (by kernel_rfl) (by kernel_rfl) (fun _ _ _ h => h) (by rfl) (by assumption) ?_)
        (try simp only [Act.put, List.setIfInBounds_toArray, List.set_cons_zero, List.set_cons_succ])
        (refine take_off 7 (some 21) rfl rfl (by kernel_rfl) (by kernel_rfl) (by kernel_rfl) (fun _ _ _ h => h) (by rfl) (by assumption) ?_)
        (try simp only [Act.put, List.setIfInBounds_toArray, List.set_cons_zero, List.set_cons_succ])
        (refine take_off 8 (some 22) rfl rfl (by kernel_rfl) (by kernel_rfl) (by kernel_rfl) (fun _ _ _ h => h) (by rfl) (by assumption) ?_)
        (try simp only [Act.put, List.setIfInBounds_toArray, List.set_cons_zero, List.set_cons_succ])
        (refine take_off 9 (some 23) rfl rfl (by kernel_rfl) (by kernel_rfl) (by kernel_rfl) (fun _ _ _ h => h) (by rfl) (by assumption) ?_)
        (try simp only [Act.put, List.setIfInBounds_toArray, List.set_cons_zero, List.set_cons_succ])
        (refine take_on 10 (some 24) (v := ?_) rfl rfl (by kernel_rfl) (by kernel_rfl) (by kernel_rfl) (fun _ _ _ h => h) (by rfl) (by assumption) ?_ ?_; rotate_left; · (intro w hSw; (try dsimp only at hSw); go_simp; (try with_reducible rfl)))
        (try simp only [Act.put, List.setIfInBounds_toArray, List.set_cons_zero, List.set_cons_succ])
        refine wpAnyH_done (by kernel_rfl) ?_ _
        refine NoPanic.normal ?_
        have y2 := (Chg.refl [] w1).drew.trans y1 (by simp)
        have H3 := H.new y2
        clear hHeld H B
        go_wp2_with fail
        go_roundg (nn - (k + 1))
        case measure => omega
        case rel => exact ⟨k + 1, by omega, by omega, by rw [hN.out], by go_num, by rw [hM.out]; exact H3.less (fun i hi => by simp [hi]), f.trans (Far.of_new y2)⟩
      | true =>
        rw [hok] at hR
        have hD := fun w9 => ChDoes_any m cf w9
        have hM := hM.out
        have hN := hN.out
        unfold stepC at hM
        unfold didC at hN
        rw [hok] at hM hN
        clear hok
        cases cf with
        | false =>
          simp only [if_true, Bool.true_and, Bool.false_eq_true, if_false] at hM hN hD
          replace hM := Lib.hid hM
          replace hN := Lib.hid hN
          refine wp_region_noPanic ?_
          refine wp_region_held_drew (S := (fun w' => Blk w' g 56 #[.bool false, .int .i64 cp])) (by kernel_rfl) ?_ (fun hHeld => ?_)
          · exact B.drew
          (refine take_on 0 (some 14) (v := ?_) rfl rfl (by kernel_rfl) (by kernel_rfl) (by kernel_rfl) (fun _ _ _ h => h) (by rfl) (by assumption) ?_ ?_; rotate_left; · (intro w hSw; (try dsimp only at hSw); obtain ⟨c0_, c1_⟩ := blk2 hSw; go_simp; (try with_reducible rfl)))
          (try simp only [Act.put, List.setIfInBounds_toArray, List.set_cons_zero, List.set_cons_succ])
          refine wpAnyH_ready (rs := [1]) (by kernel_rfl) (by simp) ?_; refine AllReadyH.cons (o := _) rfl (fun K hK => ?_) AllReadyH.nil
          go_simp
          (go_at_call 32; refine (hR _).mono ?_; rintro e u1 ⟨rfl, y1⟩)
          refine hK.out _ _ (by (try dsimp only); exact hHeld.chg_ y1 (by simp)) (fun hHeld => ?_)
          clear hK K
          (try simp only [Act.put, List.setIfInBounds_toArray, List.set_cons_zero, List.set_cons_succ])
          clear hR
          (refine take_on 2 (some 16) (v := ?_) rfl rfl (by kernel_rfl) (by kernel_rfl) (by kernel_rfl) (fun _ _ _ h => h) (by rfl) (by assumption) ?_ ?_; rotate_left; · (intro w hSw; (try dsimp only at hSw); go_simp; (try with_reducible rfl)))
          (try simp only [Act.put, List.setIfInBounds_toArray, List.set_cons_zero, List.set_cons_succ])
          (refine take_on 3 (some 17) (v := ?_) rfl rfl (by kernel_rfl) (by kernel_rfl) (by kernel_rfl) (fun _ _ _ h => h) (by rfl) (by assumption) ?_ ?_; rotate_left; · (intro w hSw; (try dsimp only at hSw); go_simp; (try with_reducible rfl)))
          (try simp only [Act.put, List.setIfInBounds_toArray, List.set_cons_zero, List.set_cons_succ])
          (refine take_on 4 (some 18) (v := ?_) rfl rfl (by kernel_rfl) (by kernel_rfl) (by kernel_rfl) (fun _ _ _ h => h) (by rfl) (by assumption) ?_ ?_; rotate_left; · (intro w hSw; (try dsimp only at hSw); go_simp; (try with_reducible rfl)))
          (try simp only [Act.put, List.setIfInBounds_toArray, List.set_cons_zero, List.set_cons_succ])
          (refine take_on 5 (some 19) (v := ?_) rfl rfl (by kernel_rfl) (by kernel_rfl) (by kernel_rfl) (fun _ _ _ h => h) (by rfl) (by assumption) ?_ ?_; rotate_left; · (intro w hSw; (try dsimp only at hSw); obtain ⟨c0_, c1_⟩ := blk2 hSw; go_simp; (try with_reducible rfl)))
          (try simp only [Act.put, List.setIfInBounds_toArray, List.set_cons_zero, List.set_cons_succ])
          (refine take_on 7 (some 21) (v := ?_) rfl rfl (by kernel_rfl) (by kernel_rfl) (by kernel_rfl) (fun _ _ _ h => h) (by rfl) (by assumption) ?_ ?_; rotate_left; · (intro w hSw; (try dsimp only at hSw); go_simp; (try with_reducible rfl)))
          (try simp only [Act.put, List.setIfInBounds_toArray, List.set_cons_zero, List.set_cons_succ])
          (refine take_on 8 (some 22) (v := ?_) rfl rfl (by kernel_rfl) (by kernel_rfl) (by kernel_rfl) (fun _ _ _ h => h) (by rfl) (by assumption) ?_ ?_; rotate_left; · (intro w hSw; (try dsimp only at hSw); obtain ⟨c0_, c1_⟩ := blk2 hSw; go_simp; (try with_reducible rfl)))
          (try simp only [Act.put, List.setIfInBounds_toArray, List.set_cons_zero, List.set_cons_succ])
          refine wpAnyH_ready (rs := [6]) (by kernel_rfl) (by simp) ?_; refine AllReadyH.cons (o := _) rfl (fun K hK => ?_) AllReadyH.nil
          go_simp
          (go_at_call 64; refine (hD _).mono ?_; rintro e u2 ⟨rfl, y2⟩)
          refine hK.out _ _ (by (try dsimp only); exact hHeld.chg_ y2 (by simp)) (fun hHeld => ?_)
          clear hK K
          (try simp only [Act.put, List.setIfInBounds_toArray, List.set_cons_zero, List.set_cons_succ])
          clear hD
          have y3 := ((Chg.refl [] w1).drew.trans y1 (by simp)).trans y2 (by simp)
          have H2 := H.new y3
          refine wpAnyH_ready (rs := [9]) (by kernel_rfl) (by simp) ?_; refine AllReadyH.cons (o := _) rfl (fun K hK => ?_) AllReadyH.nil
          go_simp
          (go_at_call 100; refine (MForget_b cp H2).mono ?_; rintro e u3 ⟨rfl, H3, f3⟩)
          refine hK.out _ _ (by (try dsimp only); exact f3.blk hHeld (by simp)) (fun hHeld => ?_)
          clear hK K
          (try simp only [Act.put, List.setIfInBounds_toArray, List.set_cons_zero, List.set_cons_succ])
          clear H2 H B
          (refine take_on 10 (some 24) (v := ?_) rfl rfl (by kernel_rfl) (by kernel_rfl) (by kernel_rfl) (fun _ _ _ h => h) (by rfl) (by assumption) ?_ ?_; rotate_left; · (intro w hSw; (try dsimp only at hSw); go_simp; (try with_reducible rfl)))
          (try simp only [Act.put, List.setIfInBounds_toArray, List.set_cons_zero, List.set_cons_succ])
          refine wpAnyH_done (by kernel_rfl) ?_ _
          refine NoPanic.normal ?_
          have f4 := f.trans ((Far.of_new y3).trans (f3.less (fun i hi => by simp [hi])))
          have H4 := H3.less (G := F) (fun i hi => by simp [hi])
          clear hHeld H3 f3 y1 y2 y3 f
          cases hfb : hasT s1.T 0 cp
          · rw [hfb] at hN
            clear hfb
            have hN := Lib.hid (hN.out)
            go_wp2_with fail
            go_roundg (nn - (k + 1))
            case measure => omega
            case rel => exact ⟨k + 1, by omega, by omega, by rw [hN.out]; (try rfl); (try (go_num)), by go_num, by rw [hM.out]; exact H4, f4⟩
          · rw [hfb] at hN
            clear hfb
            have hN := Lib.hid (hN.out)
            go_wp2_with fail
            go_roundg (nn - (k + 1))
            case measure => omega
            case rel => exact ⟨k + 1, by omega, by omega, by rw [hN.out]; (try rfl); (try (go_num)), by go_num, by rw [hM.out]; exact H4, f4⟩
        | true =>
          simp only [if_true, Bool.true_and] at hM hN hD
          replace hM := Lib.hid hM
          replace hN := Lib.hid hN
          refine wp_region_noPanic ?_
          refine wp_region_held_drew (S := (fun w' => Blk w' g 56 #[.bool true, .int .i64 cp])) (by kernel_rfl) ?_ (fun hHeld => ?_)
          · exact B.drew
          (refine take_on 0 (some 14) (v := ?_) rfl rfl (by kernel_rfl) (by kernel_rfl) (by kernel_rfl) (fun _ _ _ h => h) (by rfl) (by assumption) ?_ ?_; rotate_left; · (intro w hSw; (try dsimp only at hSw); obtain ⟨c0_, c1_⟩ := blk2 hSw; go_simp; (try with_reducible rfl)))
          (try simp only [Act.put, List.setIfInBounds_toArray, List.set_cons_zero, List.set_cons_succ])
          refine wpAnyH_ready (rs := [1]) (by kernel_rfl) (by simp) ?_; refine AllReadyH.cons (o := _) rfl (fun K hK => ?_) AllReadyH.nil
          go_simp
          (go_at_call 32; refine (hR _).mono ?_; rintro e u1 ⟨rfl, y1⟩)
          refine hK.out _ _ (by (try dsimp only); exact hHeld.chg_ y1 (by simp)) (fun hHeld => ?_)
          clear hK K
          (try simp only [Act.put, List.setIfInBounds_toArray, List.set_cons_zero, List.set_cons_succ])
          clear hR
          (refine take_on 2 (some 16) (v := ?_) rfl rfl (by kernel_rfl) (by kernel_rfl) (by kernel_rfl) (fun _ _ _ h => h) (by rfl) (by assumption) ?_ ?_; rotate_left; · (intro w hSw; (try dsimp only at hSw); go_simp; (try with_reducible rfl)))
          (try simp only [Act.put, List.setIfInBounds_toArray, List.set_cons_zero, List.set_cons_succ])
          (refine take_on 3 (some 17) (v := ?_) rfl rfl (by kernel_rfl) (by kernel_rfl) (by kernel_rfl) (fun _ _ _ h => h) (by rfl) (by assumption) ?_ ?_; rotate_left; · (intro w hSw; (try dsimp only at hSw); go_simp; (try with_reducible rfl)))
          (try simp only [Act.put, List.setIfInBounds_toArray, List.set_cons_zero, List.set_cons_succ])
          (refine take_on 4 (some 18) (v := ?_) rfl rfl (by kernel_rfl) (by kernel_rfl) (by kernel_rfl) (fun _ _ _ h => h) (by rfl) (by assumption) ?_ ?_; rotate_left; · (intro w hSw; (try dsimp only at hSw); go_simp; (try with_reducible rfl)))
          (try simp only [Act.put, List.setIfInBounds_toArray, List.set_cons_zero, List.set_cons_succ])
          (refine take_on 5 (some 19) (v := ?_) rfl rfl (by kernel_rfl) (by kernel_rfl) (by kernel_rfl) (fun _ _ _ h => h) (by rfl) (by assumption) ?_ ?_; rotate_left; · (intro w hSw; (try dsimp only at hSw); obtain ⟨c0_, c1_⟩ := blk2 hSw; go_simp; (try with_reducible rfl)))
          (try simp only [Act.put, List.setIfInBounds_toArray, List.set_cons_zero, List.set_cons_succ])
          (refine take_on 7 (some 21) (v := ?_) rfl rfl (by kernel_rfl) (by kernel_rfl) (by kernel_rfl) (fun _ _ _ h => h) (by rfl) (by assumption) ?_ ?_; rotate_left; · (intro w hSw; (try dsimp only at hSw); go_simp; (try with_reducible rfl)))
          (try simp only [Act.put, List.setIfInBounds_toArray, List.set_cons_zero, List.set_cons_succ])
          (refine take_on 8 (some 22) (v := ?_) rfl rfl (by kernel_rfl) (by kernel_rfl) (by kernel_rfl) (fun _ _ _ h => h) (by rfl) (by assumption) ?_ ?_; rotate_left; · (intro w hSw; (try dsimp only at hSw); obtain ⟨c0_, c1_⟩ := blk2 hSw; go_simp; (try with_reducible rfl)))
          (try simp only [Act.put, List.setIfInBounds_toArray, List.set_cons_zero, List.set_cons_succ])
          refine wpAnyH_ready (rs := [6]) (by kernel_rfl) (by simp) ?_; refine AllReadyH.cons (o := _) rfl (fun K hK => ?_) AllReadyH.nil
          go_simp
          (go_at_call 64; refine (hD _).mono ?_; rintro e u2 ⟨rfl, y2⟩)
          refine hK.out _ _ (by (try dsimp only); exact hHeld.chg_ y2 (by simp)) (fun hHeld => ?_)
          clear hK K
          (try simp only [Act.put, List.setIfInBounds_toArray, List.set_cons_zero, List.set_cons_succ])
          clear hD
          have y3 := ((Chg.refl [] w1).drew.trans y1 (by simp)).trans y2 (by simp)
          have H2 := H.new y3
          refine wpAnyH_ready (rs := [9]) (by kernel_rfl) (by simp) ?_; refine AllReadyH.cons (o := _) rfl (fun K hK => ?_) AllReadyH.nil
          go_simp
          (go_at_call 31; refine (MFind_b cp H2).mono ?_; rintro e u3 ⟨rfl, H3, f3⟩)
          refine hK.out _ _ (by (try dsimp only); exact f3.blk hHeld (by simp)) (fun hHeld => ?_)
          clear hK K
          (try simp only [Act.put, List.setIfInBounds_toArray, List.set_cons_zero, List.set_cons_succ])
          clear H2 H B
          (refine take_on 10 (some 24) (v := ?_) rfl rfl (by kernel_rfl) (by kernel_rfl) (by kernel_rfl) (fun _ _ _ h => h) (by rfl) (by assumption) ?_ ?_; rotate_left; · (intro w hSw; (try dsimp only at hSw); go_simp; (try with_reducible rfl)))
          (try simp only [Act.put, List.setIfInBounds_toArray, List.set_cons_zero, List.set_cons_succ])
          refine wpAnyH_done (by kernel_rfl) ?_ _
          refine NoPanic.normal ?_
          have f4 := f.trans ((Far.of_new y3).trans (f3.less (fun i hi => by simp [hi])))
          have H4 := H3.less (G := F) (fun i hi => by simp [hi])
          clear hHeld H3 f3 y1 y2 y3 f
          cases hfb : findB n L s1 cp
          · rw [hfb] at hN
            clear hfb
            have hN := Lib.hid (hN.out)
            go_wp2_with fail
            go_roundg (nn - (k + 1))
            case measure => omega
            case rel => exact ⟨k + 1, by omega, by omega, by rw [hN.out]; (try rfl); (try (go_num)), by go_num, by rw [hM.out]; exact H4, f4⟩
          · rw [hfb] at hN
            clear hfb
            have hN := Lib.hid (hN.out)
            go_wp2_with fail
            go_roundg (nn - (k + 1))
            case measure => omega
            case rel => exact ⟨k + 1, by omega, by omega, by rw [hN.out]; (try rfl); (try (go_num)), by go_num, by rw [hM.out]; exact H4, f4⟩
    · obtain rfl : k = nn := by omega
      rw [show l.take k = l from by rw [← hll.out, List.take_length]] at *
      go_wp2_with fail
      go_ret
      exact ⟨rfl, H, f⟩

end Go.Proofs.YtgebfagiomcmbaaGreatDoor
