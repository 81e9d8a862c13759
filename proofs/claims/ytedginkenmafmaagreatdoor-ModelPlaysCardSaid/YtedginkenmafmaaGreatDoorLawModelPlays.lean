/-
  ModelPlays: the walk.
-/
import Derived.Test.YtedginkenmafmaaGreatDoorModelHead
import Derived.Test.YtedginkenmafmaaGreatDoorModelQ
import Derived.Test.YtedginkenmafmaaGreatDoorG4r
import Derived.Test.YtedginkenmafmaaGreatDoorModelRF
import Derived.Test.YtedginkenmafmaaGreatDoorModelRD
import Derived.Test.YtedginkenmafmaaGreatDoorG1
namespace Go.Proofs.YtedginkenmafmaaGreatDoor
open Go.RowKit Go.Shelf Go.Maps

set_option maxRecDepth 100000 in
set_option maxHeartbeats 40000000 in
theorem ModelPlays_walk (A : Option Addr) (ml c : Nat) (l : List Pu) (root : Int) (B : Option Addr) (no d : Nat) (ops : List OpM) (w : World) (h : SlP w A ml l) (ho : SlM w B no ops) (hE : ErrIn w) :
    Calls Tryz.prog 3 #[.slice A ml c, .int .i64 root, .slice B no d] w fun e w' => e = .returned (.bool true) ∧ Chg [] w w' := by
  have hwd := (made_wd l h.wf).1
  have hle := h.le
  have hlo := ho.le
  go_enter Tryz.func3, Tryz.ntmps3
  go_wp2_with fail
  refine (Mohead_any _ hE).mono ?_; rintro e w1 ⟨rfl, k1⟩
  go_wp2_with fail
  refine (Made_at A ml c l _ (h.self k1)).mono ?_; rintro e w2 ⟨q, S, p, hh, b, rfl, k2, g2, hb⟩
  have k3 : Chg [] w w2 := k1.trans k2 (by simp)
  have hbw : w.heap.size ≤ b := Nat.le_trans k1.size hb
  clear k1 k2 hb
  by_cases hbigml : (ml : Int) > 600
  · go_wp2_with fail
    go_ret
    exact ⟨rfl, k3⟩
  · by_cases hbigno : (no : Int) > 200
    · go_wp2_with fail
      go_ret
      exact ⟨rfl, k3⟩
    · go_wp2_with fail
      refine (PlainN_at A ml c l _ (h.self k3)).mono ?_; rintro e w3 ⟨q', S', p', h', b', rfl, k4, g4, hn⟩
      generalize madeW l = W at *
      clear h
      go_wp2_with fail
      refine (MNewN_at root _ q).mono ?_; rintro e w4 ⟨m, rfl, k5, t5, m5, hm5⟩
      go_wp2_with fail
      refine (RMNewN_at root _ q').mono ?_; rintro e w5 ⟨m', rfl, k6, t6, m6, hm6⟩
      have H := PR.start hE hwd k3 g2 hbw k4 g4 hn k5 t5 m5 hm5 k6 t6 m6 hm6
      clear k3 g2 hbw k4 g4 hn k5 t5 m5 hm5 k6 t6 m6 hm6
      generalize w3.heap.size = t at *
      generalize w4.heap.size = t' at *
      generalize (⟨W, root, []⟩ : Ms) = s0 at *
      go_wp2_with fail
      go_loopg [12] no (fun gg s12 wr => ∃ (k : Nat) (s : Ms), k ≤ no ∧ no - k ≤ gg ∧ s12 = .int .i64 k ∧ Aside (PR w [] wr m t q S p L16 hh b 16 s m' t' q' S' p' h' b' s))
      case atStart => exact ⟨0, s0, by omega, by omega, rfl, H⟩
      case round =>
        clear H
        obtain ⟨k, s, hk, hg, rfl, H⟩ := hrel
        by_cases hlt : k < no
        · obtain ⟨ob, off, o, rfl, _, hok, how, hc⟩ := (ho.new H.out.c0).get hlt
          obtain ⟨c0, c1, c2, c3, c4, c5, c6, c7⟩ := hc
          clear hok
          have hltz : (k : Int) < (no : Int) := by omega
          have hoa := how.a
          have hov := how.v
          clear how
          obtain ⟨what, kd, us, a, v, g', i', page'⟩ := o
          dsimp only at *
          have al := (Chg.refl [] wr).alloc (.cells #[.int .i64 what, .int .i64 kd, .bool us, .int .u64 a, .int .u64 v, .int .i64 g', .int .i64 i', .int .i64 page'] 35)
          have b1 := Blk.new wr 35 #[.int .i64 what, .int .i64 kd, .bool us, .int .u64 a, .int .u64 v, .int .i64 g', .int .i64 i', .int .i64 page']
          have H1 := H.out.more (G := [wr.heap.size]) al (by intro i hi; simp at hi; subst hi; simp)
          rw [List.append_nil] at H1
          clear H al
          by_cases hw4 : what = 4
          · subst hw4
            have hM := fun F' z (H' : ModB w F' z m t q S p L16 hh b 16 s) => MEdit_b g' i' v hov H'
            have hR := fun F' z (H' : RModB w F' z m' t' q' S' p' L16 h' b' 16 s) => RMEdit_b g' i' v hov H'
            generalize editM 16 L16 s g' i' v = ee at hM hR
            obtain ⟨s1, ⟨oh, ov, oc, oa⟩⟩ := ee
            simp only [Ot.cs] at hM hR
            have hq := fun w9 => run_eqO oh ov oc oa oh ov oc oa w9
            simp only [Ot.eqb_self] at hq
            obtain ⟨q0, q1, q2, q3, q4, q5, q6, q7⟩ := blk8 b1
            go_wp2_with fail
            generalize wr.alloc (.cells #[.int .i64 4, .int .i64 kd, .bool us, .int .u64 a, .int .u64 v, .int .i64 g', .int .i64 i', .int .i64 page'] 35) = z1 at *
            generalize wr.heap.size = gb at *
            refine (H1.left (fun F' H' => hM F' _ H')).mono ?_; rintro e z2 ⟨rfl, H2, f2⟩
            have b2 := f2.blk b1 (by simp)
            clear q0 q1 q2 q3 q4 q5 q6 q7
            clear H1 b1 f2 hM
            have al := (Chg.refl [] z2).alloc (.cells #[.int .i64 oh, .int .u64 ov, .int .i64 oc, .int .u64 oa] 37)
            have o3 := Blk.new z2 37 #[.int .i64 oh, .int .u64 ov, .int .i64 oc, .int .u64 oa]
            have H3 := H2.more (G := [z2.heap.size]) al (by intro i hi; simp at hi; subst hi; simp)
            have b3 := b2.chg_ al (by simp)
            clear H2 b2 al
            go_wp2_with fail
            generalize z2.alloc (.cells #[.int .i64 oh, .int .u64 ov, .int .i64 oc, .int .u64 oa] 37) = z3 at *
            generalize z2.heap.size = ga at *
            refine wp_region_noPanic ?_
            refine wp_region_held_drew (S := (fun w' => Blk w' gb 35 #[.int .i64 4, .int .i64 kd, .bool us, .int .u64 a, .int .u64 v, .int .i64 g', .int .i64 i', .int .i64 page'] ∧ Blk w' ga 37 #[.int .i64 oh, .int .u64 ov, .int .i64 oc, .int .u64 oa])) (by kernel_rfl) ?_ (fun hHeld => ?_)
            · exact ⟨b3.drew, o3.drew⟩
            (refine take_on 0 (some 97) (v := ?_) rfl rfl (by kernel_rfl) (by kernel_rfl) (by kernel_rfl) (fun _ _ _ h => h) (by rfl) (by assumption) ?_ ?_; rotate_left; · (intro w hSw; (try dsimp only at hSw); obtain ⟨hSm, hSp⟩ := hSw; obtain ⟨c0_, c1_, c2_, c3_, c4_, c5_, c6_, c7_⟩ := blk8 hSm; obtain ⟨p0_, p1_, p2_, p3_, _, _, _, _⟩ := blk4 hSp; go_simp; (try with_reducible rfl)))
            (try simp only [Act.put, List.setIfInBounds_toArray, List.set_cons_zero, List.set_cons_succ])
            (refine take_on 1 (some 98) (v := ?_) rfl rfl (by kernel_rfl) (by kernel_rfl) (by kernel_rfl) (fun _ _ _ h => h) (by rfl) (by assumption) ?_ ?_; rotate_left; · (intro w hSw; (try dsimp only at hSw); obtain ⟨hSm, hSp⟩ := hSw; obtain ⟨c0_, c1_, c2_, c3_, c4_, c5_, c6_, c7_⟩ := blk8 hSm; obtain ⟨p0_, p1_, p2_, p3_, _, _, _, _⟩ := blk4 hSp; go_simp; (try with_reducible rfl)))
            (try simp only [Act.put, List.setIfInBounds_toArray, List.set_cons_zero, List.set_cons_succ])
            (refine take_on 2 (some 99) (v := ?_) rfl rfl (by kernel_rfl) (by kernel_rfl) (by kernel_rfl) (fun _ _ _ h => h) (by rfl) (by assumption) ?_ ?_; rotate_left; · (intro w hSw; (try dsimp only at hSw); obtain ⟨hSm, hSp⟩ := hSw; obtain ⟨c0_, c1_, c2_, c3_, c4_, c5_, c6_, c7_⟩ := blk8 hSm; obtain ⟨p0_, p1_, p2_, p3_, _, _, _, _⟩ := blk4 hSp; go_simp; (try with_reducible rfl)))
            (try simp only [Act.put, List.setIfInBounds_toArray, List.set_cons_zero, List.set_cons_succ])
            (refine take_on 3 (some 100) (v := ?_) rfl rfl (by kernel_rfl) (by kernel_rfl) (by kernel_rfl) (fun _ _ _ h => h) (by rfl) (by assumption) ?_ ?_; rotate_left; · (intro w hSw; (try dsimp only at hSw); obtain ⟨hSm, hSp⟩ := hSw; obtain ⟨c0_, c1_, c2_, c3_, c4_, c5_, c6_, c7_⟩ := blk8 hSm; obtain ⟨p0_, p1_, p2_, p3_, _, _, _, _⟩ := blk4 hSp; go_simp; (try with_reducible rfl)))
            (try simp only [Act.put, List.setIfInBounds_toArray, List.set_cons_zero, List.set_cons_succ])
            (refine take_on 4 (some 101) (v := ?_) rfl rfl (by kernel_rfl) (by kernel_rfl) (by kernel_rfl) (fun _ _ _ h => h) (by rfl) (by assumption) ?_ ?_; rotate_left; · (intro w hSw; (try dsimp only at hSw); obtain ⟨hSm, hSp⟩ := hSw; obtain ⟨c0_, c1_, c2_, c3_, c4_, c5_, c6_, c7_⟩ := blk8 hSm; obtain ⟨p0_, p1_, p2_, p3_, _, _, _, _⟩ := blk4 hSp; go_simp; (try with_reducible rfl)))
            (try simp only [Act.put, List.setIfInBounds_toArray, List.set_cons_zero, List.set_cons_succ])
            (refine take_on 5 (some 102) (v := ?_) rfl rfl (by kernel_rfl) (by kernel_rfl) (by kernel_rfl) (fun _ _ _ h => h) (by rfl) (by assumption) ?_ ?_; rotate_left; · (intro w hSw; (try dsimp only at hSw); obtain ⟨hSm, hSp⟩ := hSw; obtain ⟨c0_, c1_, c2_, c3_, c4_, c5_, c6_, c7_⟩ := blk8 hSm; obtain ⟨p0_, p1_, p2_, p3_, _, _, _, _⟩ := blk4 hSp; go_simp; (try with_reducible rfl)))
            (try simp only [Act.put, List.setIfInBounds_toArray, List.set_cons_zero, List.set_cons_succ])
            (refine take_on 6 (some 103) (v := ?_) rfl rfl (by kernel_rfl) (by kernel_rfl) (by kernel_rfl) (fun _ _ _ h => h) (by rfl) (by assumption) ?_ ?_; rotate_left; · (intro w hSw; (try dsimp only at hSw); obtain ⟨hSm, hSp⟩ := hSw; obtain ⟨c0_, c1_, c2_, c3_, c4_, c5_, c6_, c7_⟩ := blk8 hSm; obtain ⟨p0_, p1_, p2_, p3_, _, _, _, _⟩ := blk4 hSp; go_simp; (try with_reducible rfl)))
            (try simp only [Act.put, List.setIfInBounds_toArray, List.set_cons_zero, List.set_cons_succ])
            (refine take_on 7 (some 104) (v := ?_) rfl rfl (by kernel_rfl) (by kernel_rfl) (by kernel_rfl) (fun _ _ _ h => h) (by rfl) (by assumption) ?_ ?_; rotate_left; · (intro w hSw; (try dsimp only at hSw); obtain ⟨hSm, hSp⟩ := hSw; obtain ⟨c0_, c1_, c2_, c3_, c4_, c5_, c6_, c7_⟩ := blk8 hSm; obtain ⟨p0_, p1_, p2_, p3_, _, _, _, _⟩ := blk4 hSp; go_simp; (try with_reducible rfl)))
            (try simp only [Act.put, List.setIfInBounds_toArray, List.set_cons_zero, List.set_cons_succ])
            refine wpAnyH_ready (rs := [8]) (by kernel_rfl) (by simp) ?_; refine AllReadyH.cons (o := _) rfl (fun K hK => ?_) AllReadyH.nil
            go_simp
            (go_at_call 17; refine ((H3.new ((Chg.refl [] z3).drew)).right (fun F' H' => hR F' _ H')).mono ?_; rintro e z4 ⟨rfl, H4, f4⟩)
            refine hK.out _ _ (by (try dsimp only); exact ⟨f4.blk hHeld.1 (by simp), f4.blk hHeld.2 (by simp)⟩) (fun hHeld => ?_)
            clear hK K
            (try simp only [Act.put, List.setIfInBounds_toArray, List.set_cons_zero, List.set_cons_succ])
            (refine take_on 9 (some 106) (v := ?_) rfl rfl (by kernel_rfl) (by kernel_rfl) (by kernel_rfl) (fun _ _ _ h => h) (by rfl) (by assumption) ?_ ?_; rotate_left; · (intro w hSw; (try dsimp only at hSw); go_simp; (try with_reducible rfl)))
            (try simp only [Act.put, List.setIfInBounds_toArray, List.set_cons_zero, List.set_cons_succ])
            (refine take_on 10 (some 14) (v := ?_) rfl rfl (by kernel_rfl) (by kernel_rfl) (by kernel_rfl) (fun _ _ _ h => h) (by rfl) (by assumption) ?_ ?_; rotate_left; · (intro w hSw; (try dsimp only at hSw); go_simp; (try with_reducible rfl)))
            (try simp only [Act.put, List.setIfInBounds_toArray, List.set_cons_zero, List.set_cons_succ])
            refine wpAnyH_done (by kernel_rfl) ?_ _
            refine NoPanic.normal ?_
            have b4 := f4.blk b3.drew (by simp)
            have H5 := H4.less (G := [gb]) (fun i hi => by simp at hi; simp [hi])
            clear hHeld H3 b3 o3 H4 f4 hR hq
            have H3 := H5
            have b3 := b4
            clear H5 b4
            generalize hz3 : z4 = z3' at *
            clear hz3
            obtain ⟨q0, q1, q2, q3, q4, q5, q6, q7⟩ := blk8 b3
            have hKL := MKnown_b page' H3.modL
            have hKR := fun z (h : RModB w [] z m' t' q' S' p' L16 h' b' 16 s1) => RMKnown_b page' h
            generalize getT s1.T 0 page' = gx at hKL hKR
            generalize hasT s1.T 0 page' = gy at hKL hKR
            unfold Ht.v at hKL hKR
            go_wp2_with fail
            refine hKL.mono ?_; rintro e z4 ⟨rfl, y4⟩
            clear hKL
            clear q0 q1 q2 q3 q4 q5 q6 q7
            have al := (Chg.refl [] z4).alloc (.cells #[.int .i64 gx.a, .int .i64 gx.p, .int .i64 gx.f, .bool gx.w, .bool gx.u, .bool gx.x, .bool gx.d] 45)
            have hx5 := BlkH.new z4 gx
            have H5 := (H3.new y4).new al
            have b5 := (b3.chg_ y4 (by simp)).chg_ al (by simp)
            clear H3 b3 y4 al
            obtain ⟨q0, q1, q2, q3, q4, q5, q6, q7⟩ := blk8 b5
            go_wp2_with fail
            generalize z4.heap.size = zx at *
            generalize z4.alloc (.cells #[.int .i64 gx.a, .int .i64 gx.p, .int .i64 gx.f, .bool gx.w, .bool gx.u, .bool gx.x, .bool gx.d] 45) = z5 at *
            refine (hKR _ H5.modR).mono ?_; rintro e z6 ⟨rfl, y6⟩
            clear hKR
            clear q0 q1 q2 q3 q4 q5 q6 q7
            have al := (Chg.refl [] z6).alloc (.cells #[.int .i64 gx.a, .int .i64 gx.p, .int .i64 gx.f, .bool gx.w, .bool gx.u, .bool gx.x, .bool gx.d] 45)
            have hy7 := BlkH.new z6 gx
            have hx7 := (hx5.chg y6 (by simp)).chg al (by simp)
            have H7 := ((H5.new y6).new al).less (G := []) (by simp)
            clear H5 b5 hx5 y6 al
            obtain ⟨x0, x1, x2, x3, x4, x5, x6⟩ := hx7.cells
            obtain ⟨y0, y1, y2, y3, y4, y5, y6⟩ := hy7.cells
            have hq := fun w => run_neH gx gx w
            simp only [Ht.v, Ht.eqb_self, Bool.not_true] at hq
            clear hx7 hy7
            go_wp2_with fail
            clear x0 x1 x2 x3 x4 x5 x6 y0 y1 y2 y3 y4 y5 y6 hq
            generalize z6.alloc (.cells #[.int .i64 gx.a, .int .i64 gx.p, .int .i64 gx.f, .bool gx.w, .bool gx.u, .bool gx.x, .bool gx.d] 45) = z7 at *
            refine (MAll_b H7.modL).mono ?_; rintro e z8 ⟨A8, c8, rfl, y8, o8, _⟩
            have s8 := o8.slh
            have H8 := H7.new y8
            clear H7 y8 o8
            go_wp2_with fail
            refine (RMAll_b H8.modR).mono ?_; rintro e z9 ⟨A9, c9, rfl, y9, o9, _⟩
            have s9 := o9.slh
            have s8' := s8.new y9
            have H9 := H8.new y9
            clear H8 y9 o9 s8
            go_wp2_with fail
            have hSm := TSame_at A8 A9 _ _ c8 c9 s1.T s1.T _ s8' s9
            rw [eqHs_self] at hSm
            refine hSm.mono ?_; rintro e z10 ⟨rfl, y10⟩
            have H10 := H9.new y10
            clear H9 y10 hSm s8' s9
            go_wp2_with fail
            refine (GuAll_at q S p L16 hh b 16 s1.W _ H10.gu).mono ?_; rintro e z11 ⟨A11, c11, rfl, y11, o11, _⟩
            rw [L16_len] at o11 ⊢
            have s11 := ownI_slu o11
            have H11 := H10.new y11
            clear H10 y11 o11
            go_wp2_with fail
            refine (RGuAll_at q' S' p' L16 h' b' 16 s1.W _ H11.gr).mono ?_; rintro e z12 ⟨A12, c12, rfl, y12, o12, _⟩
            rw [L16_len] at o12 ⊢
            have s12 := ownI_slu o12
            have s11' := s11.chg y12 (by simp)
            have H12 := H11.new y12
            clear H11 y12 o12 s11
            go_wp2_with fail
            have hSw := SameWords_any A11 A12 _ _ c11 c12 _ _ _ s11' s12 (by omega) (by omega)
            rw [eqL_self] at hSw
            refine hSw.mono ?_; rintro e z13 ⟨rfl, nq, rfl⟩
            have H13 := H12.new ((Chg.refl [] z12).drewN nq)
            clear H12 hSw s11' s12
            go_wp2_with fail
            go_roundg (no - (k + 1))
            case measure => omega
            case rel => exact ⟨k + 1, s1, by omega, by omega, by go_num, H13⟩
          by_cases hw5 : what = 5
          · subst hw5
            obtain ⟨q0, q1, q2, q3, q4, q5, q6, q7⟩ := blk8 b1
            go_wp2_with fail
            generalize wr.alloc (.cells #[.int .i64 5, .int .i64 kd, .bool us, .int .u64 a, .int .u64 v, .int .i64 g', .int .i64 i', .int .i64 page'] 35) = z1 at *
            generalize wr.heap.size = gb at *
            refine (H1.left (fun F' H' => MForget_b page' H')).mono ?_; rintro e z2 ⟨rfl, H2, f2⟩
            have b2 := f2.blk b1 (by simp)
            clear q0 q1 q2 q3 q4 q5 q6 q7
            clear H1 b1 f2
            obtain ⟨q0, q1, q2, q3, q4, q5, q6, q7⟩ := blk8 b2
            go_wp2_with fail
            refine (H2.right (fun F' H' => RMForget_b page' H')).mono ?_; rintro e z3 ⟨rfl, H3, f3⟩
            have b3 := f3.blk b2 (by simp)
            clear q0 q1 q2 q3 q4 q5 q6 q7
            clear H2 b2 f3
            obtain ⟨q0, q1, q2, q3, q4, q5, q6, q7⟩ := blk8 b3
            generalize forgetM s page' = s1 at *
            have hKL := MKnown_b page' H3.modL
            have hKR := fun z (h : RModB w [] z m' t' q' S' p' L16 h' b' 16 s1) => RMKnown_b page' h
            generalize getT s1.T 0 page' = gx at hKL hKR
            generalize hasT s1.T 0 page' = gy at hKL hKR
            unfold Ht.v at hKL hKR
            go_wp2_with fail
            refine hKL.mono ?_; rintro e z4 ⟨rfl, y4⟩
            clear hKL
            clear q0 q1 q2 q3 q4 q5 q6 q7
            have al := (Chg.refl [] z4).alloc (.cells #[.int .i64 gx.a, .int .i64 gx.p, .int .i64 gx.f, .bool gx.w, .bool gx.u, .bool gx.x, .bool gx.d] 45)
            have hx5 := BlkH.new z4 gx
            have H5 := (H3.new y4).new al
            have b5 := (b3.chg_ y4 (by simp)).chg_ al (by simp)
            clear H3 b3 y4 al
            obtain ⟨q0, q1, q2, q3, q4, q5, q6, q7⟩ := blk8 b5
            go_wp2_with fail
            generalize z4.heap.size = zx at *
            generalize z4.alloc (.cells #[.int .i64 gx.a, .int .i64 gx.p, .int .i64 gx.f, .bool gx.w, .bool gx.u, .bool gx.x, .bool gx.d] 45) = z5 at *
            refine (hKR _ H5.modR).mono ?_; rintro e z6 ⟨rfl, y6⟩
            clear hKR
            clear q0 q1 q2 q3 q4 q5 q6 q7
            have al := (Chg.refl [] z6).alloc (.cells #[.int .i64 gx.a, .int .i64 gx.p, .int .i64 gx.f, .bool gx.w, .bool gx.u, .bool gx.x, .bool gx.d] 45)
            have hy7 := BlkH.new z6 gx
            have hx7 := (hx5.chg y6 (by simp)).chg al (by simp)
            have H7 := ((H5.new y6).new al).less (G := []) (by simp)
            clear H5 b5 hx5 y6 al
            obtain ⟨x0, x1, x2, x3, x4, x5, x6⟩ := hx7.cells
            obtain ⟨y0, y1, y2, y3, y4, y5, y6⟩ := hy7.cells
            have hq := fun w => run_neH gx gx w
            simp only [Ht.v, Ht.eqb_self, Bool.not_true] at hq
            clear hx7 hy7
            go_wp2_with fail
            clear x0 x1 x2 x3 x4 x5 x6 y0 y1 y2 y3 y4 y5 y6 hq
            generalize z6.alloc (.cells #[.int .i64 gx.a, .int .i64 gx.p, .int .i64 gx.f, .bool gx.w, .bool gx.u, .bool gx.x, .bool gx.d] 45) = z7 at *
            refine (MAll_b H7.modL).mono ?_; rintro e z8 ⟨A8, c8, rfl, y8, o8, _⟩
            have s8 := o8.slh
            have H8 := H7.new y8
            clear H7 y8 o8
            go_wp2_with fail
            refine (RMAll_b H8.modR).mono ?_; rintro e z9 ⟨A9, c9, rfl, y9, o9, _⟩
            have s9 := o9.slh
            have s8' := s8.new y9
            have H9 := H8.new y9
            clear H8 y9 o9 s8
            go_wp2_with fail
            have hSm := TSame_at A8 A9 _ _ c8 c9 s1.T s1.T _ s8' s9
            rw [eqHs_self] at hSm
            refine hSm.mono ?_; rintro e z10 ⟨rfl, y10⟩
            have H10 := H9.new y10
            clear H9 y10 hSm s8' s9
            go_wp2_with fail
            refine (GuAll_at q S p L16 hh b 16 s1.W _ H10.gu).mono ?_; rintro e z11 ⟨A11, c11, rfl, y11, o11, _⟩
            rw [L16_len] at o11 ⊢
            have s11 := ownI_slu o11
            have H11 := H10.new y11
            clear H10 y11 o11
            go_wp2_with fail
            refine (RGuAll_at q' S' p' L16 h' b' 16 s1.W _ H11.gr).mono ?_; rintro e z12 ⟨A12, c12, rfl, y12, o12, _⟩
            rw [L16_len] at o12 ⊢
            have s12 := ownI_slu o12
            have s11' := s11.chg y12 (by simp)
            have H12 := H11.new y12
            clear H11 y12 o12 s11
            go_wp2_with fail
            have hSw := SameWords_any A11 A12 _ _ c11 c12 _ _ _ s11' s12 (by omega) (by omega)
            rw [eqL_self] at hSw
            refine hSw.mono ?_; rintro e z13 ⟨rfl, nq, rfl⟩
            have H13 := H12.new ((Chg.refl [] z12).drewN nq)
            clear H12 hSw s11' s12
            go_wp2_with fail
            go_roundg (no - (k + 1))
            case measure => omega
            case rel => exact ⟨k + 1, s1, by omega, by omega, by go_num, H13⟩
          by_cases hw6 : what = 6
          · subst hw6
            obtain ⟨q0, q1, q2, q3, q4, q5, q6, q7⟩ := blk8 b1
            go_wp2_with fail
            generalize wr.alloc (.cells #[.int .i64 6, .int .i64 kd, .bool us, .int .u64 a, .int .u64 v, .int .i64 g', .int .i64 i', .int .i64 page'] 35) = z1 at *
            generalize wr.heap.size = gb at *
            refine (H1.left (fun F' H' => MRoot_b g' H')).mono ?_; rintro e z2 ⟨rfl, H2, f2⟩
            have b2 := f2.blk b1 (by simp)
            clear q0 q1 q2 q3 q4 q5 q6 q7
            clear H1 b1 f2
            obtain ⟨q0, q1, q2, q3, q4, q5, q6, q7⟩ := blk8 b2
            go_wp2_with fail
            refine (H2.right (fun F' H' => RMRoot_b g' H')).mono ?_; rintro e z3 ⟨rfl, H3, f3⟩
            have b3 := f3.blk b2 (by simp)
            clear q0 q1 q2 q3 q4 q5 q6 q7
            clear H2 b2 f3
            obtain ⟨q0, q1, q2, q3, q4, q5, q6, q7⟩ := blk8 b3
            generalize rootM s g' = s1 at *
            have hKL := MKnown_b page' H3.modL
            have hKR := fun z (h : RModB w [] z m' t' q' S' p' L16 h' b' 16 s1) => RMKnown_b page' h
            generalize getT s1.T 0 page' = gx at hKL hKR
            generalize hasT s1.T 0 page' = gy at hKL hKR
            unfold Ht.v at hKL hKR
            go_wp2_with fail
            refine hKL.mono ?_; rintro e z4 ⟨rfl, y4⟩
            clear hKL
            clear q0 q1 q2 q3 q4 q5 q6 q7
            have al := (Chg.refl [] z4).alloc (.cells #[.int .i64 gx.a, .int .i64 gx.p, .int .i64 gx.f, .bool gx.w, .bool gx.u, .bool gx.x, .bool gx.d] 45)
            have hx5 := BlkH.new z4 gx
            have H5 := (H3.new y4).new al
            have b5 := (b3.chg_ y4 (by simp)).chg_ al (by simp)
            clear H3 b3 y4 al
            obtain ⟨q0, q1, q2, q3, q4, q5, q6, q7⟩ := blk8 b5
            go_wp2_with fail
            generalize z4.heap.size = zx at *
            generalize z4.alloc (.cells #[.int .i64 gx.a, .int .i64 gx.p, .int .i64 gx.f, .bool gx.w, .bool gx.u, .bool gx.x, .bool gx.d] 45) = z5 at *
            refine (hKR _ H5.modR).mono ?_; rintro e z6 ⟨rfl, y6⟩
            clear hKR
            clear q0 q1 q2 q3 q4 q5 q6 q7
            have al := (Chg.refl [] z6).alloc (.cells #[.int .i64 gx.a, .int .i64 gx.p, .int .i64 gx.f, .bool gx.w, .bool gx.u, .bool gx.x, .bool gx.d] 45)
            have hy7 := BlkH.new z6 gx
            have hx7 := (hx5.chg y6 (by simp)).chg al (by simp)
            have H7 := ((H5.new y6).new al).less (G := []) (by simp)
            clear H5 b5 hx5 y6 al
            obtain ⟨x0, x1, x2, x3, x4, x5, x6⟩ := hx7.cells
            obtain ⟨y0, y1, y2, y3, y4, y5, y6⟩ := hy7.cells
            have hq := fun w => run_neH gx gx w
            simp only [Ht.v, Ht.eqb_self, Bool.not_true] at hq
            clear hx7 hy7
            go_wp2_with fail
            clear x0 x1 x2 x3 x4 x5 x6 y0 y1 y2 y3 y4 y5 y6 hq
            generalize z6.alloc (.cells #[.int .i64 gx.a, .int .i64 gx.p, .int .i64 gx.f, .bool gx.w, .bool gx.u, .bool gx.x, .bool gx.d] 45) = z7 at *
            refine (MAll_b H7.modL).mono ?_; rintro e z8 ⟨A8, c8, rfl, y8, o8, _⟩
            have s8 := o8.slh
            have H8 := H7.new y8
            clear H7 y8 o8
            go_wp2_with fail
            refine (RMAll_b H8.modR).mono ?_; rintro e z9 ⟨A9, c9, rfl, y9, o9, _⟩
            have s9 := o9.slh
            have s8' := s8.new y9
            have H9 := H8.new y9
            clear H8 y9 o9 s8
            go_wp2_with fail
            have hSm := TSame_at A8 A9 _ _ c8 c9 s1.T s1.T _ s8' s9
            rw [eqHs_self] at hSm
            refine hSm.mono ?_; rintro e z10 ⟨rfl, y10⟩
            have H10 := H9.new y10
            clear H9 y10 hSm s8' s9
            go_wp2_with fail
            refine (GuAll_at q S p L16 hh b 16 s1.W _ H10.gu).mono ?_; rintro e z11 ⟨A11, c11, rfl, y11, o11, _⟩
            rw [L16_len] at o11 ⊢
            have s11 := ownI_slu o11
            have H11 := H10.new y11
            clear H10 y11 o11
            go_wp2_with fail
            refine (RGuAll_at q' S' p' L16 h' b' 16 s1.W _ H11.gr).mono ?_; rintro e z12 ⟨A12, c12, rfl, y12, o12, _⟩
            rw [L16_len] at o12 ⊢
            have s12 := ownI_slu o12
            have s11' := s11.chg y12 (by simp)
            have H12 := H11.new y12
            clear H11 y12 o12 s11
            go_wp2_with fail
            have hSw := SameWords_any A11 A12 _ _ c11 c12 _ _ _ s11' s12 (by omega) (by omega)
            rw [eqL_self] at hSw
            refine hSw.mono ?_; rintro e z13 ⟨rfl, nq, rfl⟩
            have H13 := H12.new ((Chg.refl [] z12).drewN nq)
            clear H12 hSw s11' s12
            go_wp2_with fail
            go_roundg (no - (k + 1))
            case measure => omega
            case rel => exact ⟨k + 1, s1, by omega, by omega, by go_num, H13⟩
          by_cases hw7 : what = 7
          · subst hw7
            obtain ⟨q0, q1, q2, q3, q4, q5, q6, q7⟩ := blk8 b1
            go_wp2_with fail
            generalize wr.alloc (.cells #[.int .i64 7, .int .i64 kd, .bool us, .int .u64 a, .int .u64 v, .int .i64 g', .int .i64 i', .int .i64 page'] 35) = z1 at *
            generalize wr.heap.size = gb at *
            refine (H1.left (fun F' H' => MFind_b page' H')).mono ?_; rintro e z2 ⟨rfl, H2, f2⟩
            have b2 := f2.blk b1 (by simp)
            clear q0 q1 q2 q3 q4 q5 q6 q7
            clear H1 b1 f2
            obtain ⟨q0, q1, q2, q3, q4, q5, q6, q7⟩ := blk8 b2
            go_wp2_with fail
            refine (H2.right (fun F' H' => RMFind_b page' H')).mono ?_; rintro e z3 ⟨rfl, H3, f3⟩
            have b3 := f3.blk b2 (by simp)
            clear q0 q1 q2 q3 q4 q5 q6 q7
            clear H2 b2 f3
            obtain ⟨q0, q1, q2, q3, q4, q5, q6, q7⟩ := blk8 b3
            generalize findM 16 L16 s page' = s1 at *
            have hKL := MKnown_b page' H3.modL
            have hKR := fun z (h : RModB w [] z m' t' q' S' p' L16 h' b' 16 s1) => RMKnown_b page' h
            generalize getT s1.T 0 page' = gx at hKL hKR
            generalize hasT s1.T 0 page' = gy at hKL hKR
            unfold Ht.v at hKL hKR
            go_wp2_with fail
            refine hKL.mono ?_; rintro e z4 ⟨rfl, y4⟩
            clear hKL
            clear q0 q1 q2 q3 q4 q5 q6 q7
            have al := (Chg.refl [] z4).alloc (.cells #[.int .i64 gx.a, .int .i64 gx.p, .int .i64 gx.f, .bool gx.w, .bool gx.u, .bool gx.x, .bool gx.d] 45)
            have hx5 := BlkH.new z4 gx
            have H5 := (H3.new y4).new al
            have b5 := (b3.chg_ y4 (by simp)).chg_ al (by simp)
            clear H3 b3 y4 al
            obtain ⟨q0, q1, q2, q3, q4, q5, q6, q7⟩ := blk8 b5
            go_wp2_with fail
            generalize z4.heap.size = zx at *
            generalize z4.alloc (.cells #[.int .i64 gx.a, .int .i64 gx.p, .int .i64 gx.f, .bool gx.w, .bool gx.u, .bool gx.x, .bool gx.d] 45) = z5 at *
            refine (hKR _ H5.modR).mono ?_; rintro e z6 ⟨rfl, y6⟩
            clear hKR
            clear q0 q1 q2 q3 q4 q5 q6 q7
            have al := (Chg.refl [] z6).alloc (.cells #[.int .i64 gx.a, .int .i64 gx.p, .int .i64 gx.f, .bool gx.w, .bool gx.u, .bool gx.x, .bool gx.d] 45)
            have hy7 := BlkH.new z6 gx
            have hx7 := (hx5.chg y6 (by simp)).chg al (by simp)
            have H7 := ((H5.new y6).new al).less (G := []) (by simp)
            clear H5 b5 hx5 y6 al
            obtain ⟨x0, x1, x2, x3, x4, x5, x6⟩ := hx7.cells
            obtain ⟨y0, y1, y2, y3, y4, y5, y6⟩ := hy7.cells
            have hq := fun w => run_neH gx gx w
            simp only [Ht.v, Ht.eqb_self, Bool.not_true] at hq
            clear hx7 hy7
            go_wp2_with fail
            clear x0 x1 x2 x3 x4 x5 x6 y0 y1 y2 y3 y4 y5 y6 hq
            generalize z6.alloc (.cells #[.int .i64 gx.a, .int .i64 gx.p, .int .i64 gx.f, .bool gx.w, .bool gx.u, .bool gx.x, .bool gx.d] 45) = z7 at *
            refine (MAll_b H7.modL).mono ?_; rintro e z8 ⟨A8, c8, rfl, y8, o8, _⟩
            have s8 := o8.slh
            have H8 := H7.new y8
            clear H7 y8 o8
            go_wp2_with fail
            refine (RMAll_b H8.modR).mono ?_; rintro e z9 ⟨A9, c9, rfl, y9, o9, _⟩
            have s9 := o9.slh
            have s8' := s8.new y9
            have H9 := H8.new y9
            clear H8 y9 o9 s8
            go_wp2_with fail
            have hSm := TSame_at A8 A9 _ _ c8 c9 s1.T s1.T _ s8' s9
            rw [eqHs_self] at hSm
            refine hSm.mono ?_; rintro e z10 ⟨rfl, y10⟩
            have H10 := H9.new y10
            clear H9 y10 hSm s8' s9
            go_wp2_with fail
            refine (GuAll_at q S p L16 hh b 16 s1.W _ H10.gu).mono ?_; rintro e z11 ⟨A11, c11, rfl, y11, o11, _⟩
            rw [L16_len] at o11 ⊢
            have s11 := ownI_slu o11
            have H11 := H10.new y11
            clear H10 y11 o11
            go_wp2_with fail
            refine (RGuAll_at q' S' p' L16 h' b' 16 s1.W _ H11.gr).mono ?_; rintro e z12 ⟨A12, c12, rfl, y12, o12, _⟩
            rw [L16_len] at o12 ⊢
            have s12 := ownI_slu o12
            have s11' := s11.chg y12 (by simp)
            have H12 := H11.new y12
            clear H11 y12 o12 s11
            go_wp2_with fail
            have hSw := SameWords_any A11 A12 _ _ c11 c12 _ _ _ s11' s12 (by omega) (by omega)
            rw [eqL_self] at hSw
            refine hSw.mono ?_; rintro e z13 ⟨rfl, nq, rfl⟩
            have H13 := H12.new ((Chg.refl [] z12).drewN nq)
            clear H12 hSw s11' s12
            go_wp2_with fail
            go_roundg (no - (k + 1))
            case measure => omega
            case rel => exact ⟨k + 1, s1, by omega, by omega, by go_num, H13⟩
          have hb4 : (what == 4) = false := by simpa using hw4
          have hb5 : (what == 5) = false := by simpa using hw5
          have hb6 : (what == 6) = false := by simpa using hw6
          have hb7 : (what == 7) = false := by simpa using hw7
          have hM := fun F' z (H' : ModB w F' z m t q S p L16 hh b 16 s) => MAcc_b kd us a v hoa hov H'
          have hR := fun F' z (H' : RModB w F' z m' t' q' S' p' L16 h' b' 16 s) => RMAcc_b kd us a v hoa hov H'
          generalize accM 16 L16 s kd us a v = ee at hM hR
          obtain ⟨s1, ⟨oh, ov, oc, oa⟩⟩ := ee
          simp only [Ot.cs] at hM hR
          have hq := fun w9 => run_eqO oh ov oc oa oh ov oc oa w9
          simp only [Ot.eqb_self] at hq
          obtain ⟨q0, q1, q2, q3, q4, q5, q6, q7⟩ := blk8 b1
          go_wp2_with fail
          generalize wr.alloc (.cells #[.int .i64 what, .int .i64 kd, .bool us, .int .u64 a, .int .u64 v, .int .i64 g', .int .i64 i', .int .i64 page'] 35) = z1 at *
          generalize wr.heap.size = gb at *
          refine (H1.left (fun F' H' => hM F' _ H')).mono ?_; rintro e z2 ⟨rfl, H2, f2⟩
          have b2 := f2.blk b1 (by simp)
          clear q0 q1 q2 q3 q4 q5 q6 q7
          clear H1 b1 f2 hM
          have al := (Chg.refl [] z2).alloc (.cells #[.int .i64 oh, .int .u64 ov, .int .i64 oc, .int .u64 oa] 37)
          have o3 := Blk.new z2 37 #[.int .i64 oh, .int .u64 ov, .int .i64 oc, .int .u64 oa]
          have H3 := H2.more (G := [z2.heap.size]) al (by intro i hi; simp at hi; subst hi; simp)
          have b3 := b2.chg_ al (by simp)
          clear H2 b2 al
          go_wp2_with fail
          generalize z2.alloc (.cells #[.int .i64 oh, .int .u64 ov, .int .i64 oc, .int .u64 oa] 37) = z3 at *
          generalize z2.heap.size = ga at *
          refine wp_region_noPanic ?_
          refine wp_region_held_drew (S := (fun w' => Blk w' gb 35 #[.int .i64 what, .int .i64 kd, .bool us, .int .u64 a, .int .u64 v, .int .i64 g', .int .i64 i', .int .i64 page'] ∧ Blk w' ga 37 #[.int .i64 oh, .int .u64 ov, .int .i64 oc, .int .u64 oa])) (by kernel_rfl) ?_ (fun hHeld => ?_)
          · exact ⟨b3.drew, o3.drew⟩
          (refine take_on 0 (some 75) (v := ?_) rfl rfl (by kernel_rfl) (by kernel_rfl) (by kernel_rfl) (fun _ _ _ h => h) (by rfl) (by assumption) ?_ ?_; rotate_left; · (intro w hSw; (try dsimp only at hSw); obtain ⟨hSm, hSp⟩ := hSw; obtain ⟨c0_, c1_, c2_, c3_, c4_, c5_, c6_, c7_⟩ := blk8 hSm; obtain ⟨p0_, p1_, p2_, p3_, _, _, _, _⟩ := blk4 hSp; go_simp; (try with_reducible rfl)))
          (try simp only [Act.put, List.setIfInBounds_toArray, List.set_cons_zero, List.set_cons_succ])
          (refine take_on 1 (some 76) (v := ?_) rfl rfl (by kernel_rfl) (by kernel_rfl) (by kernel_rfl) (fun _ _ _ h => h) (by rfl) (by assumption) ?_ ?_; rotate_left; · (intro w hSw; (try dsimp only at hSw); obtain ⟨hSm, hSp⟩ := hSw; obtain ⟨c0_, c1_, c2_, c3_, c4_, c5_, c6_, c7_⟩ := blk8 hSm; obtain ⟨p0_, p1_, p2_, p3_, _, _, _, _⟩ := blk4 hSp; go_simp; (try with_reducible rfl)))
          (try simp only [Act.put, List.setIfInBounds_toArray, List.set_cons_zero, List.set_cons_succ])
          (refine take_on 2 (some 77) (v := ?_) rfl rfl (by kernel_rfl) (by kernel_rfl) (by kernel_rfl) (fun _ _ _ h => h) (by rfl) (by assumption) ?_ ?_; rotate_left; · (intro w hSw; (try dsimp only at hSw); obtain ⟨hSm, hSp⟩ := hSw; obtain ⟨c0_, c1_, c2_, c3_, c4_, c5_, c6_, c7_⟩ := blk8 hSm; obtain ⟨p0_, p1_, p2_, p3_, _, _, _, _⟩ := blk4 hSp; go_simp; (try with_reducible rfl)))
          (try simp only [Act.put, List.setIfInBounds_toArray, List.set_cons_zero, List.set_cons_succ])
          (refine take_on 3 (some 78) (v := ?_) rfl rfl (by kernel_rfl) (by kernel_rfl) (by kernel_rfl) (fun _ _ _ h => h) (by rfl) (by assumption) ?_ ?_; rotate_left; · (intro w hSw; (try dsimp only at hSw); obtain ⟨hSm, hSp⟩ := hSw; obtain ⟨c0_, c1_, c2_, c3_, c4_, c5_, c6_, c7_⟩ := blk8 hSm; obtain ⟨p0_, p1_, p2_, p3_, _, _, _, _⟩ := blk4 hSp; go_simp; (try with_reducible rfl)))
          (try simp only [Act.put, List.setIfInBounds_toArray, List.set_cons_zero, List.set_cons_succ])
          (refine take_on 4 (some 79) (v := ?_) rfl rfl (by kernel_rfl) (by kernel_rfl) (by kernel_rfl) (fun _ _ _ h => h) (by rfl) (by assumption) ?_ ?_; rotate_left; · (intro w hSw; (try dsimp only at hSw); obtain ⟨hSm, hSp⟩ := hSw; obtain ⟨c0_, c1_, c2_, c3_, c4_, c5_, c6_, c7_⟩ := blk8 hSm; obtain ⟨p0_, p1_, p2_, p3_, _, _, _, _⟩ := blk4 hSp; go_simp; (try with_reducible rfl)))
          (try simp only [Act.put, List.setIfInBounds_toArray, List.set_cons_zero, List.set_cons_succ])
          (refine take_on 5 (some 80) (v := ?_) rfl rfl (by kernel_rfl) (by kernel_rfl) (by kernel_rfl) (fun _ _ _ h => h) (by rfl) (by assumption) ?_ ?_; rotate_left; · (intro w hSw; (try dsimp only at hSw); obtain ⟨hSm, hSp⟩ := hSw; obtain ⟨c0_, c1_, c2_, c3_, c4_, c5_, c6_, c7_⟩ := blk8 hSm; obtain ⟨p0_, p1_, p2_, p3_, _, _, _, _⟩ := blk4 hSp; go_simp; (try with_reducible rfl)))
          (try simp only [Act.put, List.setIfInBounds_toArray, List.set_cons_zero, List.set_cons_succ])
          (refine take_on 6 (some 81) (v := ?_) rfl rfl (by kernel_rfl) (by kernel_rfl) (by kernel_rfl) (fun _ _ _ h => h) (by rfl) (by assumption) ?_ ?_; rotate_left; · (intro w hSw; (try dsimp only at hSw); obtain ⟨hSm, hSp⟩ := hSw; obtain ⟨c0_, c1_, c2_, c3_, c4_, c5_, c6_, c7_⟩ := blk8 hSm; obtain ⟨p0_, p1_, p2_, p3_, _, _, _, _⟩ := blk4 hSp; go_simp; (try with_reducible rfl)))
          (try simp only [Act.put, List.setIfInBounds_toArray, List.set_cons_zero, List.set_cons_succ])
          (refine take_on 7 (some 82) (v := ?_) rfl rfl (by kernel_rfl) (by kernel_rfl) (by kernel_rfl) (fun _ _ _ h => h) (by rfl) (by assumption) ?_ ?_; rotate_left; · (intro w hSw; (try dsimp only at hSw); obtain ⟨hSm, hSp⟩ := hSw; obtain ⟨c0_, c1_, c2_, c3_, c4_, c5_, c6_, c7_⟩ := blk8 hSm; obtain ⟨p0_, p1_, p2_, p3_, _, _, _, _⟩ := blk4 hSp; go_simp; (try with_reducible rfl)))
          (try simp only [Act.put, List.setIfInBounds_toArray, List.set_cons_zero, List.set_cons_succ])
          (refine take_on 8 (some 83) (v := ?_) rfl rfl (by kernel_rfl) (by kernel_rfl) (by kernel_rfl) (fun _ _ _ h => h) (by rfl) (by assumption) ?_ ?_; rotate_left; · (intro w hSw; (try dsimp only at hSw); obtain ⟨hSm, hSp⟩ := hSw; obtain ⟨c0_, c1_, c2_, c3_, c4_, c5_, c6_, c7_⟩ := blk8 hSm; obtain ⟨p0_, p1_, p2_, p3_, _, _, _, _⟩ := blk4 hSp; go_simp; (try with_reducible rfl)))
          (try simp only [Act.put, List.setIfInBounds_toArray, List.set_cons_zero, List.set_cons_succ])
          (refine take_on 9 (some 84) (v := ?_) rfl rfl (by kernel_rfl) (by kernel_rfl) (by kernel_rfl) (fun _ _ _ h => h) (by rfl) (by assumption) ?_ ?_; rotate_left; · (intro w hSw; (try dsimp only at hSw); obtain ⟨hSm, hSp⟩ := hSw; obtain ⟨c0_, c1_, c2_, c3_, c4_, c5_, c6_, c7_⟩ := blk8 hSm; obtain ⟨p0_, p1_, p2_, p3_, _, _, _, _⟩ := blk4 hSp; go_simp; (try with_reducible rfl)))
          (try simp only [Act.put, List.setIfInBounds_toArray, List.set_cons_zero, List.set_cons_succ])
          refine wpAnyH_ready (rs := [10]) (by kernel_rfl) (by simp) ?_; refine AllReadyH.cons (o := _) rfl (fun K hK => ?_) AllReadyH.nil
          go_simp
          (go_at_call 25; refine ((H3.new ((Chg.refl [] z3).drew)).right (fun F' H' => hR F' _ H')).mono ?_; rintro e z4 ⟨rfl, H4, f4⟩)
          refine hK.out _ _ (by (try dsimp only); exact ⟨f4.blk hHeld.1 (by simp), f4.blk hHeld.2 (by simp)⟩) (fun hHeld => ?_)
          clear hK K
          (try simp only [Act.put, List.setIfInBounds_toArray, List.set_cons_zero, List.set_cons_succ])
          (refine take_on 11 (some 86) (v := ?_) rfl rfl (by kernel_rfl) (by kernel_rfl) (by kernel_rfl) (fun _ _ _ h => h) (by rfl) (by assumption) ?_ ?_; rotate_left; · (intro w hSw; (try dsimp only at hSw); go_simp; (try with_reducible rfl)))
          (try simp only [Act.put, List.setIfInBounds_toArray, List.set_cons_zero, List.set_cons_succ])
          (refine take_on 12 (some 14) (v := ?_) rfl rfl (by kernel_rfl) (by kernel_rfl) (by kernel_rfl) (fun _ _ _ h => h) (by rfl) (by assumption) ?_ ?_; rotate_left; · (intro w hSw; (try dsimp only at hSw); go_simp; (try with_reducible rfl)))
          (try simp only [Act.put, List.setIfInBounds_toArray, List.set_cons_zero, List.set_cons_succ])
          refine wpAnyH_done (by kernel_rfl) ?_ _
          refine NoPanic.normal ?_
          have b4 := f4.blk b3.drew (by simp)
          have H5 := H4.less (G := [gb]) (fun i hi => by simp at hi; simp [hi])
          clear hHeld H3 b3 o3 H4 f4 hR hq
          have H3 := H5
          have b3 := b4
          clear H5 b4
          generalize hz3 : z4 = z3' at *
          clear hz3
          obtain ⟨q0, q1, q2, q3, q4, q5, q6, q7⟩ := blk8 b3
          have hKL := MKnown_b page' H3.modL
          have hKR := fun z (h : RModB w [] z m' t' q' S' p' L16 h' b' 16 s1) => RMKnown_b page' h
          generalize getT s1.T 0 page' = gx at hKL hKR
          generalize hasT s1.T 0 page' = gy at hKL hKR
          unfold Ht.v at hKL hKR
          go_wp2_with fail
          refine hKL.mono ?_; rintro e z4 ⟨rfl, y4⟩
          clear hKL
          clear q0 q1 q2 q3 q4 q5 q6 q7
          have al := (Chg.refl [] z4).alloc (.cells #[.int .i64 gx.a, .int .i64 gx.p, .int .i64 gx.f, .bool gx.w, .bool gx.u, .bool gx.x, .bool gx.d] 45)
          have hx5 := BlkH.new z4 gx
          have H5 := (H3.new y4).new al
          have b5 := (b3.chg_ y4 (by simp)).chg_ al (by simp)
          clear H3 b3 y4 al
          obtain ⟨q0, q1, q2, q3, q4, q5, q6, q7⟩ := blk8 b5
          go_wp2_with fail
          generalize z4.heap.size = zx at *
          generalize z4.alloc (.cells #[.int .i64 gx.a, .int .i64 gx.p, .int .i64 gx.f, .bool gx.w, .bool gx.u, .bool gx.x, .bool gx.d] 45) = z5 at *
          refine (hKR _ H5.modR).mono ?_; rintro e z6 ⟨rfl, y6⟩
          clear hKR
          clear q0 q1 q2 q3 q4 q5 q6 q7
          have al := (Chg.refl [] z6).alloc (.cells #[.int .i64 gx.a, .int .i64 gx.p, .int .i64 gx.f, .bool gx.w, .bool gx.u, .bool gx.x, .bool gx.d] 45)
          have hy7 := BlkH.new z6 gx
          have hx7 := (hx5.chg y6 (by simp)).chg al (by simp)
          have H7 := ((H5.new y6).new al).less (G := []) (by simp)
          clear H5 b5 hx5 y6 al
          obtain ⟨x0, x1, x2, x3, x4, x5, x6⟩ := hx7.cells
          obtain ⟨y0, y1, y2, y3, y4, y5, y6⟩ := hy7.cells
          have hq := fun w => run_neH gx gx w
          simp only [Ht.v, Ht.eqb_self, Bool.not_true] at hq
          clear hx7 hy7
          go_wp2_with fail
          clear x0 x1 x2 x3 x4 x5 x6 y0 y1 y2 y3 y4 y5 y6 hq
          generalize z6.alloc (.cells #[.int .i64 gx.a, .int .i64 gx.p, .int .i64 gx.f, .bool gx.w, .bool gx.u, .bool gx.x, .bool gx.d] 45) = z7 at *
          refine (MAll_b H7.modL).mono ?_; rintro e z8 ⟨A8, c8, rfl, y8, o8, _⟩
          have s8 := o8.slh
          have H8 := H7.new y8
          clear H7 y8 o8
          go_wp2_with fail
          refine (RMAll_b H8.modR).mono ?_; rintro e z9 ⟨A9, c9, rfl, y9, o9, _⟩
          have s9 := o9.slh
          have s8' := s8.new y9
          have H9 := H8.new y9
          clear H8 y9 o9 s8
          go_wp2_with fail
          have hSm := TSame_at A8 A9 _ _ c8 c9 s1.T s1.T _ s8' s9
          rw [eqHs_self] at hSm
          refine hSm.mono ?_; rintro e z10 ⟨rfl, y10⟩
          have H10 := H9.new y10
          clear H9 y10 hSm s8' s9
          go_wp2_with fail
          refine (GuAll_at q S p L16 hh b 16 s1.W _ H10.gu).mono ?_; rintro e z11 ⟨A11, c11, rfl, y11, o11, _⟩
          rw [L16_len] at o11 ⊢
          have s11 := ownI_slu o11
          have H11 := H10.new y11
          clear H10 y11 o11
          go_wp2_with fail
          refine (RGuAll_at q' S' p' L16 h' b' 16 s1.W _ H11.gr).mono ?_; rintro e z12 ⟨A12, c12, rfl, y12, o12, _⟩
          rw [L16_len] at o12 ⊢
          have s12 := ownI_slu o12
          have s11' := s11.chg y12 (by simp)
          have H12 := H11.new y12
          clear H11 y12 o12 s11
          go_wp2_with fail
          have hSw := SameWords_any A11 A12 _ _ c11 c12 _ _ _ s11' s12 (by omega) (by omega)
          rw [eqL_self] at hSw
          refine hSw.mono ?_; rintro e z13 ⟨rfl, nq, rfl⟩
          have H13 := H12.new ((Chg.refl [] z12).drewN nq)
          clear H12 hSw s11' s12
          go_wp2_with fail
          go_roundg (no - (k + 1))
          case measure => omega
          case rel => exact ⟨k + 1, s1, by omega, by omega, by go_num, H13⟩
        · have hltz : ¬ (k : Int) < (no : Int) := by omega
          have hcz := H.out.c0
          clear hlt H
          go_wp2_with fail
          go_ret
          exact ⟨rfl, hcz⟩

end Go.Proofs.YtedginkenmafmaaGreatDoor
