/-
  ModelAgain: the walk.
-/
import Derived.Test.YtedginkenmafmaaGreatDoorModelHead
import Derived.Test.YtedginkenmafmaaGreatDoorModelR
import Derived.Test.YtedginkenmafmaaGreatDoorG4r
namespace Go.Proofs.YtedginkenmafmaaGreatDoor
open Go.RowKit Go.Shelf Go.Maps

set_option maxRecDepth 100000 in
set_option maxHeartbeats 40000000 in
theorem ModelAgain_walk (A : Option Addr) (ml c : Nat) (l : List Pu) (B : Option Addr) (no d : Nat) (ops : List OpM) (oo : { o : OpM // o.Wf }) (w : World) (h : SlP w A ml l) (ho : SlM w B no ops) (hE : ErrIn w) :
    Calls Tryz.prog 8 #[.slice A ml c, .slice B no d, oo.1.val] w fun e w' => e = .returned (.bool true) ∧ Chg [] w w' := by
  have hwd := (made_wd l h.wf).1
  have hle := h.le
  have hlo := ho.le
  obtain ⟨⟨what, kd, us, a, v, g', i', page'⟩, ⟨ha, hv, _, _⟩⟩ := oo
  simp only [OpM.val] at *
  have al : Chg [] w (w.alloc (.cells #[.int .i64 what, .int .i64 kd, .bool us, .int .u64 a, .int .u64 v, .int .i64 g', .int .i64 i', .int .i64 page'] 35)) := (Chg.refl [] w).alloc _
  have b0 := Blk.new w 35 #[.int .i64 what, .int .i64 kd, .bool us, .int .u64 a, .int .u64 v, .int .i64 g', .int .i64 i', .int .i64 page']
  have h := h.self al
  have ho := ho.new al
  have hE := hE.self al
  go_enter Tryz.func8, Tryz.ntmps8
  go_wp2_with fail
  generalize w.alloc (.cells #[.int .i64 what, .int .i64 kd, .bool us, .int .u64 a, .int .u64 v, .int .i64 g', .int .i64 i', .int .i64 page'] 35) = wa at *
  generalize w.heap.size = gb at *
  refine (Mohead_any _ hE).mono ?_; rintro e w1 ⟨rfl, k1⟩
  go_wp2_with fail
  refine (Made_at A ml c l _ (h.self k1)).mono ?_; rintro e w2 ⟨q, S, p, hh, b, rfl, k2, g2, hb⟩
  have k3 : Chg [] wa w2 := k1.trans k2 (by simp)
  have hbw : wa.heap.size ≤ b := Nat.le_trans k1.size hb
  generalize madeW l = W at *
  clear k1 k2 hb h
  by_cases hbigml : (ml : Int) > 600
  · go_wp2_with fail
    go_ret
    exact ⟨rfl, al.trans k3 (by simp)⟩
  · by_cases hbigno : (no : Int) > 200
    · go_wp2_with fail
      go_ret
      exact ⟨rfl, al.trans k3 (by simp)⟩
    · go_wp2_with fail
      refine (MNew_b (w0 := wa) (w := w2) (q := q) (S := S) (p := p) (L := L16) (h := hh) (b := b) (n := 16) 1 hE k3 W g2 hwd hbw).mono ?_; rintro e w3 ⟨m, t, rfl, H, _⟩
      clear k3 g2
      generalize hs0 : (⟨W, 1, []⟩ : Ms) = s0 at *
      go_wp2_with fail
      go_loopw [10] (fun i w' => ∃ k : Nat, k ≤ no ∧ i = .int .i64 k ∧ ModB wa [] w' m t q S p L16 hh b 16 (runM 16 L16 s0 (ops.take k))) (fun i _ => no - (intOf i).toNat)
      case atStart => exact ⟨0, by omega, rfl, by simpa [runM] using H⟩
      case round =>
        clear H
        obtain ⟨k, hk, rfl, H⟩ := hrel
        by_cases hlt : k < no
        · obtain ⟨ob, off, o, rfl, _, hok, how, hc⟩ := (ho.new H.c0).get hlt
          obtain ⟨c0, c1, c2, c3, c4, c5, c6, c7⟩ := hc
          have hsn := Lib.hid (runM_succ (n := 16) (L := L16) (s := s0) hok)
          have hD := DoM_b o how H
          clear hok how
          obtain ⟨what, kind', user', a', v', g', i', page'⟩ := o
          simp only [OpM.val, Ot.cs] at *
          go_wp2_with fail
          refine hD.mono ?_; rintro e w4 ⟨rfl, H4, f4⟩
          clear hD c0 c1 c2 c3 c4 c5 c6 c7
          go_wp2_with fail
          go_roundw
          case rel => exact ⟨k + 1, by omega, by go_num, by rw [hsn.out]; exact H4⟩
          case measure => simp [intOf]; omega
        · obtain rfl : k = no := by omega
          rw [show ops.take k = ops from by rw [← ho.len, List.take_length]] at H
          clear hlt hk
          generalize hs : runM 16 L16 s0 ops = s at *
          have B00 := b0
          clear hs hs0
          have B0 := H.c0.blk b0 (by simp)
          clear b0
          have hA1 := MAcc_b kd us a v ha hv H
          have hAg := acc_again L16_ok.inh (by decide : L16.Nodup) H.ok kd us a (v := v)
          have hA2 := fun F w9 (H9 : ModB wa F w9 m t q S p L16 hh b 16 (accM 16 L16 s kd us a v).1) => MAcc_b kd us a v ha hv H9
          have hA3 := fun F w9 (H9 : ModB wa F w9 m t q S p L16 hh b 16 (accM 16 L16 (accM 16 L16 s kd us a v).1 kd us a v).1) => MAcc_b 0 us a 0 ha (by omega) H9
          generalize accM 16 L16 s kd us a v = t1 at *
          obtain ⟨s1, ⟨oh, ov, oc, oa⟩⟩ := t1
          simp only at hA2 hA3 hAg
          generalize accM 16 L16 s1 kd us a v = t2 at *
          obtain ⟨s2, o2⟩ := t2
          simp only [Ot.cs] at hA1 hA2 hA3 hAg
          obtain ⟨rfl, hW2, hL⟩ := hAg
          simp only at hA2 hL
          generalize ht3 : accM 16 L16 s2 0 us a 0 = t3 at *
          obtain ⟨s3, ⟨ph, pv, pc, pa⟩⟩ := t3
          simp only at hA3 hL
          obtain ⟨q0, q1, q2, q3, q4, q5, q6, q7⟩ := blk8 B0
          go_wp2_with fail
          refine hA1.mono ?_; rintro e x1 ⟨rfl, H1, f1⟩
          clear hA1 H q0 q1 q2 q3 q4 q5 q6 q7
          have al1 := (Chg.refl [] x1).alloc (.cells #[.int .i64 oh, .int .u64 ov, .int .i64 oc, .int .u64 oa] 37)
          have o1 := Blk.new x1 37 #[.int .i64 oh, .int .u64 ov, .int .i64 oc, .int .u64 oa]
          have H2 := H1.more (G := [x1.heap.size]) al1 (by intro i hi; simp at hi; subst hi; simp)
          clear al1 H1 f1
          go_wp2_with fail
          generalize x1.alloc (.cells #[.int .i64 oh, .int .u64 ov, .int .i64 oc, .int .u64 oa] 37) = x2 at *
          generalize x1.heap.size = ga at *
          refine (MWords_b H2).mono ?_; rintro e x3 ⟨g3, c3, rfl, H3, y3, u3, hg3⟩
          rw [L16_len] at u3
          have o3 := o1.chg_ y3 (by simp)
          have hga : ga ≠ g3 := by have := o1.lt; omega
          clear H2 o1 y3 hg3
          obtain ⟨q0, q1, q2, q3, q4, q5, q6, q7⟩ := blk8 (H3.c0.blk B00 (by simp))
          go_wp2_with fail
          refine (hA2 _ _ H3).mono ?_; rintro e x4 ⟨rfl, H4, f4⟩
          have o4 := f4.blk o3 (by simp)
          have u4 := f4.slu u3 (fun g o e => by injection e with e; injection e with e; simp [e])
          clear hA2 H3 o3 u3 f4 q0 q1 q2 q3 q4 q5 q6 q7
          have al4 := (Chg.refl [] x4).alloc (.cells #[.int .i64 oh, .int .u64 ov, .int .i64 oc, .int .u64 oa] 37)
          have p5 := Blk.new x4 37 #[.int .i64 oh, .int .u64 ov, .int .i64 oc, .int .u64 oa]
          have o5 := o4.chg_ al4 (by simp)
          have u5 := u4.chg al4 (by simp)
          have H5 := H4.more (G := [x4.heap.size]) al4 (by intro i hi; simp at hi; subst hi; simp)
          clear al4 H4 o4 u4
          obtain ⟨r0, r1, r2, r3, _, _, _, _⟩ := blk4 o5
          obtain ⟨z0, z1, z2, z3, _, _, _, _⟩ := blk4 p5
          have hq : ∀ w9, (binOp .neq 37 (.agg #[.int .i64 oh, .int .u64 ov, .int .i64 oc, .int .u64 oa]) (.agg #[.int .i64 oh, .int .u64 ov, .int .i64 oc, .int .u64 oa])).run Tryz.prog w9 = .ok (.bool false) w9 := fun w9 => by rw [run_neO, Ot.eqb_self]; rfl
          go_wp2_with fail
          generalize x4.alloc (.cells #[.int .i64 oh, .int .u64 ov, .int .i64 oc, .int .u64 oa] 37) = x6 at *
          refine (MWords_b H5).mono ?_; rintro e x7 ⟨g7, c7, rfl, H7, y7, u7, _⟩
          rw [L16_len, hW2] at u7
          have u8 := u5.chg y7 (by simp)
          have o7 := o5.chg_ y7 (by simp)
          clear H5 u5 o5 r0 r1 r2 r3 z0 z1 z2 z3 hq p5
          go_wp2_with fail
          refine (SameWords_any _ _ 128 128 c7 c3 _ _ _ u7 u8 (by omega) (by omega)).mono ?_; rintro e x8 ⟨rfl, nd, rfl⟩
          rw [eqL_self]
          have H8 := H7.new ((Chg.refl [] x7).drewN nd)
          have o8 := o7.drewN nd
          clear H7 o7 u7 u8 y7
          generalize x7.drewN nd = x9 at *
          obtain ⟨r0, r1, r2, r3, _, _, _, _⟩ := blk4 o8
          have B9 := H8.c0.blk B00 (by simp)
          obtain ⟨q0, q1, q2, q3, q4, q5, q6, q7⟩ := blk8 B9
          have hc := al.trans H8.c0 (by simp)
          by_cases h0 : oh = 0
          · subst h0
            by_cases hk : kd = 1
            · subst hk
              have hL := hL rfl rfl
              injection hL with n1 n2 n3 n4
              subst n1; subst n2; subst n3; subst n4
              clear r0 r1 r2 r3 q0 q1 q2 q3 q4 q5 q6 q7
              have hq : ∀ w9, (binOp .eql 37 (.agg #[.int .i64 0, .int .u64 pv, .int .i64 0, .int .u64 0]) (.agg #[.int .i64 0, .int .u64 pv, .int .i64 0, .int .u64 0])).run Tryz.prog w9 = .ok (.bool true) w9 := fun w9 => by rw [run_eqO, Ot.eqb_self]
              obtain ⟨r0, r1, r2, r3, _, _, _, _⟩ := blk4 o8
              obtain ⟨q0, q1, q2, q3, q4, q5, q6, q7⟩ := blk8 B9
              go_wp2_with fail
              refine wp_region_noPanic ?_
              refine wp_region_held_drew (S := (fun w' => Blk w' gb 35 #[.int .i64 what, .int .i64 1, .bool us, .int .u64 a, .int .u64 pv, .int .i64 g', .int .i64 i', .int .i64 page'])) (by kernel_rfl) ?_ (fun hHeld => ?_)
              · exact B9.drew
              (refine take_on 0 (some 91) (v := ?_) rfl rfl (by kernel_rfl) (by kernel_rfl) (by kernel_rfl) (fun _ _ _ h => h) (by rfl) (by assumption) ?_ ?_; rotate_left; · (intro w hSw; (try dsimp only at hSw); obtain ⟨k0_, k1_, k2_, k3_, k4_, k5_, k6_, k7_⟩ := blk8 hSw; go_simp; (try with_reducible rfl)))
              (try simp only [Act.put, List.setIfInBounds_toArray, List.set_cons_zero, List.set_cons_succ])
              (refine take_on 1 (some 92) (v := ?_) rfl rfl (by kernel_rfl) (by kernel_rfl) (by kernel_rfl) (fun _ _ _ h => h) (by rfl) (by assumption) ?_ ?_; rotate_left; · (intro w hSw; (try dsimp only at hSw); obtain ⟨k0_, k1_, k2_, k3_, k4_, k5_, k6_, k7_⟩ := blk8 hSw; go_simp; (try with_reducible rfl)))
              (try simp only [Act.put, List.setIfInBounds_toArray, List.set_cons_zero, List.set_cons_succ])
              (refine take_on 2 (some 93) (v := ?_) rfl rfl (by kernel_rfl) (by kernel_rfl) (by kernel_rfl) (fun _ _ _ h => h) (by rfl) (by assumption) ?_ ?_; rotate_left; · (intro w hSw; (try dsimp only at hSw); obtain ⟨k0_, k1_, k2_, k3_, k4_, k5_, k6_, k7_⟩ := blk8 hSw; go_simp; (try with_reducible rfl)))
              (try simp only [Act.put, List.setIfInBounds_toArray, List.set_cons_zero, List.set_cons_succ])
              (refine take_on 3 (some 94) (v := ?_) rfl rfl (by kernel_rfl) (by kernel_rfl) (by kernel_rfl) (fun _ _ _ h => h) (by rfl) (by assumption) ?_ ?_; rotate_left; · (intro w hSw; (try dsimp only at hSw); obtain ⟨k0_, k1_, k2_, k3_, k4_, k5_, k6_, k7_⟩ := blk8 hSw; go_simp; (try with_reducible rfl)))
              (try simp only [Act.put, List.setIfInBounds_toArray, List.set_cons_zero, List.set_cons_succ])
              (refine take_on 4 (some 95) (v := ?_) rfl rfl (by kernel_rfl) (by kernel_rfl) (by kernel_rfl) (fun _ _ _ h => h) (by rfl) (by assumption) ?_ ?_; rotate_left; · (intro w hSw; (try dsimp only at hSw); obtain ⟨k0_, k1_, k2_, k3_, k4_, k5_, k6_, k7_⟩ := blk8 hSw; go_simp; (try with_reducible rfl)))
              (try simp only [Act.put, List.setIfInBounds_toArray, List.set_cons_zero, List.set_cons_succ])
              (refine take_on 5 (some 96) (v := ?_) rfl rfl (by kernel_rfl) (by kernel_rfl) (by kernel_rfl) (fun _ _ _ h => h) (by rfl) (by assumption) ?_ ?_; rotate_left; · (intro w hSw; (try dsimp only at hSw); obtain ⟨k0_, k1_, k2_, k3_, k4_, k5_, k6_, k7_⟩ := blk8 hSw; go_simp; (try with_reducible rfl)))
              (try simp only [Act.put, List.setIfInBounds_toArray, List.set_cons_zero, List.set_cons_succ])
              (refine take_on 6 (some 97) (v := ?_) rfl rfl (by kernel_rfl) (by kernel_rfl) (by kernel_rfl) (fun _ _ _ h => h) (by rfl) (by assumption) ?_ ?_; rotate_left; · (intro w hSw; (try dsimp only at hSw); obtain ⟨k0_, k1_, k2_, k3_, k4_, k5_, k6_, k7_⟩ := blk8 hSw; go_simp; (try with_reducible rfl)))
              (try simp only [Act.put, List.setIfInBounds_toArray, List.set_cons_zero, List.set_cons_succ])
              (refine take_on 8 (some 99) (v := ?_) rfl rfl (by kernel_rfl) (by kernel_rfl) (by kernel_rfl) (fun _ _ _ h => h) (by rfl) (by assumption) ?_ ?_; rotate_left; · (intro w hSw; (try dsimp only at hSw); obtain ⟨k0_, k1_, k2_, k3_, k4_, k5_, k6_, k7_⟩ := blk8 hSw; go_simp; (try with_reducible rfl)))
              (try simp only [Act.put, List.setIfInBounds_toArray, List.set_cons_zero, List.set_cons_succ])
              (refine take_on 9 (some 100) (v := ?_) rfl rfl (by kernel_rfl) (by kernel_rfl) (by kernel_rfl) (fun _ _ _ h => h) (by rfl) (by assumption) ?_ ?_; rotate_left; · (intro w hSw; (try dsimp only at hSw); obtain ⟨k0_, k1_, k2_, k3_, k4_, k5_, k6_, k7_⟩ := blk8 hSw; go_simp; (try with_reducible rfl)))
              (try simp only [Act.put, List.setIfInBounds_toArray, List.set_cons_zero, List.set_cons_succ])
              (refine take_on 10 (some 101) (v := ?_) rfl rfl (by kernel_rfl) (by kernel_rfl) (by kernel_rfl) (fun _ _ _ h => h) (by rfl) (by assumption) ?_ ?_; rotate_left; · (intro w hSw; (try dsimp only at hSw); obtain ⟨k0_, k1_, k2_, k3_, k4_, k5_, k6_, k7_⟩ := blk8 hSw; go_simp; (try with_reducible rfl)))
              (try simp only [Act.put, List.setIfInBounds_toArray, List.set_cons_zero, List.set_cons_succ])
              refine wpAnyH_ready (rs := [7]) (by kernel_rfl) (by simp) ?_; refine AllReadyH.cons (o := _) rfl (fun K hK => ?_) AllReadyH.nil
              go_simp
              (go_at_call 24; refine (hA3 _ _ (H8.new ((Chg.refl [] _).drew))).mono ?_; rintro e x10 ⟨rfl, H10, f10⟩)
              refine hK.out _ _ (by (try dsimp only); exact H10.c0.blk B00 (by simp)) (fun hHeld => ?_)
              clear hK K
              (try simp only [Act.put, List.setIfInBounds_toArray, List.set_cons_zero, List.set_cons_succ])
              (refine take_on 11 (some 102) (v := ?_) rfl rfl (by kernel_rfl) (by kernel_rfl) (by kernel_rfl) (fun _ _ _ h => h) (by rfl) (by assumption) ?_ ?_; rotate_left; · (intro w hSw; (try dsimp only at hSw); go_simp; (try rw [hq]); (try with_reducible rfl)))
              (try simp only [Act.put, List.setIfInBounds_toArray, List.set_cons_zero, List.set_cons_succ])
              (refine take_on 12 (some 103) (v := ?_) rfl rfl (by kernel_rfl) (by kernel_rfl) (by kernel_rfl) (fun _ _ _ h => h) (by rfl) (by assumption) ?_ ?_; rotate_left; · (intro w hSw; (try dsimp only at hSw); go_simp; (try with_reducible rfl)))
              (try simp only [Act.put, List.setIfInBounds_toArray, List.set_cons_zero, List.set_cons_succ])
              (refine take_on 13 (some 6) (v := ?_) rfl rfl (by kernel_rfl) (by kernel_rfl) (by kernel_rfl) (fun _ _ _ h => h) (by rfl) (by assumption) ?_ ?_; rotate_left; · (intro w hSw; (try dsimp only at hSw); go_simp; (try with_reducible rfl)))
              (try simp only [Act.put, List.setIfInBounds_toArray, List.set_cons_zero, List.set_cons_succ])
              refine wpAnyH_done (by kernel_rfl) ?_ _
              refine NoPanic.normal ?_
              go_wp2_with fail
              go_ret
              exact ⟨rfl, al.trans H10.c0 (by simp)⟩
            · go_wp2_with fail
              go_ret
              exact ⟨rfl, hc⟩
          · go_wp2_with fail
            go_ret
            exact ⟨rfl, hc⟩

end Go.Proofs.YtedginkenmafmaaGreatDoor
