/-
  ChoiceFree: the walk.
-/
import Derived.Test.YtgebfagiomcmbaaGreatDoorChoiceHead
import Derived.Test.YtgebfagiomcmbaaGreatDoorSep
namespace Go.Proofs.YtgebfagiomcmbaaGreatDoor
open Go.RowKit Go.Shelf Go.Maps

set_option maxRecDepth 100000 in
set_option maxHeartbeats 8000000 in
theorem ChoiceFree_walkN (A : Option Addr) (ml c : Nat) (l : List Pu) (B : Option Addr) (no d : Nat) (ops : List OpM) (kind : Int) (user : Bool) (a : Nat) (w : World) (h : SlP w A ml l) (ho : SlM w B no ops) (hk0 : 0 ≤ kind ∧ kind ≤ 255) (ha : a < 18446744073709551616) (hE : ErrIn w) :
    Calls Tryz.prog 6 #[.slice A ml c, .slice B no d, .int .u8 kind, .bool user, .int .u64 a] w fun e w' => e = .returned (.bool true) ∧ Chg [] w w' := by
  have hwd := (made_wd l h.wf).1
  have hle := h.le
  have hlo := ho.le
  have hkm : Int.tmod kind 3 = kind % 3 := Int.tmod_eq_emod_of_nonneg hk0.1
  have hkr : 0 ≤ kind % 3 ∧ kind % 3 < 3 := by omega
  generalize kind % 3 = kn at *
  have hkw : wrap64 kn = kn := by unfold wrap64; omega
  clear hkr hk0
  go_enter Tryz.func6, Tryz.ntmps6
  go_wp2_with fail
  refine (Chhead_any _ hE).mono ?_; rintro e w1 ⟨rfl, k1⟩
  go_wp2_with fail
  refine (MadeN_at A ml c l _ (h.self k1)).mono ?_; rintro e w2 ⟨q, S, p, hh, b, rfl, k2, g2, hb⟩
  have H : SepC w w2 [gueT q S p L16 hh b 16 (madeW l)] := SepC.lay (SepC.new (SepC.nil w) k1) k2 ⟨rfl, g2⟩ hb
  clear g2 hb k1 k2
  go_wp2_with fail
  refine (MadeN_at A ml c l _ (h.self H.1)).mono ?_; rintro e w3 ⟨q', S', p', hh', b', rfl, k3, g3, hb3⟩
  replace H : SepC w w3 [gueT q' S' p' L16 hh' b' 16 (madeW l), gueT q S p L16 hh b 16 (madeW l)] := H.lay k3 ⟨rfl, g3⟩ hb3
  clear k3 g3 hb3
  generalize madeW l = W at *
  clear h
  by_cases hbigml : (ml : Int) > 600
  · go_wp2_with fail
    go_ret
    exact ⟨rfl, H.1⟩
  · by_cases hbigno : (no : Int) > 200
    · go_wp2_with fail
      go_ret
      exact ⟨rfl, H.1⟩
    · have hs0 : ∃ s0 : Ms, s0 = ⟨W, 1, []⟩ := ⟨_, rfl⟩
      obtain ⟨s0, hs0⟩ := hs0
      replace hs0 := Lib.hid hs0
      have hWl : W.length = 128 := by obtain ⟨_, h, _⟩ := H.fst; exact h.2.hm.len
      go_wp2_with fail
      refine (SepC.newMod 1 hE hwd H.swap).mono ?_; rintro e w4 ⟨m, t, rfl, H1⟩
      clear H
      have H := H1
      clear H1
      rw [← hs0.out] at H
      go_wp2_with fail
      go_loopg [15] no (fun gg s15 wr => ∃ k : Nat, k ≤ no ∧ no - k ≤ gg ∧ s15 = .int .i64 k ∧ Aside (SepC w wr [modT w m t q S p L16 hh b 16 (accsM 16 L16 s0 (ops.take k)), gueT q' S' p' L16 hh' b' 16 W]))
      case atStart => exact ⟨0, by omega, by omega, rfl, H⟩
      case round =>
        clear H
        obtain ⟨k, hk, hg, rfl, H⟩ := hrel
        replace H := H.out
        by_cases hlt : k < no
        · obtain ⟨ob, off, o, rfl, hbl, hok, how, hcw⟩ := ho.get hlt
          have hc := hcw.chg H.1 hbl (by simp)
          obtain ⟨c0, c1, c2, c3, c4, c5, c6, c7⟩ := hc
          have hsn := Lib.hid (accsM_succ (n := 16) (L := L16) (s := s0) hok)
          generalize accsM 16 L16 s0 (ops.take k) = s1 at *
          have hA := (H.new (Chg.refl [] wr).drew).mod fun F HB => MAcc_b o.kind o.user o.a o.v how.a how.v HB
          have hv := how
          clear hok how
          obtain ⟨what, kind', user', a', v', g', i', page'⟩ := o
          simp only at *
          have hlt' : (k : Int) < (no : Int) := by omega
          have h0 := H.1
          clear H
          go_wp2_with fail
          refine wp_region_still_tail 21 (by kernel_rfl) (by kernel_rfl) ?_
          simp only [List.take_succ_cons, List.take_zero, List.drop_succ_cons, List.drop_zero]
          change wpStill _ _ (World.drew _) _ _ _
          iterate 21 still_step
          refine wpStill_nil ?_
          change wpList _ _ _ _ _ (World.drew _)
          go_wp2_with fail
          refine hA.mono ?_; rintro e w6 ⟨rfl, H6⟩
          clear hA
          go_wp2_with fail
          go_roundg (no - (k + 1))
          case measure => omega
          case rel => exact ⟨k + 1, by omega, by omega, by go_num, by rw [hsn.out]; exact H6⟩
        · obtain rfl : k = no := by omega
          rw [show ops.take k = ops from by rw [← ho.len, List.take_length]] at H
          clear hlt hk hg
          have hP : Pgs (accsM 16 L16 s0 ops).T := Pgs.accs ops (by rw [hs0.out]; exact Pgs.nil)
          have hsr : (accsM 16 L16 s0 ops).r = 1 := by rw [accsM_r, hs0.out]
          generalize accsM 16 L16 s0 ops = s at *
          have hdA := drops_all (n := 16) (L := L16) hP
          have hdB := drops_all (n := 16) (L := L16) (s := ⟨s.W, 1, []⟩) Pgs.nil
          rw [hsr] at hdA
          go_wp2_with fail
          go_loopg [16, 17] 512 (fun gg s16 s17 wr => ∃ (k : Nat) (A' : Option Addr) (c' : Nat), k ≤ 512 ∧ 512 - k ≤ gg ∧ s16 = .slice A' k c' ∧ s17 = .int .i64 k ∧ Aside (SepC w wr [ownT chE 56 (.slice A' k c') (dropsC k), modT w m t q S p L16 hh b 16 s, gueT q' S' p' L16 hh' b' 16 W]))
          case atStart => exact ⟨0, none, 0, by omega, by omega, rfl, rfl, H.ownNil chE 56⟩
          case round =>
            clear H
            obtain ⟨k, A', c', hk, hg, rfl, rfl, H⟩ := hrel
            replace H := H.out
            by_cases hlt : k < 512
            · have hS := Lib.hid (dropsC_succ k)
              have hDl := dropsC_len k
              have hlt' : (k : Int) < 512 := by omega
              generalize dropsC k = O at *
              have hOn' := Lib.hid hDl
              clear hDl
              have H2 := H.alloc #[.bool false, .int .i64 k] 56
              have hso := (H2.pick 1 rfl).own
              go_wp2_with (at_builtin; refine wpList_append_G rfl _ _ 24 rfl 56 (.agg #[.bool false, .int .i64 0]) 16 Tryz.underlying24 (by kernel_rfl) (by kernel_rfl) (.slice A' k c') O rfl hso (some ⟨wr.heap.size, 0, none⟩) 1 1 [⟨false, (k : Int)⟩] rfl (OwnG.src (E := chE) (OwnG.lit (L := [Ch.mk false (k : Int)]) H2.blk (by simp))) rfl (by rw [hOn'.out]; omega) ?_; intro v5 w5 ho5 hc5 hv5; obtain ⟨A5, c5, rfl, _, _⟩ := ho5.form)
              have H5 := (H2.tail).app ho5 hc5 hv5
              have hl5 : (O ++ [Ch.mk false (k : Int)]).length = k + 1 := by simp [hOn'.out]
              rw [hl5, ← hS.out] at H5
              clear H H2 hso
              go_roundg (512 - (k + 1))
              case measure => omega
              case rel => exact ⟨k + 1, A5, c5, by omega, by omega, by rw [hOn'.out], by go_num, H5⟩
            · obtain rfl : k = 512 := by omega
              clear hk hg hlt
              have H1 : SepC w wr [modT w m t q S p L16 hh b 16 s, ownT chE 56 (.slice A' 512 c') (dropsC 512), gueT q' S' p' L16 hh' b' 16 W] := H.pick 1 rfl
              clear H
              generalize dropsC 512 = D at *
              go_wp2_with fail
              refine (SepC.allHits H1).mono ?_; rintro e x2 ⟨A2, c2, rfl, H2⟩
              have H3 := H2.tail
              clear H1 H2
              have hA := H3.mod2 fun F HB hQ => ChApply_b A' 512 c' D (fun w' _ f => by obtain ⟨T, hT⟩ := hQ w' f; exact hT.2.slg) HB
              rw [hdA.1, hdA.2] at hA
              clear hdA
              go_wp2_with fail
              refine hA.mono ?_; rintro e x3 ⟨rfl, H4⟩
              clear hA H3
              have hA := H4.mod2 fun F HB hQ => ChApply_b A' 512 c' D (fun w' _ f => by obtain ⟨T, hT⟩ := hQ w' f; exact hT.2.slg) HB
              rw [hdB.1, hdB.2] at hA
              clear hdB
              go_wp2_with fail
              refine hA.mono ?_; rintro e x4 ⟨rfl, H5⟩
              clear hA H4
              go_wp2_with fail
              refine (SepC.words H5).mono ?_; rintro e x5 ⟨g1, c1, rfl, H6, hcap⟩
              clear H5
              have hsl : s.W.length = 128 := (H6.pick 1 rfl).modB.gu.hm.len
              have hLd := load_16 hWl hsl
              simp only at H6
              have H7 : SepC w x5 [gueT q' S' p' L16 hh' b' 16 W, sluT g1 (8 * L16.length) (allG s.W L16), modT w m t q S p L16 hh b 16 ⟨s.W, 1, []⟩, ownT chE 56 (.slice A' 512 c') (D)] := H6.pick 3 rfl
              have hwd2 := (H6.pick 1 rfl).modB.ok.wd
              have hLo := SepC.load H7 hcap (by decide)
              rw [show loadB L16 (8 * L16.length) = true by decide, hLd] at hLo
              clear hcap hLd H6
              go_wp2_with fail
              refine hLo.mono ?_; rintro e x6 ⟨rfl, H8⟩
              clear hLo H7
              go_wp2_with fail
              refine (SepC.newMod 1 hE hwd2 H8).mono ?_; rintro e x7 ⟨m5, t5, rfl, H9⟩
              clear H8
              have hA1 := (H9.pick 2 rfl).mod fun F HB => MAcc_b kn user a 5 ha (by omega) HB
              have hA2 := fun w9 m9 t9 q9 S9 p9 h9 b9 F (HB : ModB w F w9 m9 t9 q9 S9 p9 L16 h9 b9 16 ⟨s.W, 1, []⟩) => MAcc_b kn user a 5 ha (by omega) HB
              generalize accM 16 L16 ⟨s.W, 1, []⟩ kn user a 5 = tt at *
              obtain ⟨s9, ⟨oh, ov, oc, oa⟩⟩ := tt
              simp only [Ot.cs] at hA1 hA2
              have hq : ∀ w9, (binOp .eql 39 (.agg #[.int .i64 oh, .int .u64 ov, .int .i64 oc, .int .u64 oa]) (.agg #[.int .i64 oh, .int .u64 ov, .int .i64 oc, .int .u64 oa])).run Tryz.prog w9 = .ok (.bool true) w9 := fun w9 => by rw [run_eqO, Ot.eqb_self]
              clear H9
              go_wp2_with fail
              refine hA1.mono ?_; rintro e x8 ⟨rfl, H10⟩
              replace H10 := H10.alloc #[.int .i64 oh, .int .u64 ov, .int .i64 oc, .int .u64 oa] 39
              clear hA1
              go_wp2_with fail
              refine ((H10.pick 2 rfl).mod fun F HB => hA2 _ _ _ _ _ _ _ _ _ HB).mono ?_; rintro e x9 ⟨rfl, H11⟩
              replace H11 := H11.alloc #[.int .i64 oh, .int .u64 ov, .int .i64 oc, .int .u64 oa] 39
              have b1 := H11.blk
              have b2 := (H11.pick 2 rfl).blk
              clear hA2 H10
              obtain ⟨z0, z1, z2, z3, _, _, _, _⟩ := blk4 b1
              obtain ⟨y0, y1, y2, y3, _, _, _, _⟩ := blk4 b2
              clear b1 b2
              go_wp2_with fail
              refine (SepC.words (H11.pick 3 rfl)).mono ?_; rintro e x10 ⟨g4, c4, rfl, H12, hcap⟩
              clear hcap H11 z0 z1 z2 z3 y0 y1 y2 y3 hq
              go_wp2_with fail
              refine (SepC.words (H12.pick 3 rfl)).mono ?_; rintro e x11 ⟨g5, c5, rfl, H13, hcap⟩
              clear hcap H12
              have u5 := H13.slu
              have u4 := (H13.pick 2 rfl).slu
              rw [L16_len] at u5 u4
              have h0 := H13.1
              clear H13
              go_wp2_with fail
              refine (SameWords_any _ _ 128 128 c4 c5 _ _ _ u4 u5 (by omega) (by omega)).mono ?_; rintro e x12 ⟨rfl, nd, rfl⟩
              rw [eqL_self]
              go_wp2_with fail
              go_ret
              exact ⟨rfl, h0.drewN nd⟩
theorem ChoiceFree_walk (A : Option Addr) (ml c : Nat) (l : List Pu) (B : Option Addr) (no d : Nat) (ops : List OpM) (kind : Int) (user : Bool) (a : Int) (w : World) (h : SlP w A ml l) (ho : SlM w B no ops) (hk0 : 0 ≤ kind ∧ kind ≤ 255) (ha : 0 ≤ a ∧ a ≤ 18446744073709551615) (hE : ErrIn w) :
    Calls Tryz.prog 6 #[.slice A ml c, .slice B no d, .int .u8 kind, .bool user, .int .u64 a] w fun e w' => e = .returned (.bool true) ∧ Chg [] w w' := by
  obtain ⟨n, rfl⟩ := Int.eq_ofNat_of_zero_le ha.1
  exact ChoiceFree_walkN A ml c l B no d ops kind user n w h ho hk0 (by omega) hE

end Go.Proofs.YtgebfagiomcmbaaGreatDoor
