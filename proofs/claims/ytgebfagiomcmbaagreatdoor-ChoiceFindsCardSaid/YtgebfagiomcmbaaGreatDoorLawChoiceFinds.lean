/-
  ChoiceFinds: the walk.
-/
import Derived.Test.YtgebfagiomcmbaaGreatDoorChoiceHead
import Derived.Test.YtgebfagiomcmbaaGreatDoorSep
namespace Go.Proofs.YtgebfagiomcmbaaGreatDoor
open Go.RowKit Go.Shelf Go.Maps

set_option maxRecDepth 100000 in
set_option maxHeartbeats 8000000 in
theorem ChoiceFinds_walk (A : Option Addr) (ml c : Nat) (l : List Pu) (B : Option Addr) (no d : Nat) (ops : List OpM) (page : Int) (w : World) (h : SlP w A ml l) (ho : SlM w B no ops) (hp0 : 0 ≤ page ∧ page ≤ 65535) (hE : ErrIn w) :
    Calls Tryz.prog 8 #[.slice A ml c, .slice B no d, .int .u16 page] w fun e w' => e = .returned (.bool true) ∧ Chg [] w w' := by
  have hwd := (made_wd l h.wf).1
  have hle := h.le
  have hlo := ho.le
  have hpm : Int.tmod page 512 = page % 512 := Int.tmod_eq_emod_of_nonneg hp0.1
  have hpr : 0 ≤ page % 512 ∧ page % 512 < 512 := by omega
  generalize page % 512 = pn at *
  have hw1 : wrap64 pn = pn := by unfold wrap64; omega
  have HPR := Lib.hid hpr
  clear hp0 hpr
  go_enter Tryz.func8, Tryz.ntmps8
  go_wp2_with fail
  refine (Chhead_any _ hE).mono ?_; rintro e w1 ⟨rfl, k1⟩
  go_wp2_with fail
  refine (MadeN_at A ml c l _ (h.self k1)).mono ?_; rintro e w2 ⟨q, S, p, hh, b, rfl, k2, g2, hb⟩
  have H : SepC w w2 [gueT q S p L16 hh b 16 (madeW l)] := SepC.lay (SepC.new (SepC.nil w) k1) k2 ⟨rfl, g2⟩ hb
  clear g2 hb k1 k2
  generalize madeW l = W at *
  clear h
  by_cases hbigml : (ml : Int) > 600
  · go_wp2_with fail
    go_ret
    exact ⟨rfl, H.1⟩
  · by_cases hbigno : (no : Int) > 200
    · go_wp2_with fail
      go_ret
      exact ⟨rfl, H.1⟩
    · have hs0 : ∃ s0 : Ms, s0 = ⟨W, 1, []⟩ := ⟨_, rfl⟩
      obtain ⟨s0, hs0⟩ := hs0
      replace hs0 := Lib.hid hs0
      go_wp2_with fail
      refine (SepC.newMod 1 hE hwd H).mono ?_; rintro e w4 ⟨m, t, rfl, H1⟩
      clear H
      have H := H1
      clear H1
      rw [← hs0.out] at H
      go_wp2_with fail
      go_loopg [10] no (fun gg s10 wr => ∃ k : Nat, k ≤ no ∧ no - k ≤ gg ∧ s10 = .int .i64 k ∧ Aside (SepC w wr [modT w m t q S p L16 hh b 16 (accsM 16 L16 s0 (ops.take k))]))
      case atStart => exact ⟨0, by omega, by omega, rfl, H⟩
      case round =>
        clear H
        obtain ⟨k, hk, hg, rfl, H⟩ := hrel
        replace H := H.out
        by_cases hlt : k < no
        · obtain ⟨ob, off, o, rfl, _, hok, how, hc⟩ := (ho.new H.1).get hlt
          obtain ⟨c0, c1, c2, c3, c4, c5, c6, c7⟩ := hc
          have hsn := Lib.hid (accsM_succ (n := 16) (L := L16) (s := s0) hok)
          generalize accsM 16 L16 s0 (ops.take k) = s1 at *
          have hA := (H.new (Chg.refl [] wr).drew).mod fun F HB => MAcc_b o.kind o.user o.a o.v how.a how.v HB
          have hv := how
          clear hok how
          obtain ⟨what, kind', user', a', v', g', i', page'⟩ := o
          simp only at *
          have hlt' : (k : Int) < (no : Int) := by omega
          have h0 := H.1
          clear H
          go_wp2_with fail
          refine wp_region_still_tail 21 (by kernel_rfl) (by kernel_rfl) ?_
          simp only [List.take_succ_cons, List.take_zero, List.drop_succ_cons, List.drop_zero]
          change wpStill _ _ (World.drew _) _ _ _
          iterate 21 still_step
          refine wpStill_nil ?_
          change wpList _ _ _ _ _ (World.drew _)
          go_wp2_with fail
          refine hA.mono ?_; rintro e w6 ⟨rfl, H6⟩
          clear hA
          go_wp2_with fail
          go_roundg (no - (k + 1))
          case measure => omega
          case rel => exact ⟨k + 1, by omega, by omega, by go_num, by rw [hsn.out]; exact H6⟩
        · obtain rfl : k = no := by omega
          rw [show ops.take k = ops from by rw [← ho.len, List.take_length]] at H
          clear hlt hk hg
          have hP : Pgs (accsM 16 L16 s0 ops).T := Pgs.accs ops (by rw [hs0.out]; exact Pgs.nil)
          have hsr : (accsM 16 L16 s0 ops).r = 1 := by rw [accsM_r, hs0.out]
          generalize accsM 16 L16 s0 ops = s at *
          have hr1 : s.r = 1 := hsr
          clear hsr
          have hsW := (appM_W (n := 16) (L := L16) [⟨false, pn⟩, ⟨true, pn⟩] s).1
          have hKn := MKnown_b pn H.modB
          obtain ⟨e1, e2, e3, e4⟩ := refill (n := 16) (L := L16) (s := s) HPR.out.1 HPR.out.2
          rw [hr1] at e1 e2 e3 e4
          generalize hX : getT s.T 0 pn = X at *
          generalize hasT s.T 0 pn = hd at *
          obtain ⟨xa, xp, xf, xw, xu, xx, xd⟩ := X
          simp only [Ht.v] at hKn
          go_wp2_with fail
          refine hKn.mono ?_; rintro e x1 ⟨rfl, kk⟩
          replace H := H.new (kk.alloc (.cells #[.int .i64 xa, .int .i64 xp, .int .i64 xf, .bool xw, .bool xu, .bool xx, .bool xd] 62))
          clear hKn kk hX
          go_wp2_with fail
          obtain ⟨g, hg⟩ : ∃ g, x1.heap.size + 1 = g := ⟨_, rfl⟩
          have hgz : (x1.alloc (.cells #[.int .i64 xa, .int .i64 xp, .int .i64 xf, .bool xw, .bool xu, .bool xx, .bool xd] 62)).heap.size = g := by rw [World.size_alloc]; exact hg
          rw [hg]
          clear hg
          generalize x1.alloc (.cells #[.int .i64 xa, .int .i64 xp, .int .i64 xf, .bool xw, .bool xu, .bool xx, .bool xd] 62) = x2 at *
          replace H := (H.allocN hgz #[.bool false, .int .i64 pn, .bool true, .int .i64 pn] 56).swap
          have hA := H.mod2 fun F HB hQ => ChApply_b (some ⟨g, 0, none⟩) 2 2 [⟨false, pn⟩, ⟨true, pn⟩] (fun w' _ f => by obtain ⟨T, _, hb⟩ := hQ w' f; exact OwnG.slg (E := chE) (OwnG.lit (L := [Ch.mk false pn, Ch.mk true pn]) hb (by simp))) HB
          obtain ⟨kn, hkn⟩ : ∃ kn : Nat, kn = appN 16 L16 s [⟨false, pn⟩, ⟨true, pn⟩] := ⟨_, rfl⟩
          rw [← hkn] at hA
          rw [e1] at hkn
          replace hkn := Lib.hid hkn
          replace e2 := Lib.hid e2
          replace e3 := Lib.hid e3
          replace e4 := Lib.hid e4
          clear e1
          generalize appM 16 L16 s [⟨false, pn⟩, ⟨true, pn⟩] = s2 at *
          have hW2 : s2.W = s.W := hsW
          clear hsW
          refine hA.mono ?_; rintro e x3 ⟨rfl, H3⟩
          clear hA H
          have hKn := MKnown_b pn H3.modB
          rw [e2.out, e3.out] at hKn
          have hwd2 := H3.modB.ok.wd
          have hF0 := fun F w9 t9 m9 (HB : ModB w F w9 m9 t9 q S p L16 hh b 16 ⟨s.W, 1, []⟩) => MFind_b pn HB
          have hK0 := fun w9 t9 m9 (HB : ModB w [] w9 m9 t9 q S p L16 hh b 16 (findM 16 L16 ⟨s.W, 1, []⟩ pn)) => MKnown_b pn HB
          simp only [e4.out] at hK0
          generalize getT (findM 16 L16 ⟨s.W, 1, []⟩ pn).T 0 pn = Y at *
          generalize findM 16 L16 ⟨s.W, 1, []⟩ pn = s3 at *
          generalize findB 16 L16 ⟨s.W, 1, []⟩ pn = fb at *
          obtain ⟨ya, yp, yf, yw, yu, yx, yd⟩ := Y
          have hq := fun w9 => run_eqH ⟨ya, yp, yf, yw, yu, yx, yd⟩ ⟨ya, yp, yf, yw, yu, yx, yd⟩ w9
          rw [Ht.eqb_self] at hq
          simp only [Ht.v] at hKn hK0 hq
          clear e2 e3 e4
          go_wp2_with fail
          refine hKn.mono ?_; rintro e x4 ⟨rfl, kk⟩
          have H := ((H3.new kk).alloc #[.int .i64 ya, .int .i64 yp, .int .i64 yf, .bool yw, .bool yu, .bool yx, .bool yd] 62).swap
          clear hKn kk H3
          go_wp2_with fail
          have H5 := SepC.unMod H
          rw [hW2] at H5 hwd2
          refine (SepC.newMod 1 hE hwd2 H5).mono ?_; rintro e x5 ⟨m5, t5, rfl, H6⟩
          clear H H5
          go_wp2_with fail
          refine (H6.mod fun F HB => hF0 F _ _ _ HB).mono ?_; rintro e x6 ⟨rfl, H7⟩
          clear H6 hF0
          go_wp2_with fail
          have hKn := hK0 _ _ _ H7.modB
          refine hKn.mono ?_; rintro e x7 ⟨rfl, kk⟩
          have H8 := (H7.new kk).alloc #[.int .i64 ya, .int .i64 yp, .int .i64 yf, .bool yw, .bool yu, .bool yx, .bool yd] 62
          have bz := H8.blk
          have by_ := (H8.pick 2 rfl).blk
          have h8 := H8.1
          clear hKn hK0 kk H7 H8
          obtain ⟨z0, z1, z2, z3, z4, z5, z6, _, _, _, _, _, _, _⟩ := blk7 bz
          obtain ⟨y0, y1, y2, y3, y4, y5, y6, _, _, _, _, _, _, _⟩ := blk7 by_
          clear bz by_
          cases hd <;> cases fb
          · have hk := hkn.out
            simp at hk
            subst hk
            clear hkn
            go_wp2_with fail
            go_ret
            exact ⟨rfl, h8⟩
          · have hk := hkn.out
            simp at hk
            subst hk
            clear hkn
            go_wp2_with fail
            go_ret
            exact ⟨rfl, h8⟩
          · have hk := hkn.out
            simp at hk
            subst hk
            clear hkn
            go_wp2_with fail
            go_ret
            exact ⟨rfl, h8⟩
          · have hk := hkn.out
            simp at hk
            subst hk
            clear hkn
            go_wp2_with fail
            go_ret
            exact ⟨rfl, h8⟩

end Go.Proofs.YtgebfagiomcmbaaGreatDoor
