/-
  ChoicePage: the walk.
-/
import Derived.Test.YtgebfagiomcmbaaGreatDoorChoiceHead
import Derived.Test.YtgebfagiomcmbaaGreatDoorSep
namespace Go.Proofs.YtgebfagiomcmbaaGreatDoor
open Go.RowKit Go.Shelf Go.Maps

set_option maxRecDepth 100000 in
set_option maxHeartbeats 8000000 in
theorem ChoicePage_walk (A : Option Addr) (ml c : Nat) (l : List Pu) (B : Option Addr) (no d : Nat) (ops : List OpM) (C : Option Addr) (nc e : Nat) (lc : List Ch) (page : Int) (w : World) (h : SlP w A ml l) (ho : SlM w B no ops) (hC : SlG chE w C nc lc) (hp0 : 0 ≤ page ∧ page ≤ 65535) (hE : ErrIn w) :
    Calls Tryz.prog 5 #[.slice A ml c, .slice B no d, .slice C nc e, .int .u16 page] w fun e w' => e = .returned (.bool true) ∧ Chg [] w w' := by
  have hwd := (made_wd l h.wf).1
  have hle := h.le
  have hlo := ho.le
  have hlc := hC.le
  have hcl := Lib.hid hC.len
  have hpm : Int.tmod page 512 = page % 512 := Int.tmod_eq_emod_of_nonneg hp0.1
  have hpr : 0 ≤ page % 512 ∧ page % 512 < 512 := by omega
  generalize page % 512 = pn at *
  have hw1 : wrap64 pn = pn := by unfold wrap64; omega
  have HPR := Lib.hid hpr
  clear hp0 hpr
  go_enter Tryz.func5, Tryz.ntmps5
  go_wp2_with fail
  refine (Chhead_any _ hE).mono ?_; rintro e w1 ⟨rfl, k1⟩
  go_wp2_with fail
  refine (MadeN_at A ml c l _ (h.self k1)).mono ?_; rintro e w2 ⟨q, S, p, hh, b, rfl, k2, g2, hb⟩
  have H : SepC w w2 [gueT q S p L16 hh b 16 (madeW l)] := SepC.lay (SepC.new (SepC.nil w) k1) k2 ⟨rfl, g2⟩ hb
  clear g2 hb k1 k2
  go_wp2_with fail
  refine (MadeN_at A ml c l _ (h.self H.1)).mono ?_; rintro e w3 ⟨q', S', p', hh', b', rfl, k3, g3, hb3⟩
  replace H : SepC w w3 [gueT q' S' p' L16 hh' b' 16 (madeW l), gueT q S p L16 hh b 16 (madeW l)] := H.lay k3 ⟨rfl, g3⟩ hb3
  clear k3 g3 hb3
  generalize madeW l = W at *
  clear h
  by_cases hbigml : (ml : Int) > 600
  · go_wp2_with fail
    go_ret
    exact ⟨rfl, H.1⟩
  · by_cases hbigno : (no : Int) > 200
    · go_wp2_with fail
      go_ret
      exact ⟨rfl, H.1⟩
    · by_cases hbignc : (nc : Int) > 900
      · go_wp2_with fail
        go_ret
        exact ⟨rfl, H.1⟩
      · have hs0 : ∃ s0 : Ms, s0 = ⟨W, 1, []⟩ := ⟨_, rfl⟩
        obtain ⟨s0, hs0⟩ := hs0
        replace hs0 := Lib.hid hs0
        go_wp2_with fail
        refine (SepC.newMod 1 hE hwd H.swap).mono ?_; rintro e w4 ⟨m, t, rfl, H1⟩
        clear H
        replace H1 := H1.swap
        go_wp2_with fail
        refine (SepC.newMod 1 hE hwd H1).mono ?_; rintro e w5 ⟨m', t', rfl, H⟩
        clear H1
        replace H := H.swap
        rw [← hs0.out] at H
        go_wp2_with fail
        go_loopg [14] no (fun gg s14 wr => ∃ k : Nat, k ≤ no ∧ no - k ≤ gg ∧ s14 = .int .i64 k ∧ Aside (SepC w wr [modT w m t q S p L16 hh b 16 (accsM 16 L16 s0 (ops.take k)), modT w m' t' q' S' p' L16 hh' b' 16 (accsM 16 L16 s0 (ops.take k))]))
        case atStart => exact ⟨0, by omega, by omega, rfl, H⟩
        case round =>
          clear H
          obtain ⟨k, hk, hg, rfl, H⟩ := hrel
          replace H := H.out
          by_cases hlt : k < no
          · obtain ⟨ob, off, o, rfl, hbl, hok, how, hcw⟩ := ho.get hlt
            have hc := hcw.chg H.1 hbl (by simp)
            obtain ⟨c0, c1, c2, c3, c4, c5, c6, c7⟩ := hc
            have hsn := Lib.hid (accsM_succ (n := 16) (L := L16) (s := s0) hok)
            generalize accsM 16 L16 s0 (ops.take k) = s1 at *
            have hA := (H.new (Chg.refl [] wr).drew).mod fun F HB => MAcc_b o.kind o.user o.a o.v how.a how.v HB
            have hv := how
            clear hok how
            obtain ⟨what, kind', user', a', v', g', i', page'⟩ := o
            simp only at *
            have hlt' : (k : Int) < (no : Int) := by omega
            have h0 := H.1
            clear H
            go_wp2_with fail
            refine wp_region_still_tail 21 (by kernel_rfl) (by kernel_rfl) ?_
            simp only [List.take_succ_cons, List.take_zero, List.drop_succ_cons, List.drop_zero]
            change wpStill _ _ (World.drew _) _ _ _
            iterate 21 still_step
            refine wpStill_nil ?_
            change wpList _ _ _ _ _ (World.drew _)
            go_wp2_with fail
            refine hA.mono ?_; rintro e w6 ⟨rfl, H6⟩
            clear hA
            go_wp2_with fail
            have hA := (H6.swap.new (Chg.refl [] w6).drew).mod fun F HB => MAcc_b kind' user' a' v' hv.a hv.v HB
            clear c0 c1 c2 c3 c4 c5 c6 c7
            obtain ⟨c0, c1, c2, c3, c4, c5, c6, c7⟩ := hcw.chg H6.1 hbl (by simp)
            clear H6
            refine wp_region_still_tail 21 (by kernel_rfl) (by kernel_rfl) ?_
            simp only [List.take_succ_cons, List.take_zero, List.drop_succ_cons, List.drop_zero]
            change wpStill _ _ (World.drew _) _ _ _
            iterate 21 still_step
            refine wpStill_nil ?_
            change wpList _ _ _ _ _ (World.drew _)
            go_wp2_with fail
            refine hA.mono ?_; rintro e w7 ⟨rfl, H7⟩
            clear hA
            have H6 := H7.swap
            clear H7
            go_wp2_with fail
            go_roundg (no - (k + 1))
            case measure => omega
            case rel => exact ⟨k + 1, by omega, by omega, by go_num, by rw [hsn.out]; exact H6⟩
          · obtain rfl : k = no := by omega
            rw [show ops.take k = ops from by rw [← ho.len, List.take_length]] at H
            clear hlt hk hg
            have hP : Pgs (accsM 16 L16 s0 ops).T := Pgs.accs ops (by rw [hs0.out]; exact Pgs.nil)
            have hsr : (accsM 16 L16 s0 ops).r = 1 := by rw [accsM_r, hs0.out]
            generalize accsM 16 L16 s0 ops = s at *
            go_wp2_with fail
            try rw [hw1]
            clear hw1
            go_loopg [16, 17] nc (fun gg s16 s17 wr => ∃ (k : Nat) (A' : Option Addr) (c' : Nat), k ≤ nc ∧ nc - k ≤ gg ∧ s16 = .slice A' (ownC pn (lc.take k)).length c' ∧ s17 = .int .i64 k ∧ Aside (SepC w wr [ownT chE 56 (.slice A' (ownC pn (lc.take k)).length c') (ownC pn (lc.take k)), modT w m t q S p L16 hh b 16 s, modT w m' t' q' S' p' L16 hh' b' 16 s]))
            case atStart => exact ⟨0, none, 0, by omega, by omega, rfl, rfl, H.ownNil chE 56⟩
            case round =>
              clear H
              obtain ⟨k, A', c', hk, hg, rfl, rfl, H⟩ := hrel
              replace H := H.out
              by_cases hlt : k < nc
              · obtain ⟨bl, off, ⟨cf, cp⟩, rfl, hbl, hx, c0, c1⟩ := SlC.get (hC.new H.1) hlt
                have hS := own_succ (p := pn) hx
                have hOl : (ownC pn (lc.take k)).length ≤ k := Nat.le_trans (List.length_filter_le _ _) (by simp; omega)
                simp only at c0 c1 hS
                generalize ownC pn (lc.take k) = O at *
                generalize hOn : O.length = on at *
                have hlt' : (k : Int) < (nc : Int) := by omega
                clear hx
                by_cases hcp : cp = pn
                · subst hcp
                  rw [if_pos rfl] at hS
                  replace hS := Lib.hid hS
                  have hOn' := Lib.hid hOn
                  clear hOn
                  have H2 := H.alloc #[.bool cf, .int .i64 cp] 56
                  have hso := (H2.pick 1 rfl).own
                  have hsz := H.1.size
                  go_wp2_with (at_builtin; refine wpList_append_G rfl _ _ 24 rfl 56 (.agg #[.bool false, .int .i64 0]) 16 Tryz.underlying24 (by kernel_rfl) (by kernel_rfl) (.slice A' on c') O rfl hso (some ⟨wr.heap.size, 0, none⟩) 1 1 [⟨cf, cp⟩] rfl (OwnG.src (E := chE) (OwnG.lit (L := [Ch.mk cf cp]) H2.blk (by simp))) rfl (by rw [hOn'.out]; omega) ?_; intro v5 w5 ho5 hc5 hv5; obtain ⟨A5, c5, rfl, _, _⟩ := ho5.form)
                  have H5 := (H2.tail).app ho5 hc5 hv5
                  clear H H2 hso
                  go_roundg (nc - (k + 1))
                  case measure => omega
                  case rel => exact ⟨k + 1, A5, c5, by omega, by omega, by rw [hS.out]; simp, by go_num, by rw [hS.out]; exact H5⟩
                · rw [if_neg hcp, List.append_nil] at hS
                  replace hS := Lib.hid hS
                  have hcb : decide (cp = pn) = false := decide_eq_false hcp
                  have hcb2 : (cp == pn) = false := by simpa using hcp
                  go_wp2_with fail
                  go_roundg (nc - (k + 1))
                  case measure => omega
                  case rel => exact ⟨k + 1, A', c', by omega, by omega, by rw [hS.out, hOn], by go_num, by rw [hS.out, hOn]; exact H⟩
              · obtain rfl : k = nc := by omega
                rw [show lc.take k = lc from by rw [← hcl.out, List.take_length]] at *
                have hK := own_same (n := 16) (L := L16) (p := pn) lc (SameK.refl pn s) hP
                have hh1 := Lib.hid hK.k.has
                have hh2 := Lib.hid hK.k.get
                clear hK hk hg hlt
                have H1 : SepC w wr [modT w m t q S p L16 hh b 16 s, ownT chE 56 (.slice A' (ownC pn lc).length c') (ownC pn lc), modT w m' t' q' S' p' L16 hh' b' 16 s] := H.pick 1 rfl
                have hA := H1.mod fun F HB => ChApply_b C k e lc (fun w' hc _ => hC.new hc) HB
                generalize hon : (ownC pn lc).length = on at *
                replace hon := Lib.hid hon
                generalize hO : ownC pn lc = O at *
                clear hO
                generalize appM 16 L16 s lc = s1 at *
                generalize hs2 : appM 16 L16 s O = s2 at *
                replace hs2 := Lib.hid hs2
                go_wp2_with fail
                refine hA.mono ?_; rintro e x3 ⟨rfl, H3⟩
                clear hA H H1
                have H4 : SepC w x3 [modT w m' t' q' S' p' L16 hh' b' 16 s, ownT chE 56 (.slice A' on c') O, modT w m t q S p L16 hh b 16 s1] := (H3.pick 1 rfl).pick 2 rfl
                have hA := H4.mod2 fun F HB hQ => ChApply_b A' on c' O (fun w' _ f => by obtain ⟨T, hT⟩ := hQ w' f; exact hT.2.slg) HB
                rw [hs2.out] at hA
                go_wp2_with fail
                refine hA.mono ?_; rintro e x4 ⟨rfl, H5⟩
                clear hA H3 H4
                have hKn := fun w9 t9 m9 F (HB : ModB w F w9 m t9 m9 S p L16 hh b 16 s1) => MKnown_b pn HB
                clear hKn
                have hK1 := MKnown_b pn (SepC.modB (H5.pick 2 rfl))
                have hK2 := fun w9 (k9 : Chg [] x4 w9) => MKnown_b pn (SepC.modB (H5.new k9))
                simp only [hh1.out, hh2.out] at hK2
                generalize getT s1.T 0 pn = X at *
                generalize hasT s1.T 0 pn = hd at *
                obtain ⟨xa, xp, xf, xw, xu, xx, xd⟩ := X
                have hq := fun w9 => run_eqH ⟨xa, xp, xf, xw, xu, xx, xd⟩ ⟨xa, xp, xf, xw, xu, xx, xd⟩ w9
                rw [Ht.eqb_self] at hq
                simp only [Ht.v] at hK1 hK2 hq
                have h4 := H5.1
                clear H5 hh1 hh2
                go_wp2_with fail
                refine hK1.mono ?_; rintro e x5 ⟨rfl, k5⟩
                have b5 := Blk.new x5 62 #[.int .i64 xa, .int .i64 xp, .int .i64 xf, .bool xw, .bool xu, .bool xx, .bool xd]
                have al := k5.alloc (.cells #[.int .i64 xa, .int .i64 xp, .int .i64 xf, .bool xw, .bool xu, .bool xx, .bool xd] 62)
                clear hK1
                go_wp2_with fail
                refine (hK2 _ al).mono ?_; rintro e x6 ⟨rfl, k6⟩
                have b6 := (k6.blk b5 (by simp)).alloc (.cells #[.int .i64 xa, .int .i64 xp, .int .i64 xf, .bool xw, .bool xu, .bool xx, .bool xd] 62)
                have b7 := Blk.new x6 62 #[.int .i64 xa, .int .i64 xp, .int .i64 xf, .bool xw, .bool xu, .bool xx, .bool xd]
                have h7 := (h4.trans al (by simp)).trans (k6.alloc (.cells #[.int .i64 xa, .int .i64 xp, .int .i64 xf, .bool xw, .bool xu, .bool xx, .bool xd] 62)) (by simp)
                clear hK2 b5 al k5 k6
                obtain ⟨z0, z1, z2, z3, z4, z5, z6, _, _, _, _, _, _, _⟩ := blk7 b6
                obtain ⟨y0, y1, y2, y3, y4, y5, y6, _, _, _, _, _, _, _⟩ := blk7 b7
                clear b6 b7
                cases hd
                · go_wp2_with fail
                  go_ret
                  exact ⟨rfl, h7⟩
                · go_wp2_with fail
                  go_ret
                  exact ⟨rfl, h7⟩

end Go.Proofs.YtgebfagiomcmbaaGreatDoor
