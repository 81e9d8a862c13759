/-
  ChoiceMemory: the walk.
-/
import Derived.Test.YtgebfagiomcmbaaGreatDoorChoiceHead
import Derived.Test.YtgebfagiomcmbaaGreatDoorSep
namespace Go.Proofs.YtgebfagiomcmbaaGreatDoor
open Go.RowKit Go.Shelf Go.Maps

set_option maxRecDepth 100000 in
set_option maxHeartbeats 8000000 in
theorem ChoiceMemory_walk (A : Option Addr) (ml c : Nat) (l : List Pu) (B : Option Addr) (no d : Nat) (ops : List OpM) (C : Option Addr) (nc e : Nat) (lc : List Ch) (w : World) (h : SlP w A ml l) (ho : SlM w B no ops) (hC : SlG chE w C nc lc) (hE : ErrIn w) :
    Calls Tryz.prog 4 #[.slice A ml c, .slice B no d, .slice C nc e] w fun e w' => e = .returned (.bool true) ∧ Chg [] w w' := by
  have hwd := (made_wd l h.wf).1
  have hle := h.le
  have hlo := ho.le
  have hlc := hC.le
  have hcl := Lib.hid hC.len
  go_enter Tryz.func4, Tryz.ntmps4
  go_wp2_with fail
  refine (Chhead_any _ hE).mono ?_; rintro e w1 ⟨rfl, k1⟩
  go_wp2_with fail
  refine (MadeN_at A ml c l _ (h.self k1)).mono ?_; rintro e w2 ⟨q, S, p, hh, b, rfl, k2, g2, hb⟩
  have H : SepC w w2 [gueT q S p L16 hh b 16 (madeW l)] := SepC.lay (SepC.new (SepC.nil w) k1) k2 ⟨rfl, g2⟩ hb
  clear g2 hb k1 k2
  generalize madeW l = W at *
  clear h
  by_cases hbigml : (ml : Int) > 600
  · go_wp2_with fail
    go_ret
    exact ⟨rfl, H.1⟩
  · by_cases hbigno : (no : Int) > 200
    · go_wp2_with fail
      go_ret
      exact ⟨rfl, H.1⟩
    · by_cases hbignc : (nc : Int) > 900
      · go_wp2_with fail
        go_ret
        exact ⟨rfl, H.1⟩
      · have hs0 : ∃ s0 : Ms, s0 = ⟨W, 1, []⟩ := ⟨_, rfl⟩
        obtain ⟨s0, hs0⟩ := hs0
        replace hs0 := Lib.hid hs0
        go_wp2_with fail
        refine (SepC.newMod 1 hE hwd H).mono ?_; rintro e w4 ⟨m, t, rfl, H1⟩
        clear H
        have H := H1
        clear H1
        rw [← hs0.out] at H
        go_wp2_with fail
        go_loopg [10] no (fun gg s10 wr => ∃ k : Nat, k ≤ no ∧ no - k ≤ gg ∧ s10 = .int .i64 k ∧ Aside (SepC w wr [modT w m t q S p L16 hh b 16 (accsM 16 L16 s0 (ops.take k))]))
        case atStart => exact ⟨0, by omega, by omega, rfl, H⟩
        case round =>
          clear H
          obtain ⟨k, hk, hg, rfl, H⟩ := hrel
          replace H := H.out
          by_cases hlt : k < no
          · obtain ⟨ob, off, o, rfl, _, hok, how, hc⟩ := (ho.new H.1).get hlt
            obtain ⟨c0, c1, c2, c3, c4, c5, c6, c7⟩ := hc
            have hsn := Lib.hid (accsM_succ (n := 16) (L := L16) (s := s0) hok)
            generalize accsM 16 L16 s0 (ops.take k) = s1 at *
            have hA := (H.new (Chg.refl [] wr).drew).mod fun F HB => MAcc_b o.kind o.user o.a o.v how.a how.v HB
            have hv := how
            clear hok how
            obtain ⟨what, kind', user', a', v', g', i', page'⟩ := o
            simp only at *
            have hlt' : (k : Int) < (no : Int) := by omega
            have h0 := H.1
            clear H
            go_wp2_with fail
            refine wp_region_still_tail 21 (by kernel_rfl) (by kernel_rfl) ?_
            simp only [List.take_succ_cons, List.take_zero, List.drop_succ_cons, List.drop_zero]
            change wpStill _ _ (World.drew _) _ _ _
            iterate 21 still_step
            refine wpStill_nil ?_
            change wpList _ _ _ _ _ (World.drew _)
            go_wp2_with fail
            refine hA.mono ?_; rintro e w6 ⟨rfl, H6⟩
            clear hA
            go_wp2_with fail
            go_roundg (no - (k + 1))
            case measure => omega
            case rel => exact ⟨k + 1, by omega, by omega, by go_num, by rw [hsn.out]; exact H6⟩
          · obtain rfl : k = no := by omega
            rw [show ops.take k = ops from by rw [← ho.len, List.take_length]] at H
            clear hlt hk hg
            have hP : Pgs (accsM 16 L16 s0 ops).T := Pgs.accs ops (by rw [hs0.out]; exact Pgs.nil)
            have hsr : (accsM 16 L16 s0 ops).r = 1 := by rw [accsM_r, hs0.out]
            generalize accsM 16 L16 s0 ops = s at *
            have hTl := hP.len
            go_wp2_with fail
            refine (SepC.words H).mono ?_; rintro e x1 ⟨g1, c1, rfl, H1, hcap⟩; clear hcap
            clear H
            rw [L16_len] at H1
            go_wp2_with fail
            refine (SepC.allHits H1.swap).mono ?_; rintro e x2 ⟨A2, c2, rfl, H2⟩
            have H := H2.tail
            clear H1 H2
            go_wp2_with fail
            go_loopg [13, 14] nc (fun gg s13 s14 wr => ∃ k : Nat, k ≤ nc ∧ nc - k ≤ gg ∧ s13 = .int .i64 (fillsC (lc.take k) : Nat) ∧ s14 = .int .i64 k ∧ Aside (SepC w wr [modT w m t q S p L16 hh b 16 s, sluT g1 (8 * 16) (allG s.W L16)]))
            case atStart => exact ⟨0, by omega, by omega, rfl, rfl, H⟩
            case round =>
              clear H
              obtain ⟨k, hk, hg, rfl, rfl, H⟩ := hrel
              replace H := H.out
              by_cases hlt : k < nc
              · obtain ⟨bl, off, ⟨cf, cp⟩, rfl, hbl, hx, c0, c1⟩ := SlC.get (hC.new H.1) hlt
                have hF := Lib.hid (fills_take hx)
                have hFl : fillsC (lc.take k) ≤ k := Nat.le_trans (fills_le _) (by simp; omega)
                simp only at c0 c1 hF
                generalize fillsC (lc.take k) = N at *
                have hlt' : (k : Int) < (nc : Int) := by omega
                clear hx
                cases cf
                · go_wp2_with fail
                  go_roundg (nc - (k + 1))
                  case measure => omega
                  case rel => exact ⟨k + 1, by omega, by omega, by rw [hF.out]; first | rfl | go_num, by go_num, H⟩
                · go_wp2_with fail
                  go_roundg (nc - (k + 1))
                  case measure => omega
                  case rel => exact ⟨k + 1, by omega, by omega, by rw [hF.out]; first | rfl | go_num, by go_num, H⟩
              · obtain rfl : k = nc := by omega
                rw [show lc.take k = lc from by rw [← hcl.out, List.take_length]] at *
                have hA := H.mod fun F HB => ChApply_b C k e lc (fun w' hc _ => hC.new hc) HB
                have hN : appN 16 L16 s lc ≤ k := by have := appN_le (n := 16) (L := L16) lc s; rw [hcl.out] at this; exact this
                have hFl : fillsC lc ≤ k := by have := fills_le lc; rw [hcl.out] at this; exact this
                have hKn := appM_len (n := 16) (L := L16) lc s
                have hW := Lib.hid (appM_W (n := 16) (L := L16) lc s).1
                generalize appN 16 L16 s lc = N at *
                generalize appM 16 L16 s lc = s2 at *
                generalize fillsC lc = Fc at *
                go_wp2_with fail
                refine hA.mono ?_; rintro e x3 ⟨rfl, H3⟩
                clear hA H
                go_wp2_with fail
                refine (SepC.words H3).mono ?_; rintro e x4 ⟨g4, c4, rfl, H4, hcap⟩; clear hcap
                clear H3
                rw [L16_len, hW.out] at H4
                have u4 := H4.slu
                have u1 := (H4.pick 2 rfl).slu
                go_wp2_with fail
                refine (SameWords_any _ _ 128 128 c4 c1 _ _ _ u4 u1 (by omega) (by omega)).mono ?_; rintro e x5 ⟨rfl, nd, rfl⟩
                rw [eqL_self]
                have H5 := H4.tail.new ((Chg.refl [] x4).drewN nd)
                clear H4 u4 u1
                generalize hTe : s2.T.length = tl at *
                generalize s.T.length = sl at *
                obtain ⟨sf, hsf⟩ : ∃ sf : Nat, sf = sl + Fc := ⟨_, rfl⟩
                have hN' : (N : Int) ≤ (k : Int) := Int.ofNat_le.2 hN
                have hK' : (tl : Int) ≤ (sf : Int) := by omega
                have hw1 : wrap64 ((sl : Int) + (Fc : Int)) = (sf : Int) := by unfold wrap64; omega
                replace hTe := Lib.hid hTe
                clear hk hg hlt hsf hKn hN hTl hFl
                have hAl := SepC.allHits H5
                rw [hTe.out] at hAl
                go_wp2_with fail
                refine hAl.mono ?_; rintro e x6 ⟨A6, c6, rfl, H6⟩
                have h6 := H6.1
                clear hAl H5 H6
                go_wp2_with fail
                go_ret
                exact ⟨rfl, h6⟩

end Go.Proofs.YtgebfagiomcmbaaGreatDoor
