/-
  ChoiceRow: the walk.
-/
import Derived.Test.YtgebfagiomcmbaaGreatDoorChoiceHead
import Derived.Test.YtgebfagiomcmbaaGreatDoorSep
namespace Go.Proofs.YtgebfagiomcmbaaGreatDoor
open Go.RowKit Go.Shelf Go.Maps

/-- from place i on -/
theorem run_from {P : Program} (t e : TypeId) (k : Nat) (ht : P.underlying t = some (.slice e)) (hz : ∀ w, (Go.sizeOf e).run P w = .ok k w) (a : Addr) (len cap l : Nat) (h1 : l < len) (h2 : len ≤ cap) (w : World) :
    (Instr.slice t (.slice (some a) len cap) (some (.int .i64 l)) none none).run P w = .ok (.slice (some (a.add (l * k))) (len - l) (cap - l)) w := by
  have hel : P.elem t = e := by simp [Program.elem, ht]
  rw [run_slice_l w t (some a) len cap (hel.symm ▸ ht) .i64 l (by omega) (by omega), hel, hz]
  simp [Result.andThen, sliced, show ¬ cap = l by omega]

set_option maxRecDepth 100000 in
set_option maxHeartbeats 8000000 in
theorem ChoiceRow_walk (A : Option Addr) (ml c : Nat) (l : List Pu) (B : Option Addr) (no d : Nat) (ops : List OpM) (A1 : Option Addr) (na ca : Nat) (la : List Ch) (B1 : Option Addr) (nb cb : Nat) (lb : List Ch) (w : World) (h : SlP w A ml l) (ho : SlM w B no ops) (hA : SlG chE w A1 na la) (hA0 : A1 = none → na = 0 ∧ ca = 0) (hB : SlG chE w B1 nb lb) (hB0 : B1 = none → nb = 0 ∧ cb = 0) (hBc : nb ≤ cb) (hE : ErrIn w) :
    Calls Tryz.prog 7 #[.slice A ml c, .slice B no d, .slice A1 na ca, .slice B1 nb cb] w fun e w' => e = .returned (.bool true) ∧ Chg [] w w' := by
  have hwd := (made_wd l h.wf).1
  have hle := h.le
  have hlo := ho.le
  have hla := hA.le
  have hlb := hB.le
  have hal := Lib.hid hA.len
  have hbl := Lib.hid hB.len
  go_enter Tryz.func7, Tryz.ntmps7
  go_wp2_with fail
  refine (Chhead_any _ hE).mono ?_; rintro e w1 ⟨rfl, k1⟩
  go_wp2_with fail
  refine (MadeN_at A ml c l _ (h.self k1)).mono ?_; rintro e w2 ⟨q, S, p, hh, b, rfl, k2, g2, hb⟩
  have H : SepC w w2 [gueT q S p L16 hh b 16 (madeW l)] := SepC.lay (SepC.new (SepC.nil w) k1) k2 ⟨rfl, g2⟩ hb
  clear g2 hb k1 k2
  go_wp2_with fail
  refine (MadeN_at A ml c l _ (h.self H.1)).mono ?_; rintro e w3 ⟨q', S', p', hh', b', rfl, k3, g3, hb3⟩
  replace H : SepC w w3 [gueT q' S' p' L16 hh' b' 16 (madeW l), gueT q S p L16 hh b 16 (madeW l)] := H.lay k3 ⟨rfl, g3⟩ hb3
  clear k3 g3 hb3
  generalize madeW l = W at *
  clear h
  by_cases hbigml : (ml : Int) > 600
  · go_wp2_with fail
    go_ret
    exact ⟨rfl, H.1⟩
  · by_cases hbigno : (no : Int) > 200
    · go_wp2_with fail
      go_ret
      exact ⟨rfl, H.1⟩
    · by_cases hbigna : (na : Int) > 400
      · go_wp2_with fail
        go_ret
        exact ⟨rfl, H.1⟩
      · by_cases hbignb : (nb : Int) > 400
        · go_wp2_with fail
          go_ret
          exact ⟨rfl, H.1⟩
        · have hs0 : ∃ s0 : Ms, s0 = ⟨W, 1, []⟩ := ⟨_, rfl⟩
          obtain ⟨s0, hs0⟩ := hs0
          replace hs0 := Lib.hid hs0
          go_wp2_with fail
          refine (SepC.newMod 1 hE hwd H.swap).mono ?_; rintro e w4 ⟨m, t, rfl, H1⟩
          clear H
          replace H1 := H1.swap
          go_wp2_with fail
          refine (SepC.newMod 1 hE hwd H1).mono ?_; rintro e w5 ⟨m', t', rfl, H⟩
          clear H1
          replace H := H.swap
          rw [← hs0.out] at H
          go_wp2_with fail
          go_loopg [14] no (fun gg s14 wr => ∃ k : Nat, k ≤ no ∧ no - k ≤ gg ∧ s14 = .int .i64 k ∧ Aside (SepC w wr [modT w m t q S p L16 hh b 16 (accsM 16 L16 s0 (ops.take k)), modT w m' t' q' S' p' L16 hh' b' 16 (accsM 16 L16 s0 (ops.take k))]))
          case atStart => exact ⟨0, by omega, by omega, rfl, H⟩
          case round =>
            clear H
            obtain ⟨k, hk, hg, rfl, H⟩ := hrel
            replace H := H.out
            by_cases hlt : k < no
            · obtain ⟨ob, off, o, rfl, hbl, hok, how, hcw⟩ := ho.get hlt
              have hc := hcw.chg H.1 hbl (by simp)
              obtain ⟨c0, c1, c2, c3, c4, c5, c6, c7⟩ := hc
              have hsn := Lib.hid (accsM_succ (n := 16) (L := L16) (s := s0) hok)
              generalize accsM 16 L16 s0 (ops.take k) = s1 at *
              have hA := (H.new (Chg.refl [] wr).drew).mod fun F HB => MAcc_b o.kind o.user o.a o.v how.a how.v HB
              have hv := how
              clear hok how
              obtain ⟨what, kind', user', a', v', g', i', page'⟩ := o
              simp only at *
              have hlt' : (k : Int) < (no : Int) := by omega
              have h0 := H.1
              clear H
              go_wp2_with fail
              refine wp_region_still_tail 21 (by kernel_rfl) (by kernel_rfl) ?_
              simp only [List.take_succ_cons, List.take_zero, List.drop_succ_cons, List.drop_zero]
              change wpStill _ _ (World.drew _) _ _ _
              iterate 21 still_step
              refine wpStill_nil ?_
              change wpList _ _ _ _ _ (World.drew _)
              go_wp2_with fail
              refine hA.mono ?_; rintro e w6 ⟨rfl, H6⟩
              clear hA
              go_wp2_with fail
              have hA := (H6.swap.new (Chg.refl [] w6).drew).mod fun F HB => MAcc_b kind' user' a' v' hv.a hv.v HB
              clear c0 c1 c2 c3 c4 c5 c6 c7
              obtain ⟨c0, c1, c2, c3, c4, c5, c6, c7⟩ := hcw.chg H6.1 hbl (by simp)
              clear H6
              refine wp_region_still_tail 21 (by kernel_rfl) (by kernel_rfl) ?_
              simp only [List.take_succ_cons, List.take_zero, List.drop_succ_cons, List.drop_zero]
              change wpStill _ _ (World.drew _) _ _ _
              iterate 21 still_step
              refine wpStill_nil ?_
              change wpList _ _ _ _ _ (World.drew _)
              go_wp2_with fail
              refine hA.mono ?_; rintro e w7 ⟨rfl, H7⟩
              clear hA
              have H6 := H7.swap
              clear H7
              go_wp2_with fail
              go_roundg (no - (k + 1))
              case measure => omega
              case rel => exact ⟨k + 1, by omega, by omega, by go_num, by rw [hsn.out]; exact H6⟩
            · obtain rfl : k = no := by omega
              rw [show ops.take k = ops from by rw [← ho.len, List.take_length]] at H
              clear hlt hk hg
              have hP : Pgs (accsM 16 L16 s0 ops).T := Pgs.accs ops (by rw [hs0.out]; exact Pgs.nil)
              have hsr : (accsM 16 L16 s0 ops).r = 1 := by rw [accsM_r, hs0.out]
              generalize accsM 16 L16 s0 ops = s at *
              have hNa := appN_le (n := 16) (L := L16) la s
              have hNb := appN_le (n := 16) (L := L16) lb (appM 16 L16 s la)
              rw [hal.out] at hNa
              rw [hbl.out] at hNb
              have hS := Lib.hid (appM_app (n := 16) (L := L16) s la lb)
              have hN := Lib.hid (appN_app (n := 16) (L := L16) la s lb)
              have hA1 := H.mod fun F HB => ChApply_b A1 na ca la (fun w' hc _ => hA.new hc) HB
              go_wp2_with fail
              refine hA1.mono ?_; rintro e x1 ⟨rfl, H1⟩
              clear hA1 H
              have hA1 := H1.mod fun F HB => ChApply_b B1 nb cb lb (fun w' hc _ => hB.new hc) HB
              rw [← hS.out] at hA1
              generalize hs2 : appM 16 L16 s (la ++ lb) = s2 at *
              generalize appN 16 L16 s la = N1 at *
              generalize appN 16 L16 (appM 16 L16 s la) lb = N2 at *
              go_wp2_with fail
              refine hA1.mono ?_; rintro e x2 ⟨rfl, H2⟩
              clear hA1 H1
              have H3 := (H2.alloc #[] 56).litOwn (E := chE) (L := []) rfl (by simp)
              have ho3 := H3.own
              go_wp2_with (at_builtin; first | (refine wpList_append_G rfl _ _ 24 rfl 56 (.agg #[.bool false, .int .i64 0]) 16 Tryz.underlying24 (by kernel_rfl) (by kernel_rfl) (.slice (some ⟨x2.heap.size, 0, none⟩) 0 0) [] rfl ho3 A1 na ca la rfl ((hA.new H3.1).src hA0) hal.out (by simp; omega) ?_; intro v5 w5 ho5 hc5 hv5; rw [List.nil_append] at ho5; obtain ⟨A5, c5, rfl, _, _⟩ := ho5.form; have H5 := H3.app ho5 hc5 hv5; have ho5 := H5.own; rw [hal.out] at ho5 hv5 ⊢; clear H2 H3 ho3 hc5) | (refine wpList_append_G rfl _ _ 24 rfl 56 (.agg #[.bool false, .int .i64 0]) 16 Tryz.underlying24 (by kernel_rfl) (by kernel_rfl) (.slice A5 na c5) la rfl ho5 B1 nb cb lb rfl ((hB.new H5.1).src hB0) hbl.out (by rw [hal.out]; omega) ?_; intro v6 w6 ho6 hc6 hv6; obtain ⟨A6, c6, rfl, _, _⟩ := ho6.form; rw [hal.out] at H5; have H6 := H5.app ho6 hc6 hv6; clear H5 ho5 hc6 hv6 hv5))
              have H7 : SepC w w6 [modT w m' t' q' S' p' L16 hh' b' 16 s, ownT chE 56 (.slice A6 (la ++ lb).length c6) (la ++ lb), modT w m t q S p L16 hh b 16 s2] := H6.pick 2 rfl
              clear H6
              have hA1 := H7.mod2 fun F HB hQ => ChApply_b A6 (la ++ lb).length c6 (la ++ lb) (fun w' _ f => by obtain ⟨T, hT⟩ := hQ w' f; exact hT.2.slg) HB
              rw [hs2, hN.out, List.length_append] at hA1
              replace hs2 := Lib.hid hs2
              clear hN
              refine hA1.mono ?_; rintro e x3 ⟨rfl, H8⟩
              clear hA1 H7
              by_cases hp : 0 < nb
              · obtain ⟨bb, bo, rfl, hbb, _⟩ := hB.at_ hp
                have hD := hB.drop (i := nb - 1) (by omega)
                rw [show nb - (nb - 1) = 1 by omega] at hD
                obtain ⟨x, hx⟩ : ∃ x, lb.drop (nb - 1) = [x] := List.length_eq_one_iff.1 (by rw [List.length_drop, hbl.out]; omega)
                have hL : la ++ lb.take (nb - 1) ++ [x] = la ++ lb := by rw [List.append_assoc, ← hx, List.take_append_drop]
                have hlst := app_last (n := 16) (L := L16) (la ++ lb.take (nb - 1)) x s
                rw [hL, hs2.out, ← hx] at hlst
                have hsl : ∀ w9, (Instr.slice 24 (.slice (some ⟨bb, bo, none⟩) nb cb) (some (.int .i64 ((nb : Int) - 1))) none none).run Tryz.prog w9 = .ok (.slice (some ⟨bb, bo + (nb - 1) * 2, none⟩) 1 (cb - (nb - 1))) w9 := fun w9 => by rw [show ((nb : Int) - 1) = ((nb - 1 : Nat) : Int) by omega, run_from 24 56 2 Tryz.underlying24 (by intro w; kernel_rfl) ⟨bb, bo, none⟩ nb cb (nb - 1) (by omega) hBc, add_at, show nb - (nb - 1) = 1 by omega]
                have hA1 := (H8.pick 2 rfl).mod fun F HB => ChApply_b (some ⟨bb, bo + (nb - 1) * 2, none⟩) 1 (cb - (nb - 1)) (lb.drop (nb - 1)) (fun w' hc _ => hD.new hc) HB
                rw [hlst.1, hlst.2] at hA1
                have hA2 := fun w9 m9 t9 q9 S9 p9 h9 b9 F (HB : ModB w F w9 m9 t9 q9 S9 p9 L16 h9 b9 16 s2) => ChApply_b (some ⟨bb, bo + (nb - 1) * 2, none⟩) 1 (cb - (nb - 1)) (lb.drop (nb - 1)) (fun w' hc _ => hD.new hc) HB
                simp only [hlst.1, hlst.2] at hA2
                clear hlst hx hL hD
                have hp' : (0 : Int) < (nb : Int) := by omega
                go_wp2_with fail
                refine hA1.mono ?_; rintro e x4 ⟨rfl, H9⟩
                clear hA1 H8
                go_wp2_with fail
                refine ((H9.pick 1 rfl).mod fun F HB => hA2 _ _ _ _ _ _ _ _ _ HB).mono ?_; rintro e x5 ⟨rfl, K9⟩
                have H9 : SepC w x5 [modT w m t q S p L16 hh b 16 s2, modT w m' t' q' S' p' L16 hh' b' 16 s2, ownT chE 56 (.slice A6 (la.length + lb.length) c6) (la ++ lb)] := K9.pick 1 rfl
                clear K9 hA2 hsl
                replace H9 : SepC w x5 [modT w m t q S p L16 hh b 16 s2, modT w m' t' q' S' p' L16 hh' b' 16 s2] := H9.under fun V h => by obtain ⟨T, V2, rfl, h1, h2, T3, V3, rfl, _⟩ := h; exact ⟨T ++ [], ⟨T, [], rfl, h1, fun i hi => ⟨(h2 i hi).1, by simp⟩, rfl⟩, fun i hi => by simp at hi; simp [hi]⟩
                go_wp2_with fail
                refine (SepC.allHits H9).mono ?_; rintro e y1 ⟨A7, c7, rfl, K1⟩
                clear H9
                have K2 : SepC w y1 [modT w m' t' q' S' p' L16 hh' b' 16 s2, hitT (.slice A7 s2.T.length c7) s2.T, modT w m t q S p L16 hh b 16 s2] := K1.pick 2 rfl
                clear K1
                go_wp2_with fail
                refine (SepC.allHits K2).mono ?_; rintro e y2 ⟨A8, c8, rfl, K3⟩
                clear K2
                have t1 := K3.hits.slh
                have t2 := (K3.pick 2 rfl).hits.slh
                have h0 := K3.1
                clear K3
                go_wp2_with fail
                refine (TSame_at A7 A8 _ _ c7 c8 _ _ _ t2 t1).mono ?_; rintro e y3 ⟨rfl, k3⟩
                rw [eqHs_self]
                clear t1 t2
                go_wp2_with fail
                go_ret
                exact ⟨rfl, h0.trans k3 (by simp)⟩
              · have hp' : ¬ (0 : Int) < (nb : Int) := by omega
                have H9 : SepC w x3 [modT w m t q S p L16 hh b 16 s2, modT w m' t' q' S' p' L16 hh' b' 16 s2, ownT chE 56 (.slice A6 (la.length + lb.length) c6) (la ++ lb)] := H8.pick 2 rfl
                clear H8
                replace H9 : SepC w x3 [modT w m t q S p L16 hh b 16 s2, modT w m' t' q' S' p' L16 hh' b' 16 s2] := H9.under fun V h => by obtain ⟨T, V2, rfl, h1, h2, T3, V3, rfl, _⟩ := h; exact ⟨T ++ [], ⟨T, [], rfl, h1, fun i hi => ⟨(h2 i hi).1, by simp⟩, rfl⟩, fun i hi => by simp at hi; simp [hi]⟩
                go_wp2_with fail
                refine (SepC.allHits H9).mono ?_; rintro e y1 ⟨A7, c7, rfl, K1⟩
                clear H9
                have K2 : SepC w y1 [modT w m' t' q' S' p' L16 hh' b' 16 s2, hitT (.slice A7 s2.T.length c7) s2.T, modT w m t q S p L16 hh b 16 s2] := K1.pick 2 rfl
                clear K1
                go_wp2_with fail
                refine (SepC.allHits K2).mono ?_; rintro e y2 ⟨A8, c8, rfl, K3⟩
                clear K2
                have t1 := K3.hits.slh
                have t2 := (K3.pick 2 rfl).hits.slh
                have h0 := K3.1
                clear K3
                go_wp2_with fail
                refine (TSame_at A7 A8 _ _ c7 c8 _ _ _ t2 t1).mono ?_; rintro e y3 ⟨rfl, k3⟩
                rw [eqHs_self]
                clear t1 t2
                go_wp2_with fail
                go_ret
                exact ⟨rfl, h0.trans k3 (by simp)⟩

end Go.Proofs.YtgebfagiomcmbaaGreatDoor
