/-
  ModelKnown: the walk.
-/
import Derived.Test.YtedginkenmafmaaGreatDoorModelHead
import Derived.Test.YtedginkenmafmaaGreatDoorModelR
import Derived.Test.YtedginkenmafmaaGreatDoorG4r
namespace Go.Proofs.YtedginkenmafmaaGreatDoor
open Go.RowKit Go.Shelf Go.Maps

theorem kn_load (h : Ht) : servesB h 0 h.u = true := by
  unfold servesB
  rw [may_of, show h.rg.u = h.u from rfl]
  cases h.u <;> cases h.d <;> simp
theorem kn_store {h : Ht} (hd : h.d = true) (hw : h.w = true) : servesB h 1 false = true := by
  unfold servesB
  rw [may_of, show h.rg.w = h.w from rfl, hd, hw]; simp
theorem set_getD_self (W : List Int) (k : Nat) : W.set k (W.getD k 0) = W := by
  by_cases h : k < W.length
  · rw [List.getD_eq_getElem?_getD, List.getElem?_eq_getElem h]; simp
  · exact List.set_eq_of_length_le (by omega)
theorem setW_back (n : Nat) (W : List Int) (f i : Int) : setW n W f i (getW n W f i) = W := by
  unfold setW getW
  split
  · exact set_getD_self _ _
  · rfl
theorem setG_back (n : Nat) (W L : List Int) (g i : Int) : setG n W L g i (getG n W L g i) = W := by
  unfold setG getG
  split
  · exact setW_back _ _ _ _
  · rfl

set_option maxRecDepth 100000 in
set_option maxHeartbeats 40000000 in
theorem ModelKnown_walk (A : Option Addr) (ml c : Nat) (l : List Pu) (B : Option Addr) (no d : Nat) (ops : List OpM) (C : Option Addr) (nom e : Nat) (el : List Pu) (page word v : Int) (w : World) (h : SlP w A ml l) (ho : SlM w B no ops) (hom : SlP w C nom el) (hp0 : 0 ≤ page ∧ page ≤ 65535) (hk0 : 0 ≤ word ∧ word ≤ 255) (hv0 : 0 ≤ v ∧ v ≤ 18446744073709551615) (hE : ErrIn w) :
    Calls Tryz.prog 6 #[.slice A ml c, .slice B no d, .slice C nom e, .int .u16 page, .int .u8 word, .int .u64 v] w fun e w' => e = .returned (.bool true) ∧ Chg [] w w' := by
  have hwd := (made_wd l h.wf).1
  have hle := h.le
  have hlo := ho.le
  have hlom := hom.le
  have hpm : Int.tmod page 512 = page % 512 := Int.tmod_eq_emod_of_nonneg hp0.1
  have hkm : Int.tmod word 8 = word % 8 := Int.tmod_eq_emod_of_nonneg hk0.1
  have hpr : 0 ≤ page % 512 ∧ page % 512 < 512 := by omega
  have hkr : 0 ≤ word % 8 ∧ word % 8 < 8 := by omega
  generalize page % 512 = pn at *
  generalize word % 8 = wn at *
  have hw1 : wrap64 pn = pn := by unfold wrap64; omega
  have hw2 : wrap64 wn = wn := by unfold wrap64; omega
  have HPR := Lib.hid hpr
  have HKR := Lib.hid hkr
  have HV := Lib.hid (show 0 ≤ v ∧ v < 18446744073709551616 by omega)
  clear hp0 hk0 hpr hkr hv0
  go_enter Tryz.func6, Tryz.ntmps6
  go_wp2_with fail
  refine (Mohead_any _ hE).mono ?_; rintro e w1 ⟨rfl, k1⟩
  go_wp2_with fail
  refine (Made_at A ml c l _ (h.self k1)).mono ?_; rintro e w2 ⟨q, S, p, hh, b, rfl, k2, g2, hb⟩
  have k3 : Chg [] w w2 := k1.trans k2 (by simp)
  have hbw : w.heap.size ≤ b := Nat.le_trans k1.size hb
  generalize madeW l = W at *
  clear k1 k2 hb h
  by_cases hbigml : (ml : Int) > 600
  · go_wp2_with fail
    go_ret
    exact ⟨rfl, k3⟩
  · by_cases hbigno : (no : Int) > 200
    · go_wp2_with fail
      go_ret
      exact ⟨rfl, k3⟩
    · by_cases hbignom : (nom : Int) > 200
      · go_wp2_with fail
        go_ret
        exact ⟨rfl, k3⟩
      · go_wp2_with fail
        refine (MNew_b (w0 := w) (w := w2) (q := q) (S := S) (p := p) (L := L16) (h := hh) (b := b) (n := 16) 1 hE k3 W g2 hwd hbw).mono ?_; rintro e w3 ⟨m, t, rfl, H, _⟩
        clear k3 g2
        generalize hs0 : (⟨W, 1, []⟩ : Ms) = s0 at *
        go_wp2_with fail
        go_loopw [16] (fun i w' => ∃ k : Nat, k ≤ no ∧ i = .int .i64 k ∧ ModB w [] w' m t q S p L16 hh b 16 (runM 16 L16 s0 (ops.take k))) (fun i _ => no - (intOf i).toNat)
        case atStart => exact ⟨0, by omega, rfl, by simpa [runM] using H⟩
        case round =>
          clear H
          obtain ⟨k, hk, rfl, H⟩ := hrel
          by_cases hlt : k < no
          · obtain ⟨ob, off, o, rfl, _, hok, how, hc⟩ := (ho.new H.c0).get hlt
            obtain ⟨c0, c1, c2, c3, c4, c5, c6, c7⟩ := hc
            have hsn := Lib.hid (runM_succ (n := 16) (L := L16) (s := s0) hok)
            have hD := DoM_b o how H
            clear hok how
            obtain ⟨what, kind', user', a', v', g', i', page'⟩ := o
            simp only [OpM.val, Ot.cs] at *
            go_wp2_with fail
            refine hD.mono ?_; rintro e w4 ⟨rfl, H4, f4⟩
            clear hD c0 c1 c2 c3 c4 c5 c6 c7
            go_wp2_with fail
            go_roundw
            case rel => exact ⟨k + 1, by omega, by go_num, by rw [hsn.out]; exact H4⟩
            case measure => simp [intOf]; omega
          · obtain rfl : k = no := by omega
            rw [show ops.take k = ops from by rw [← ho.len, List.take_length]] at H
            clear hlt hk
            generalize hs : runM 16 L16 s0 ops = s at *
            clear hs hs0
            have hKn := MKnown_b pn H
            generalize hX : getT s.T 0 pn = X at *
            have HX := Lib.hid hX
            generalize hU : hasT s.T 0 pn = U at *
            have HU := Lib.hid hU
            clear hX hU
            obtain ⟨xa, xp, xf, xw, xu, xx, xd⟩ := X
            simp only [Ht.v] at hKn
            go_wp2_with fail
            refine hKn.mono ?_; rintro z5 x5 ⟨rfl, y5⟩
            have al := (Chg.refl [] x5).alloc (.cells #[.int .i64 xa, .int .i64 xp, .int .i64 xf, .bool xw, .bool xu, .bool xx, .bool xd] 45)
            have y6 := y5.trans al (by simp)
            have H6 := H.more (G := [x5.heap.size]) y6 (by intro i hi; simp at hi; subst hi; exact ⟨y5.size, by simp⟩)
            have b6 := Blk.new x5 45 #[.int .i64 xa, .int .i64 xp, .int .i64 xf, .bool xw, .bool xu, .bool xx, .bool xd]
            clear hKn H y5 al y6
            go_wp2_with fail
            generalize x5.alloc (.cells #[.int .i64 xa, .int .i64 xp, .int .i64 xf, .bool xw, .bool xu, .bool xx, .bool xd] 45) = x6 at *
            generalize x5.heap.size = hb at *
            go_loopg [21] nom (fun gg s21 wr => ∃ (k : Nat) (W' : List Int), k ≤ nom ∧ nom - k ≤ gg ∧ s21 = .int .i64 k ∧ Aside (ModB w ([hb] ++ []) wr m t q S p L16 hh b 16 ⟨W', s.r, s.T⟩) ∧ Aside (Blk wr hb 45 #[.int .i64 xa, .int .i64 xp, .int .i64 xf, .bool xw, .bool xu, .bool xx, .bool xd]))
            case atStart => exact ⟨0, s.W, by omega, by omega, rfl, H6, b6⟩
            case round =>
              obtain ⟨k, W', hk, hg, rfl, H, HB⟩ := hrel
              clear H6 b6
              by_cases hlt : k < nom
              · obtain ⟨ob, off, x, rfl, _, hx, c1, c2, c3⟩ := (hom.self H.out.c0).get hlt
                have hvx := hom.wf x (List.mem_of_getElem? hx)
                obtain ⟨xg, xi, xv⟩ := x
                simp only at c1 c2 c3 hvx
                have hdw : Chg [] wr wr.drew := (Chg.refl [] wr).drew
                have hset := MEdit_b xg xi xv hvx (H.out.new hdw)
                have B7 := HB.out.chg_ hdw (by simp)
                have hlt' : (k : Int) < (nom : Int) := by omega
                clear hx hvx hdw H HB
                go_wp2_with fail
                refine wp_region_still_tail 16 (by kernel_rfl) (by kernel_rfl) ?_
                simp only [List.take_succ_cons, List.take_zero, List.drop_succ_cons, List.drop_zero]
                change wpStill _ _ (World.drew _) _ _ _
                iterate 16 still_step
                refine wpStill_nil ?_
                change wpList _ _ _ _ _ (World.drew wr)
                go_wp2_with fail
                refine hset.mono ?_; rintro z8 x8 ⟨rfl, H8, f8⟩
                have B8 := f8.blk B7 (by simp)
                clear hset B7 f8 c1 c2 c3 hlt'
                go_wp2_with fail
                go_roundg (nom - (k + 1))
                case measure => omega
                case rel => exact ⟨k + 1, _, by omega, by omega, by go_num, H8, B8⟩
              · obtain rfl : k = nom := by omega
                have H1 := H.out; have B1 := HB.out
                clear H HB hlt hk hg
                cases U
                case false =>
                  go_wp2_with fail
                  go_ret
                  exact ⟨rfl, H1.c0⟩
                case true =>
                  have hs1 : Srv ⟨W', s.r, s.T⟩ pn 0 xu ⟨xa, xp, xf, xw, xu, xx, xd⟩ := ⟨HU.out, HX.out, kn_load _⟩
                  have hfr := H1.ok.hits _ hs1.mem.1
                  have hhas : hasG 16 L16 xf wn = true := by rw [hasG_16, decide_eq_true_eq]; exact ⟨hfr.2.1, hfr.2.2, HKR.out.1, HKR.out.2⟩
                  have hAc : accM 16 L16 ⟨W', s.r, s.T⟩ 0 xu (joinN pn wn) 0 = (⟨W', s.r, s.T⟩, ⟨0, getG 16 W' L16 xf wn, 0, 0⟩) := by rw [acc_join _ HPR.out.1 HPR.out.2 HKR.out.1 HKR.out.2, hs1.take]; rfl
                  have hA1 := fun F w9 (H9 : ModB w F w9 m t q S p L16 hh b 16 ⟨W', s.r, s.T⟩) => MAcc_b 0 xu (joinN pn wn) 0 (mq_lt pn wn) (by omega) H9
                  rw [hAc] at hA1
                  have hst : xd = true → xw = true → accM 16 L16 ⟨W', s.r, s.T⟩ 1 false (joinN pn wn) v = (⟨setG 16 W' L16 xf wn v, s.r, s.T⟩, Ot.zero) := fun h1 h2 => by
                    have hs2 : Srv ⟨W', s.r, s.T⟩ pn 1 false ⟨xa, xp, xf, xw, xu, xx, xd⟩ := ⟨HU.out, HX.out, kn_store h1 h2⟩
                    rw [acc_join _ HPR.out.1 HPR.out.2 HKR.out.1 HKR.out.2, hs2.take]; rfl
                  have HST := Lib.hid hst
                  have hA2' := fun F w9 (H9 : ModB w F w9 m t q S p L16 hh b 16 ⟨W', s.r, s.T⟩) => MAcc_b 1 false (joinN pn wn) v (mq_lt pn wn) HV.out H9
                  have hgv := wdw_get H1.ok.wd 16 L16 xf wn
                  have hGe := fun F w9 (H9 : ModB w F w9 m t q S p L16 hh b 16 ⟨W', s.r, s.T⟩) => GuGet_at q S p L16 hh b 16 W' xf wn w9 H9.gu
                  rw [hhas] at hGe
                  have hG2 : getG 16 (setG 16 W' L16 xf wn v) L16 xf wn = v := by rw [get_set L16_ok.inh (by decide) H1.ok.len hhas hhas, if_pos ⟨rfl, rfl⟩]
                  have hGe2 := fun F w9 (H9 : ModB w F w9 m t q S p L16 hh b 16 ⟨setG 16 W' L16 xf wn v, s.r, s.T⟩) => GuGet_at q S p L16 hh b 16 (setG 16 W' L16 xf wn v) xf wn w9 H9.gu
                  rw [hhas, hG2] at hGe2
                  have hSe := fun F w9 (H9 : ModB w F w9 m t q S p L16 hh b 16 ⟨setG 16 W' L16 xf wn v, s.r, s.T⟩) => GuSet_at q S p L16 hh b 16 (setG 16 W' L16 xf wn v) xf wn (getG 16 W' L16 xf wn) w9 H9.gu
                  rw [hhas, setG_twice, setG_back] at hSe
                  have hJ := fun w9 => RJoin_any pn wn w9
                  have hok1 := H1.ok
                  clear hs1 hfr hhas hAc hst hG2 HX HU
                  generalize joinN pn wn = ja at *
                  generalize getG 16 W' L16 xf wn = gv at *
                  simp only [Ot.cs, Ot.zero] at *
                  obtain ⟨q0, q1, q2, q3, q4, q5, q6, _, _, _, _, _, _, _⟩ := blk7 B1
                  go_wp2_with fail
                  refine (MWords_b H1).mono ?_; rintro z x2 ⟨g2, d2, rfl, H2, y2, u2, hg2⟩
                  rw [L16_len] at u2
                  have B2 := B1.chg_ y2 (by simp)
                  have hng : hb ≠ g2 := by have := B1.lt; omega
                  clear H1 B1 y2 hg2 q0 q1 q2 q3 q4 q5 q6
                  obtain ⟨q0, q1, q2, q3, q4, q5, q6, _, _, _, _, _, _, _⟩ := blk7 B2
                  go_wp2_with fail
                  refine (hGe _ _ H2).mono ?_; rintro z x3 ⟨rfl, rfl⟩
                  clear hGe
                  go_wp2_with fail
                  clear q0 q1 q2 q3 q4 q5 q6
                  refine wp_region_noPanic ?_
                  refine wp_region_held_drew (S := (fun w' => Blk w' hb 45 #[.int .i64 xa, .int .i64 xp, .int .i64 xf, .bool xw, .bool xu, .bool xx, .bool xd])) (by kernel_rfl) ?_ (fun hHeld => ?_)
                  · exact B2.drew
                  (refine take_on 0 (some 117) (v := ?_) rfl rfl (by kernel_rfl) (by kernel_rfl) (by kernel_rfl) (fun _ _ _ h => h) (by rfl) (by assumption) ?_ ?_; rotate_left; · (intro w hSw; (try dsimp only at hSw); obtain ⟨q0_, q1_, q2_, q3_, q4_, q5_, q6_, _, _, _, _, _, _, _⟩ := blk7 hSw; go_simp; (try with_reducible rfl)))
                  (try simp only [Act.put, List.setIfInBounds_toArray, List.set_cons_zero, List.set_cons_succ])
                  (refine take_on 1 (some 118) (v := ?_) rfl rfl (by kernel_rfl) (by kernel_rfl) (by kernel_rfl) (fun _ _ _ h => h) (by rfl) (by assumption) ?_ ?_; rotate_left; · (intro w hSw; (try dsimp only at hSw); obtain ⟨q0_, q1_, q2_, q3_, q4_, q5_, q6_, _, _, _, _, _, _, _⟩ := blk7 hSw; go_simp; (try with_reducible rfl)))
                  (try simp only [Act.put, List.setIfInBounds_toArray, List.set_cons_zero, List.set_cons_succ])
                  (refine take_on 2 (some 119) (v := ?_) rfl rfl (by kernel_rfl) (by kernel_rfl) (by kernel_rfl) (fun _ _ _ h => h) (by rfl) (by assumption) ?_ ?_; rotate_left; · (intro w hSw; (try dsimp only at hSw); obtain ⟨q0_, q1_, q2_, q3_, q4_, q5_, q6_, _, _, _, _, _, _, _⟩ := blk7 hSw; go_simp; (try with_reducible rfl)))
                  (try simp only [Act.put, List.setIfInBounds_toArray, List.set_cons_zero, List.set_cons_succ])
                  (refine take_on 3 (some 120) (v := ?_) rfl rfl (by kernel_rfl) (by kernel_rfl) (by kernel_rfl) (fun _ _ _ h => h) (by rfl) (by assumption) ?_ ?_; rotate_left; · (intro w hSw; (try dsimp only at hSw); obtain ⟨q0_, q1_, q2_, q3_, q4_, q5_, q6_, _, _, _, _, _, _, _⟩ := blk7 hSw; go_simp; (try with_reducible rfl)))
                  (try simp only [Act.put, List.setIfInBounds_toArray, List.set_cons_zero, List.set_cons_succ])
                  (refine take_on 4 (some 121) (v := ?_) rfl rfl (by kernel_rfl) (by kernel_rfl) (by kernel_rfl) (fun _ _ _ h => h) (by rfl) (by assumption) ?_ ?_; rotate_left; · (intro w hSw; (try dsimp only at hSw); obtain ⟨q0_, q1_, q2_, q3_, q4_, q5_, q6_, _, _, _, _, _, _, _⟩ := blk7 hSw; go_simp; (try with_reducible rfl)))
                  (try simp only [Act.put, List.setIfInBounds_toArray, List.set_cons_zero, List.set_cons_succ])
                  (refine take_on 5 (some 122) (v := ?_) rfl rfl (by kernel_rfl) (by kernel_rfl) (by kernel_rfl) (fun _ _ _ h => h) (by rfl) (by assumption) ?_ ?_; rotate_left; · (intro w hSw; (try dsimp only at hSw); obtain ⟨q0_, q1_, q2_, q3_, q4_, q5_, q6_, _, _, _, _, _, _, _⟩ := blk7 hSw; go_simp; (try with_reducible rfl)))
                  (try simp only [Act.put, List.setIfInBounds_toArray, List.set_cons_zero, List.set_cons_succ])
                  refine wpAnyH_ready (rs := [6, 8]) (by kernel_rfl) (by simp) ?_; refine AllReadyH.cons (o := _) rfl (fun K hK => ?_) (AllReadyH.cons (o := _) rfl (fun K hK => ?_) AllReadyH.nil)
                  · go_simp
                    (go_at_call 35; refine (hJ _).mono ?_; rintro z u5 ⟨rfl, y5⟩; have y5 := y5.chg; have yx : Chg [] x2 u5 := ((Chg.refl [] x2).drew).trans y5 (by simp); have H5 := H2.new yx; have B5 := B2.chg_ yx (by simp); have u5_ := u2.chg yx (by simp))
                    refine hK.out _ _ (by (try dsimp only); exact hHeld.chg_ y5 (by simp)) (fun hHeld => ?_)
                    clear hK K
                    (try simp only [Act.put, List.setIfInBounds_toArray, List.set_cons_zero, List.set_cons_succ])
                    refine wpAnyH_ready (rs := [7, 8]) (by kernel_rfl) (by simp) ?_; refine AllReadyH.cons (o := _) rfl (fun K hK => ?_) (AllReadyH.cons (o := _) rfl (fun K hK => ?_) AllReadyH.nil)
                    · go_simp
                      (go_at_call 24; refine (hA1 _ _ H5).mono ?_; rintro z u6 ⟨rfl, H6, f6⟩; have B6 := f6.blk B5 (by simp); have u6_ := f6.slu u5_ (fun g o e => by injection e with e; injection e with e; simp [← e]))
                      refine hK.out _ _ (by (try dsimp only); exact B6) (fun hHeld => ?_)
                      clear hK K
                      (try simp only [Act.put, List.setIfInBounds_toArray, List.set_cons_zero, List.set_cons_succ])
                      have al := (Chg.refl [] u6).alloc (.cells #[.int .i64 0, .int .u64 0, .int .i64 0, .int .u64 0] 37)
                      have oST := Blk.new u6 37 #[.int .i64 0, .int .u64 0, .int .i64 0, .int .u64 0]
                      have HST_ := H6.more (G := [u6.heap.size]) al (by intro i hi; simp at hi; subst hi; simp)
                      have BST := B6.chg_ al (by simp)
                      have uST := u6_.chg al (by simp)
                      have hgo := H6.c0.size
                      have hnx : hb ≠ u6.heap.size := by have := B6.lt; omega
                      have hny : g2 ≠ u6.heap.size := by have := H6.tb.2.1 g2 (by simp); omega
                      refine wpAnyH_ready (rs := [8]) (by kernel_rfl) (by simp) ?_; refine AllReadyH.cons (o := _) rfl (fun K hK => ?_) AllReadyH.nil
                      go_simp
                      skip
                      refine hK.out _ _ (by (try dsimp only); exact BST) (fun hHeld => ?_)
                      clear hK K
                      (try simp only [Act.put, List.setIfInBounds_toArray, List.set_cons_zero, List.set_cons_succ])
                      clear al H6 B6 u6_ f6 H5 B5 u5_
                      generalize u6.alloc (.cells #[.int .i64 0, .int .u64 0, .int .i64 0, .int .u64 0] 37) = u8 at *
                      generalize u6.heap.size = go at *
                      obtain ⟨r0, r1, r2, r3, z0, z1, z2, z3⟩ := blk4 oST
                      refine wpAnyH_ready (rs := [9]) (by kernel_rfl) (by simp) ?_; refine AllReadyH.cons (o := _) rfl (fun K hK => ?_) AllReadyH.nil
                      go_simp
                      skip
                      refine hK.out _ _ (by (try dsimp only); exact (hHeld.far (p := ⟨go, 0, none⟩) hnx _).far (p := ⟨go, 1, none⟩) hnx _ |>.far (p := ⟨go, 2, none⟩) hnx _ |>.far (p := ⟨go, 3, none⟩) hnx _) (fun hHeld => ?_)
                      clear hK K
                      (try simp only [Act.put, List.setIfInBounds_toArray, List.set_cons_zero, List.set_cons_succ])
                      refine wpAnyH_done (by kernel_rfl) ?_ _
                      refine NoPanic.normal ?_
                      have hk6 := chg4 (y0 := .int .i64 0) (y1 := .int .u64 gv) (y2 := .int .i64 0) (y3 := .int .u64 0) (g := go) (Chg.refl [go] u8) (by simp)
                      have Hx := HST_.turn (by simp) hk6 hgo
                      have ox := set4 (y0 := .int .i64 0) (y1 := .int .u64 gv) (y2 := .int .i64 0) (y3 := .int .u64 0) oST
                      have Bx := BST.chg_ hk6 (by simpa using hnx)
                      have ux := uST.chg hk6 (fun g o e => by injection e with e; injection e with e; subst e; simpa using hny)
                      generalize ((((u8.setCell ⟨go, 0, none⟩ (.int .i64 0)).setCell ⟨go, 1, none⟩ (.int .u64 gv)).setCell ⟨go, 2, none⟩ (.int .i64 0)).setCell ⟨go, 3, none⟩ (.int .u64 0)) = WX at *
                      clear hk6 HST_ oST BST uST hHeld hnx hny hgo
                      clear r0 r1 r2 r3 z0 z1 z2 z3
                      have hc := Hx.c0
                      obtain ⟨r0, r1, r2, r3, _, _, _, _⟩ := blk4 ox
                      obtain ⟨q0, q1, q2, q3, q4, q5, q6, _, _, _, _, _, _, _⟩ := blk7 Bx
                      have hq : ∀ w9, (binOp .neq 37 (.agg #[.int .i64 0, .int .u64 gv, .int .i64 0, .int .u64 0]) (.agg #[.int .i64 0, .int .u64 gv, .int .i64 0, .int .u64 0])).run Tryz.prog w9 = .ok (.bool false) w9 := fun w9 => by rw [run_neO, Ot.eqb_self]; rfl
                      go_wp2_with fail
                      refine (MWords_b Hx).mono ?_; rintro z v1 ⟨g7, d7, rfl, H7, y7, u7, _⟩
                      rw [L16_len] at u7
                      have u8 := ux.chg y7 (by simp)
                      have B7 := Bx.chg_ y7 (by simp)
                      clear Hx ux Bx ox y7 r0 r1 r2 r3 hq q0 q1 q2 q3 q4 q5 q6
                      go_wp2_with fail
                      refine (SameWords_any _ _ 128 128 d7 d2 _ _ _ u7 u8 (by omega) (by omega)).mono ?_; rintro z v2 ⟨rfl, nd, rfl⟩
                      rw [eqL_self]
                      have k8 := (Chg.refl [] v1).drewN nd
                      have H8 := H7.new k8
                      have B8 := B7.chg_ k8 (by simp)
                      have u9 := u8.chg k8 (by simp)
                      clear H7 B7 u7 u8 k8
                      generalize v1.drewN nd = v3 at *
                      have hc3 := H8.c0
                      obtain ⟨q0, q1, q2, q3, q4, q5, q6, _, _, _, _, _, _, _⟩ := blk7 B8
                      cases xd
                      case false =>
                        go_wp2_with fail
                        go_ret
                        exact ⟨rfl, hc3⟩
                      case true =>
                        cases xw
                        case false =>
                          go_wp2_with fail
                          go_ret
                          exact ⟨rfl, hc3⟩
                        case true =>
                          have hst := HST.out rfl rfl
                          go_wp2_with fail
                          refine (hJ _).mono ?_; rintro z v4 ⟨rfl, y4⟩
                          have H9 := H8.new y4.chg
                          have B9 := B8.chg_ y4.chg (by simp)
                          have u10 := u9.chg y4.chg (by simp)
                          clear H8 B8 u9 y4 q0 q1 q2 q3 q4 q5 q6
                          have hA3 := hA2' _ _ H9
                          rw [hst] at hA3
                          go_wp2_with fail
                          refine hA3.mono ?_; rintro z v5 ⟨rfl, H10, f10⟩
                          have B10 := f10.blk B9 (by simp)
                          have u11 := f10.slu u10 (fun g o e => by injection e with e; injection e with e; simp [← e])
                          clear hA3 H9 B9 u10 f10
                          obtain ⟨q0, q1, q2, q3, q4, q5, q6, _, _, _, _, _, _, _⟩ := blk7 B10
                          go_wp2_with fail
                          refine (hGe2 _ _ H10).mono ?_; rintro z v6 ⟨rfl, rfl⟩
                          go_wp2_with fail
                          refine (hSe _ _ H10).mono ?_; rintro z v7 ⟨rfl, y11, g11⟩
                          obtain ⟨H11, f11⟩ := H10.setW y11 g11 hok1
                          have u12 := f11.slu u11 (fun g o e => by injection e with e; injection e with e; simp [← e])
                          clear H10 B10 u11 f11 y11 g11 q0 q1 q2 q3 q4 q5 q6
                          go_wp2_with fail
                          refine (MWords_b H11).mono ?_; rintro z v8 ⟨g12, d12, rfl, H12, y12, u13, _⟩
                          rw [L16_len] at u13
                          have u14 := u12.chg y12 (by simp)
                          clear H11 u12 y12
                          go_wp2_with fail
                          refine (SameWords_any _ _ 128 128 d12 d2 _ _ _ u13 u14 (by omega) (by omega)).mono ?_; rintro z v9 ⟨rfl, nd2, rfl⟩
                          rw [eqL_self]
                          have hcz := (H12.new ((Chg.refl [] v8).drewN nd2)).c0
                          clear H12 u13 u14
                          go_wp2_with fail
                          go_ret
                          exact ⟨rfl, hcz⟩
                    · have al := (Chg.refl [] u5).alloc (.cells #[.int .i64 0, .int .u64 0, .int .i64 0, .int .u64 0] 37)
                      have o6 := Blk.new u5 37 #[.int .i64 0, .int .u64 0, .int .i64 0, .int .u64 0]
                      have H6 := H5.more (G := [u5.heap.size]) al (by intro i hi; simp at hi; subst hi; simp)
                      have B6 := B5.chg_ al (by simp)
                      have u6_ := u5_.chg al (by simp)
                      have hgo := H5.c0.size
                      have hnx : hb ≠ u5.heap.size := by have := B5.lt; omega
                      have hny : g2 ≠ u5.heap.size := by have := H5.tb.2.1 g2 (by simp); omega
                      go_simp
                      skip
                      refine hK.out _ _ (by (try dsimp only); exact B6) (fun hHeld => ?_)
                      clear hK K
                      (try simp only [Act.put, List.setIfInBounds_toArray, List.set_cons_zero, List.set_cons_succ])
                      refine wpAnyH_ready (rs := [7]) (by kernel_rfl) (by simp) ?_; refine AllReadyH.cons (o := _) rfl (fun K hK => ?_) AllReadyH.nil
                      go_simp
                      (go_at_call 24; refine (hA1 _ _ H6).mono ?_; rintro z u7 ⟨rfl, HST_, f7⟩; have oST := f7.blk o6 (by simp); have BST := f7.blk B6 (by simp); have uST := f7.slu u6_ (fun g o e => by injection e with e; injection e with e; simp [← e]))
                      refine hK.out _ _ (by (try dsimp only); exact BST) (fun hHeld => ?_)
                      clear hK K
                      (try simp only [Act.put, List.setIfInBounds_toArray, List.set_cons_zero, List.set_cons_succ])
                      obtain ⟨r0, r1, r2, r3, z0, z1, z2, z3⟩ := blk4 oST
                      clear al H6 B6 u6_ f7 H5 B5 u5_ o6
                      refine wpAnyH_ready (rs := [9]) (by kernel_rfl) (by simp) ?_; refine AllReadyH.cons (o := _) rfl (fun K hK => ?_) AllReadyH.nil
                      go_simp
                      skip
                      refine hK.out _ _ (by (try dsimp only); exact (hHeld.far (p := ⟨u5.heap.size, 0, none⟩) hnx _).far (p := ⟨u5.heap.size, 1, none⟩) hnx _ |>.far (p := ⟨u5.heap.size, 2, none⟩) hnx _ |>.far (p := ⟨u5.heap.size, 3, none⟩) hnx _) (fun hHeld => ?_)
                      clear hK K
                      (try simp only [Act.put, List.setIfInBounds_toArray, List.set_cons_zero, List.set_cons_succ])
                      refine wpAnyH_done (by kernel_rfl) ?_ _
                      refine NoPanic.normal ?_
                      have hk6 := chg4 (y0 := .int .i64 0) (y1 := .int .u64 gv) (y2 := .int .i64 0) (y3 := .int .u64 0) (g := u5.heap.size) (Chg.refl [u5.heap.size] u7) (by simp)
                      have Hx := HST_.turn (by simp) hk6 hgo
                      have ox := set4 (y0 := .int .i64 0) (y1 := .int .u64 gv) (y2 := .int .i64 0) (y3 := .int .u64 0) oST
                      have Bx := BST.chg_ hk6 (by simpa using hnx)
                      have ux := uST.chg hk6 (fun g o e => by injection e with e; injection e with e; subst e; simpa using hny)
                      generalize ((((u7.setCell ⟨u5.heap.size, 0, none⟩ (.int .i64 0)).setCell ⟨u5.heap.size, 1, none⟩ (.int .u64 gv)).setCell ⟨u5.heap.size, 2, none⟩ (.int .i64 0)).setCell ⟨u5.heap.size, 3, none⟩ (.int .u64 0)) = WX at *
                      clear hk6 HST_ oST BST uST hHeld hnx hny hgo
                      clear r0 r1 r2 r3 z0 z1 z2 z3
                      have hc := Hx.c0
                      obtain ⟨r0, r1, r2, r3, _, _, _, _⟩ := blk4 ox
                      obtain ⟨q0, q1, q2, q3, q4, q5, q6, _, _, _, _, _, _, _⟩ := blk7 Bx
                      have hq : ∀ w9, (binOp .neq 37 (.agg #[.int .i64 0, .int .u64 gv, .int .i64 0, .int .u64 0]) (.agg #[.int .i64 0, .int .u64 gv, .int .i64 0, .int .u64 0])).run Tryz.prog w9 = .ok (.bool false) w9 := fun w9 => by rw [run_neO, Ot.eqb_self]; rfl
                      go_wp2_with fail
                      refine (MWords_b Hx).mono ?_; rintro z v1 ⟨g7, d7, rfl, H7, y7, u7, _⟩
                      rw [L16_len] at u7
                      have u8 := ux.chg y7 (by simp)
                      have B7 := Bx.chg_ y7 (by simp)
                      clear Hx ux Bx ox y7 r0 r1 r2 r3 hq q0 q1 q2 q3 q4 q5 q6
                      go_wp2_with fail
                      refine (SameWords_any _ _ 128 128 d7 d2 _ _ _ u7 u8 (by omega) (by omega)).mono ?_; rintro z v2 ⟨rfl, nd, rfl⟩
                      rw [eqL_self]
                      have k8 := (Chg.refl [] v1).drewN nd
                      have H8 := H7.new k8
                      have B8 := B7.chg_ k8 (by simp)
                      have u9 := u8.chg k8 (by simp)
                      clear H7 B7 u7 u8 k8
                      generalize v1.drewN nd = v3 at *
                      have hc3 := H8.c0
                      obtain ⟨q0, q1, q2, q3, q4, q5, q6, _, _, _, _, _, _, _⟩ := blk7 B8
                      cases xd
                      case false =>
                        go_wp2_with fail
                        go_ret
                        exact ⟨rfl, hc3⟩
                      case true =>
                        cases xw
                        case false =>
                          go_wp2_with fail
                          go_ret
                          exact ⟨rfl, hc3⟩
                        case true =>
                          have hst := HST.out rfl rfl
                          go_wp2_with fail
                          refine (hJ _).mono ?_; rintro z v4 ⟨rfl, y4⟩
                          have H9 := H8.new y4.chg
                          have B9 := B8.chg_ y4.chg (by simp)
                          have u10 := u9.chg y4.chg (by simp)
                          clear H8 B8 u9 y4 q0 q1 q2 q3 q4 q5 q6
                          have hA3 := hA2' _ _ H9
                          rw [hst] at hA3
                          go_wp2_with fail
                          refine hA3.mono ?_; rintro z v5 ⟨rfl, H10, f10⟩
                          have B10 := f10.blk B9 (by simp)
                          have u11 := f10.slu u10 (fun g o e => by injection e with e; injection e with e; simp [← e])
                          clear hA3 H9 B9 u10 f10
                          obtain ⟨q0, q1, q2, q3, q4, q5, q6, _, _, _, _, _, _, _⟩ := blk7 B10
                          go_wp2_with fail
                          refine (hGe2 _ _ H10).mono ?_; rintro z v6 ⟨rfl, rfl⟩
                          go_wp2_with fail
                          refine (hSe _ _ H10).mono ?_; rintro z v7 ⟨rfl, y11, g11⟩
                          obtain ⟨H11, f11⟩ := H10.setW y11 g11 hok1
                          have u12 := f11.slu u11 (fun g o e => by injection e with e; injection e with e; simp [← e])
                          clear H10 B10 u11 f11 y11 g11 q0 q1 q2 q3 q4 q5 q6
                          go_wp2_with fail
                          refine (MWords_b H11).mono ?_; rintro z v8 ⟨g12, d12, rfl, H12, y12, u13, _⟩
                          rw [L16_len] at u13
                          have u14 := u12.chg y12 (by simp)
                          clear H11 u12 y12
                          go_wp2_with fail
                          refine (SameWords_any _ _ 128 128 d12 d2 _ _ _ u13 u14 (by omega) (by omega)).mono ?_; rintro z v9 ⟨rfl, nd2, rfl⟩
                          rw [eqL_self]
                          have hcz := (H12.new ((Chg.refl [] v8).drewN nd2)).c0
                          clear H12 u13 u14
                          go_wp2_with fail
                          go_ret
                          exact ⟨rfl, hcz⟩
                  · have al : Chg [] x2 (x2.drew.alloc (.cells #[.int .i64 0, .int .u64 0, .int .i64 0, .int .u64 0] 37)) := ((Chg.refl [] x2).drew).alloc _
                    have o6 : Blk (x2.drew.alloc (.cells #[.int .i64 0, .int .u64 0, .int .i64 0, .int .u64 0] 37)) x2.heap.size 37 #[.int .i64 0, .int .u64 0, .int .i64 0, .int .u64 0] := Blk.new x2.drew _ _
                    have H5 := H2.more (G := [x2.heap.size]) al (by intro i hi; simp at hi; subst hi; simp)
                    have B5 := B2.chg_ al (by simp)
                    have u5_ := u2.chg al (by simp)
                    have hgo := H2.c0.size
                    have hnx : hb ≠ x2.heap.size := by have := B2.lt; omega
                    have hny : g2 ≠ x2.heap.size := by have := H2.tb.2.1 g2 (by simp); omega
                    go_simp
                    skip
                    refine hK.out _ _ (by (try dsimp only); exact B5) (fun hHeld => ?_)
                    clear hK K
                    (try simp only [Act.put, List.setIfInBounds_toArray, List.set_cons_zero, List.set_cons_succ])
                    refine wpAnyH_ready (rs := [6]) (by kernel_rfl) (by simp) ?_; refine AllReadyH.cons (o := _) rfl (fun K hK => ?_) AllReadyH.nil
                    go_simp
                    (go_at_call 35; refine (hJ _).mono ?_; rintro z u5 ⟨rfl, y5⟩; have y5 := y5.chg; have H6 := H5.new y5; have B6 := B5.chg_ y5 (by simp); have u6_ := u5_.chg y5 (by simp); have o7 := o6.chg_ y5 (by simp))
                    refine hK.out _ _ (by (try dsimp only); exact B6) (fun hHeld => ?_)
                    clear hK K
                    (try simp only [Act.put, List.setIfInBounds_toArray, List.set_cons_zero, List.set_cons_succ])
                    refine wpAnyH_ready (rs := [7]) (by kernel_rfl) (by simp) ?_; refine AllReadyH.cons (o := _) rfl (fun K hK => ?_) AllReadyH.nil
                    go_simp
                    (go_at_call 24; refine (hA1 _ _ H6).mono ?_; rintro z u7 ⟨rfl, HST_, f7⟩; have oST := f7.blk o7 (by simp); have BST := f7.blk B6 (by simp); have uST := f7.slu u6_ (fun g o e => by injection e with e; injection e with e; simp [← e]))
                    refine hK.out _ _ (by (try dsimp only); exact BST) (fun hHeld => ?_)
                    clear hK K
                    (try simp only [Act.put, List.setIfInBounds_toArray, List.set_cons_zero, List.set_cons_succ])
                    obtain ⟨r0, r1, r2, r3, z0, z1, z2, z3⟩ := blk4 oST
                    clear al H6 B6 u6_ f7 H5 B5 u5_ o6 o7
                    refine wpAnyH_ready (rs := [9]) (by kernel_rfl) (by simp) ?_; refine AllReadyH.cons (o := _) rfl (fun K hK => ?_) AllReadyH.nil
                    go_simp
                    skip
                    refine hK.out _ _ (by (try dsimp only); exact (hHeld.far (p := ⟨x2.heap.size, 0, none⟩) hnx _).far (p := ⟨x2.heap.size, 1, none⟩) hnx _ |>.far (p := ⟨x2.heap.size, 2, none⟩) hnx _ |>.far (p := ⟨x2.heap.size, 3, none⟩) hnx _) (fun hHeld => ?_)
                    clear hK K
                    (try simp only [Act.put, List.setIfInBounds_toArray, List.set_cons_zero, List.set_cons_succ])
                    refine wpAnyH_done (by kernel_rfl) ?_ _
                    refine NoPanic.normal ?_
                    have hk6 := chg4 (y0 := .int .i64 0) (y1 := .int .u64 gv) (y2 := .int .i64 0) (y3 := .int .u64 0) (g := x2.heap.size) (Chg.refl [x2.heap.size] u7) (by simp)
                    have Hx := HST_.turn (by simp) hk6 hgo
                    have ox := set4 (y0 := .int .i64 0) (y1 := .int .u64 gv) (y2 := .int .i64 0) (y3 := .int .u64 0) oST
                    have Bx := BST.chg_ hk6 (by simpa using hnx)
                    have ux := uST.chg hk6 (fun g o e => by injection e with e; injection e with e; subst e; simpa using hny)
                    generalize ((((u7.setCell ⟨x2.heap.size, 0, none⟩ (.int .i64 0)).setCell ⟨x2.heap.size, 1, none⟩ (.int .u64 gv)).setCell ⟨x2.heap.size, 2, none⟩ (.int .i64 0)).setCell ⟨x2.heap.size, 3, none⟩ (.int .u64 0)) = WX at *
                    clear hk6 HST_ oST BST uST hHeld hnx hny hgo
                    clear r0 r1 r2 r3 z0 z1 z2 z3
                    have hc := Hx.c0
                    obtain ⟨r0, r1, r2, r3, _, _, _, _⟩ := blk4 ox
                    obtain ⟨q0, q1, q2, q3, q4, q5, q6, _, _, _, _, _, _, _⟩ := blk7 Bx
                    have hq : ∀ w9, (binOp .neq 37 (.agg #[.int .i64 0, .int .u64 gv, .int .i64 0, .int .u64 0]) (.agg #[.int .i64 0, .int .u64 gv, .int .i64 0, .int .u64 0])).run Tryz.prog w9 = .ok (.bool false) w9 := fun w9 => by rw [run_neO, Ot.eqb_self]; rfl
                    go_wp2_with fail
                    refine (MWords_b Hx).mono ?_; rintro z v1 ⟨g7, d7, rfl, H7, y7, u7, _⟩
                    rw [L16_len] at u7
                    have u8 := ux.chg y7 (by simp)
                    have B7 := Bx.chg_ y7 (by simp)
                    clear Hx ux Bx ox y7 r0 r1 r2 r3 hq q0 q1 q2 q3 q4 q5 q6
                    go_wp2_with fail
                    refine (SameWords_any _ _ 128 128 d7 d2 _ _ _ u7 u8 (by omega) (by omega)).mono ?_; rintro z v2 ⟨rfl, nd, rfl⟩
                    rw [eqL_self]
                    have k8 := (Chg.refl [] v1).drewN nd
                    have H8 := H7.new k8
                    have B8 := B7.chg_ k8 (by simp)
                    have u9 := u8.chg k8 (by simp)
                    clear H7 B7 u7 u8 k8
                    generalize v1.drewN nd = v3 at *
                    have hc3 := H8.c0
                    obtain ⟨q0, q1, q2, q3, q4, q5, q6, _, _, _, _, _, _, _⟩ := blk7 B8
                    cases xd
                    case false =>
                      go_wp2_with fail
                      go_ret
                      exact ⟨rfl, hc3⟩
                    case true =>
                      cases xw
                      case false =>
                        go_wp2_with fail
                        go_ret
                        exact ⟨rfl, hc3⟩
                      case true =>
                        have hst := HST.out rfl rfl
                        go_wp2_with fail
                        refine (hJ _).mono ?_; rintro z v4 ⟨rfl, y4⟩
                        have H9 := H8.new y4.chg
                        have B9 := B8.chg_ y4.chg (by simp)
                        have u10 := u9.chg y4.chg (by simp)
                        clear H8 B8 u9 y4 q0 q1 q2 q3 q4 q5 q6
                        have hA3 := hA2' _ _ H9
                        rw [hst] at hA3
                        go_wp2_with fail
                        refine hA3.mono ?_; rintro z v5 ⟨rfl, H10, f10⟩
                        have B10 := f10.blk B9 (by simp)
                        have u11 := f10.slu u10 (fun g o e => by injection e with e; injection e with e; simp [← e])
                        clear hA3 H9 B9 u10 f10
                        obtain ⟨q0, q1, q2, q3, q4, q5, q6, _, _, _, _, _, _, _⟩ := blk7 B10
                        go_wp2_with fail
                        refine (hGe2 _ _ H10).mono ?_; rintro z v6 ⟨rfl, rfl⟩
                        go_wp2_with fail
                        refine (hSe _ _ H10).mono ?_; rintro z v7 ⟨rfl, y11, g11⟩
                        obtain ⟨H11, f11⟩ := H10.setW y11 g11 hok1
                        have u12 := f11.slu u11 (fun g o e => by injection e with e; injection e with e; simp [← e])
                        clear H10 B10 u11 f11 y11 g11 q0 q1 q2 q3 q4 q5 q6
                        go_wp2_with fail
                        refine (MWords_b H11).mono ?_; rintro z v8 ⟨g12, d12, rfl, H12, y12, u13, _⟩
                        rw [L16_len] at u13
                        have u14 := u12.chg y12 (by simp)
                        clear H11 u12 y12
                        go_wp2_with fail
                        refine (SameWords_any _ _ 128 128 d12 d2 _ _ _ u13 u14 (by omega) (by omega)).mono ?_; rintro z v9 ⟨rfl, nd2, rfl⟩
                        rw [eqL_self]
                        have hcz := (H12.new ((Chg.refl [] v8).drewN nd2)).c0
                        clear H12 u13 u14
                        go_wp2_with fail
                        go_ret
                        exact ⟨rfl, hcz⟩

end Go.Proofs.YtedginkenmafmaaGreatDoor
