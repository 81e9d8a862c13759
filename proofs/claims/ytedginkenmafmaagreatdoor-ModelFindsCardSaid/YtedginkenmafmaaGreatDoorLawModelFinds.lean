/-
  ModelFinds: the walk.
-/
import Derived.Test.YtedginkenmafmaaGreatDoorModelHead
import Derived.Test.YtedginkenmafmaaGreatDoorModelR
import Derived.Test.YtedginkenmafmaaGreatDoorG4r
import Derived.Test.YtedginkenmafmaaGreatDoorG8c
namespace Go.Proofs.YtedginkenmafmaaGreatDoor
open Go.RowKit Go.Shelf Go.Maps

set_option maxRecDepth 100000 in
set_option maxHeartbeats 40000000 in
theorem ModelFinds_walk (A : Option Addr) (ml c : Nat) (l : List Pu) (B : Option Addr) (no d : Nat) (ops : List OpM) (page : Int) (w : World) (h : SlP w A ml l) (ho : SlM w B no ops) (hp0 : 0 ≤ page ∧ page ≤ 65535) (hE : ErrIn w) :
    Calls Tryz.prog 7 #[.slice A ml c, .slice B no d, .int .u16 page] w fun e w' => e = .returned (.bool true) ∧ Chg [] w w' := by
  have hwd := (made_wd l h.wf).1
  have hle := h.le
  have hlo := ho.le
  have hpm : Int.tmod page 512 = page % 512 := Int.tmod_eq_emod_of_nonneg hp0.1
  have hpr : 0 ≤ page % 512 ∧ page % 512 < 512 := by omega
  generalize page % 512 = pn at *
  have hw1 : wrap64 pn = pn := by unfold wrap64; omega
  have HPR := Lib.hid hpr
  clear hp0 hpr
  go_enter Tryz.func7, Tryz.ntmps7
  go_wp2_with fail
  refine (Mohead_any _ hE).mono ?_; rintro e w1 ⟨rfl, k1⟩
  go_wp2_with fail
  refine (Made_at A ml c l _ (h.self k1)).mono ?_; rintro e w2 ⟨q, S, p, hh, b, rfl, k2, g2, hb⟩
  have k3 : Chg [] w w2 := k1.trans k2 (by simp)
  have hbw : w.heap.size ≤ b := Nat.le_trans k1.size hb
  generalize madeW l = W at *
  clear k1 k2 hb h
  by_cases hbigml : (ml : Int) > 600
  · go_wp2_with fail
    go_ret
    exact ⟨rfl, k3⟩
  · by_cases hbigno : (no : Int) > 200
    · go_wp2_with fail
      go_ret
      exact ⟨rfl, k3⟩
    · go_wp2_with fail
      refine (MNew_b (w0 := w) (w := w2) (q := q) (S := S) (p := p) (L := L16) (h := hh) (b := b) (n := 16) 1 hE k3 W g2 hwd hbw).mono ?_; rintro e w3 ⟨m, t, rfl, H, _⟩
      clear k3 g2
      generalize hs0 : (⟨W, 1, []⟩ : Ms) = s0 at *
      go_wp2_with fail
      go_loopw [10] (fun i w' => ∃ (k : Nat) (s : Ms), k ≤ no ∧ i = .int .i64 k ∧ ModB w [] w' m t q S p L16 hh b 16 s ∧ Hid (s.r = 1)) (fun i _ => no - (intOf i).toNat)
      case atStart => exact ⟨0, s0, by omega, rfl, H, Lib.hid (by rw [← hs0])⟩
      case round =>
        clear H
        obtain ⟨k, s, hk, rfl, H, hR⟩ := hrel
        by_cases hlt : k < no
        · obtain ⟨ob, off, o, rfl, _, hok, how, hc⟩ := (ho.new H.c0).get hlt
          obtain ⟨c0, c1, c2, c3, c4, c5, c6, c7⟩ := hc
          by_cases h6 : o.what = 6
          · rw [h6] at c0
            clear c1 c2 c3 c4 c5 c6 c7 h6 how hok
            go_wp2_with fail
            go_roundw
            case rel => exact ⟨k + 1, s, by omega, by go_num, H, hR⟩
            case measure => simp [intOf]; omega
          · have hD := DoM_b o how H
            have hR' := Lib.hid (show (doM 16 L16 s o).1.r = 1 from by rw [doM_r, if_neg h6]; exact hR.out)
            clear hok how hR
            obtain ⟨what, kind', user', a', v', g', i', page'⟩ := o
            simp only [OpM.val, Ot.cs] at *
            go_wp2_with fail
            refine hD.mono ?_; rintro e w4 ⟨rfl, H4, f4⟩
            clear hD c0 c1 c2 c3 c4 c5 c6 c7
            go_wp2_with fail
            go_roundw
            case rel => exact ⟨k + 1, _, by omega, by go_num, H4, hR'⟩
            case measure => simp [intOf]; omega
        · obtain rfl : k = no := by omega
          clear hlt hk hs0
          have hR1 := hR.out
          clear hR
          cases hr : walkP 16 s.W L16 s.r pn 0 false with
          | mk P hcc =>
            obtain ⟨how, code⟩ := hcc
            have hlen := walk_len hr
            have hall : P.ats.length ≤ 9223372036854775807 := by omega
            have hFB : findB 16 L16 s pn = (!hasT s.T 0 pn && decide (how = 0) && usedAts 16 s.W L16 P.ats) := by unfold findB; rw [hr]
            have hFM : findM 16 L16 s pn = if findB 16 L16 s pn then ⟨s.W, s.r, putT 512 s.T (hitP pn P false)⟩ else s := by unfold findM; rw [hr]
            cases hu : hasT s.T 0 pn
            case true =>
              have hKn := MKnown_b pn H
              rw [hu] at hKn
              have hfb : findB 16 L16 s pn = false := by rw [hFB, hu]; rfl
              have hfm : findM 16 L16 s pn = s := by rw [hFM, hfb]; rfl
              have hfb0 := Lib.hid hfb; have hfm0 := Lib.hid hfm
              have hF1 := fun F w9 (H9 : ModB w F w9 m t q S p L16 hh b 16 s) => MFind_b pn H9
              rw [hfb, hfm] at hF1
              have hok2 := H.ok.wd
              clear hFM hFB hfb hfm
              have hWk := fun w9 (k9 : Chg [] w9 w9) (H9 : ∃ F, ModB w F w9 m t q S p L16 hh b 16 s) => (Exists.elim H9 fun F H9 => H9.walk pn 0 false P how code hr w9 (Chg.refl [] w9))
              rw [hR1] at hWk
              have hMk := fun (A : Option Addr) (c : Nat) (F : List Nat) (w9 : World) (sx : Ms) (eW : sx.W = s.W) (H9 : ModB w F w9 m t q S p L16 hh b 16 sx) (hs : SlA w9 A P.ats.length P.ats) => Marked_at q S p L16 hh b 16 s.W A c P w9 (eW ▸ H9.gu) hok2 hs hall
              have hSm := fun (A : Option Addr) (c : Nat) (w9 : World) (hs : SlA w9 A P.ats.length P.ats) => Same_eq A A c c P w9 hs hs hall
              clear hr
              obtain ⟨ats, pg, ⟨rw, ru, rx⟩, lg, dy⟩ := P
              simp only [pathV] at *
              generalize hX : getT s.T 0 pn = X at *
              have HX := Lib.hid hX
              clear hX
              obtain ⟨xa, xp, xf, xw, xu, xx, xd⟩ := X
              simp only [Ht.v] at hKn
              have hKn2 := fun F w9 (H9 : ModB w F w9 m t q S p L16 hh b 16 s) => MKnown_b pn H9
              rw [hu, HX.out] at hKn2
              simp only [Ht.v] at hKn2
              clear hKn
              have hKn := fun F w9 (H9 : ModB w F w9 m t q S p L16 hh b 16 s) => MKnown_b pn H9
              rw [hu, HX.out] at hKn
              simp only [Ht.v] at hKn
              go_wp2_with fail
              refine (MWords_b H).mono ?_; rintro e z1 ⟨g1, d1, rfl, H1, y1, u1, _⟩
              rw [L16_len] at u1
              clear H y1
              go_wp2_with fail
              refine (hKn _ _ H1).mono ?_; rintro e z2 ⟨rfl, y2⟩
              have al := (Chg.refl [] z2).alloc (.cells #[.int .i64 xa, .int .i64 xp, .int .i64 xf, .bool xw, .bool xu, .bool xx, .bool xd] 45)
              have y3 := y2.trans al (by simp)
              have H2 := H1.more (G := [z2.heap.size]) y3 (by intro i hi; simp at hi; subst hi; exact ⟨y2.size, by simp⟩)
              have u2 := u1.chg y3 (by simp)
              clear H1 y2 al y3 u1 hKn
              go_wp2_with fail
              generalize z2.alloc (.cells #[.int .i64 xa, .int .i64 xp, .int .i64 xf, .bool xw, .bool xu, .bool xx, .bool xd] 45) = z3 at *
              generalize z2.heap.size = gk at *
              refine (hWk _ (Chg.refl [] _) ⟨_, H2⟩).mono ?_; rintro e z4 ⟨A1, c1, rfl, r4, l4, y4⟩
              (try simp only at r4 l4)
              have al := (Chg.refl [] z4).alloc (.cells #[.slice A1 ats.length c1, .int .i64 pg, .bool rw, .bool ru, .bool rx, .bool lg, .bool dy] 60)
              have y5 := y4.trans al (by simp)
              have H5 := H2.more (G := (Value.slice A1 ats.length c1).ownBlock.toList ++ [z4.heap.size]) y5 (by intro i hi; rw [List.mem_append] at hi; rcases hi with hi | hi; exact ⟨l4 i hi, by have := OwnA.lt r4 i hi; simp; omega⟩; simp at hi; subst hi; exact ⟨y4.size, by simp⟩)
              have u5 := u2.chg y5 (by simp)
              have s5 := (OwnA.sla r4).self al
              have hmem : ∀ g o, A1 = some ⟨g, o, none⟩ → g ∈ (Value.slice A1 ats.length c1).ownBlock.toList := fun g o e => by subst e; simp [Value.ownBlock]
              have p5 := Blk.new z4 60 #[.slice A1 ats.length c1, .int .i64 pg, .bool rw, .bool ru, .bool rx, .bool lg, .bool dy]
              clear H2 u2 r4 l4 y4 al y5 hWk
              generalize (Value.slice A1 ats.length c1).ownBlock.toList = GA at *
              go_wp2_with fail
              generalize z4.alloc (.cells #[.slice A1 ats.length c1, .int .i64 pg, .bool rw, .bool ru, .bool rx, .bool lg, .bool dy] 60) = z5 at *
              generalize z4.heap.size = gp at *
              refine (hF1 _ _ H5).mono ?_; rintro e z6 ⟨rfl, H6, f6⟩
              have u6 := f6.slu u5 (fun g o e => by injection e with e; injection e with e; simp [← e])
              have s6 := f6.sla s5 (fun g o e => by simp [hmem g o e])
              have p6 := f6.blk p5 (by simp)
              clear hF1 H5 u5 s5 p5 f6
              go_wp2_with fail
              refine (hKn2 _ _ H6).mono ?_; rintro e z7 ⟨rfl, y7⟩
              have al := (Chg.refl [] z7).alloc (.cells #[.int .i64 xa, .int .i64 xp, .int .i64 xf, .bool xw, .bool xu, .bool xx, .bool xd] 45)
              have y8 := y7.trans al (by simp)
              have H8 := H6.more (G := [z7.heap.size]) y8 (by intro i hi; simp at hi; subst hi; exact ⟨y7.size, by simp⟩)
              have u8 := u6.chg y8 (by simp)
              have s8 := s6.self y8
              have p8 := p6.chg_ y8 (by simp)
              have b8 := Blk.new z7 45 #[.int .i64 xa, .int .i64 xp, .int .i64 xf, .bool xw, .bool xu, .bool xx, .bool xd]
              clear H6 u6 s6 p6 y7 al y8 hKn2
              go_wp2_with fail
              generalize z7.alloc (.cells #[.int .i64 xa, .int .i64 xp, .int .i64 xf, .bool xw, .bool xu, .bool xx, .bool xd] 45) = z8 at *
              generalize z7.heap.size = gh at *
              have hF3 := MFind_b pn H8
              rw [hfb0.out, hfm0.out] at hF3
              refine hF3.mono ?_; rintro e z9 ⟨rfl, H9, f9⟩
              clear hF3
              have u9 := f9.slu u8 (fun g o e => by injection e with e; injection e with e; simp [← e])
              have s9 := f9.sla s8 (fun g o e => by simp [hmem g o e])
              have p9 := f9.blk p8 (by simp)
              have b9 := f9.blk b8 (by simp)
              clear H8 u8 s8 p8 b8 f9
              obtain ⟨p0_, p1_, p2_, p3_, p4_, p5_, p6_, _, _, _, _, _, _, _⟩ := blk7 p9
              go_wp2_with fail
              have H10 := H9; have u10 := u9; have s10 := s9; have p10 := p9; have b10 := b9
              clear H9 u9 s9 p9 b9 hMk p0_ p1_ p2_ p3_ p4_ p5_ p6_
              refine (MWords_b H10).mono ?_; rintro e z11 ⟨g11, d11, rfl, H11, y11, u11, _⟩
              rw [L16_len] at u11
              have u12 := u10.chg y11 (by simp)
              have s11 := s10.self y11
              have p11 := p10.chg_ y11 (by simp)
              have b11 := b10.chg_ y11 (by simp)
              clear H10 u10 s10 p10 b10 y11
              go_wp2_with fail
              refine (SameWords_any _ _ 128 128 d11 d1 _ _ _ u11 u12 (by omega) (by omega)).mono ?_; rintro e z12 ⟨rfl, nd, rfl⟩
              rw [eqL_self]
              have k12 := (Chg.refl [] z11).drewN nd
              have H12 := H11.new k12
              have s12 := s11.self k12
              have p12 := p11.chg_ k12 (by simp)
              have b12 := b11.chg_ k12 (by simp)
              clear H11 s11 p11 b11 u11 u12 k12
              generalize z11.drewN nd = z12 at *
              have hcz := H12.c0
              clear H12 s12 p12 b12
              go_wp2_with fail
              go_ret
              exact ⟨rfl, hcz⟩
            case false =>
              by_cases hh0 : how = 0
              · subst hh0
                obtain rfl := (done_of hr).1
                cases hus : usedAts 16 s.W L16 P.ats
                case false =>
                  have hKn := MKnown_b pn H
                  rw [hu] at hKn
                  have hfb : findB 16 L16 s pn = false := by rw [hFB, hu, hus]; simp
                  have hfm : findM 16 L16 s pn = s := by rw [hFM, hfb]; rfl
                  have hfb0 := Lib.hid hfb; have hfm0 := Lib.hid hfm
                  have hF1 := fun F w9 (H9 : ModB w F w9 m t q S p L16 hh b 16 s) => MFind_b pn H9
                  rw [hfb, hfm] at hF1
                  have hok2 := H.ok.wd
                  clear hFM hFB hfb hfm
                  have hWk := fun w9 (k9 : Chg [] w9 w9) (H9 : ∃ F, ModB w F w9 m t q S p L16 hh b 16 s) => (Exists.elim H9 fun F H9 => H9.walk pn 0 false P 0 0 hr w9 (Chg.refl [] w9))
                  rw [hR1] at hWk
                  have hMk := fun (A : Option Addr) (c : Nat) (F : List Nat) (w9 : World) (sx : Ms) (eW : sx.W = s.W) (H9 : ModB w F w9 m t q S p L16 hh b 16 sx) (hs : SlA w9 A P.ats.length P.ats) => Marked_at q S p L16 hh b 16 s.W A c P w9 (eW ▸ H9.gu) hok2 hs hall
                  have hSm := fun (A : Option Addr) (c : Nat) (w9 : World) (hs : SlA w9 A P.ats.length P.ats) => Same_eq A A c c P w9 hs hs hall
                  clear hr
                  obtain ⟨ats, pg, ⟨rw, ru, rx⟩, lg, dy⟩ := P
                  simp only [pathV, hus] at *
                  generalize hX : getT s.T 0 pn = X at *
                  have HX := Lib.hid hX
                  clear hX
                  obtain ⟨xa, xp, xf, xw, xu, xx, xd⟩ := X
                  simp only [Ht.v] at hKn
                  have hKn2 := fun F w9 (H9 : ModB w F w9 m t q S p L16 hh b 16 s) => MKnown_b pn H9
                  rw [hu, HX.out] at hKn2
                  simp only [Ht.v] at hKn2
                  clear hKn
                  have hKn := fun F w9 (H9 : ModB w F w9 m t q S p L16 hh b 16 s) => MKnown_b pn H9
                  rw [hu, HX.out] at hKn
                  simp only [Ht.v] at hKn
                  go_wp2_with fail
                  refine (MWords_b H).mono ?_; rintro e z1 ⟨g1, d1, rfl, H1, y1, u1, _⟩
                  rw [L16_len] at u1
                  clear H y1
                  go_wp2_with fail
                  refine (hKn _ _ H1).mono ?_; rintro e z2 ⟨rfl, y2⟩
                  have al := (Chg.refl [] z2).alloc (.cells #[.int .i64 xa, .int .i64 xp, .int .i64 xf, .bool xw, .bool xu, .bool xx, .bool xd] 45)
                  have y3 := y2.trans al (by simp)
                  have H2 := H1.more (G := [z2.heap.size]) y3 (by intro i hi; simp at hi; subst hi; exact ⟨y2.size, by simp⟩)
                  have u2 := u1.chg y3 (by simp)
                  clear H1 y2 al y3 u1 hKn
                  go_wp2_with fail
                  generalize z2.alloc (.cells #[.int .i64 xa, .int .i64 xp, .int .i64 xf, .bool xw, .bool xu, .bool xx, .bool xd] 45) = z3 at *
                  generalize z2.heap.size = gk at *
                  refine (hWk _ (Chg.refl [] _) ⟨_, H2⟩).mono ?_; rintro e z4 ⟨A1, c1, rfl, r4, l4, y4⟩
                  (try simp only at r4 l4)
                  have al := (Chg.refl [] z4).alloc (.cells #[.slice A1 ats.length c1, .int .i64 pg, .bool rw, .bool ru, .bool rx, .bool lg, .bool dy] 60)
                  have y5 := y4.trans al (by simp)
                  have H5 := H2.more (G := (Value.slice A1 ats.length c1).ownBlock.toList ++ [z4.heap.size]) y5 (by intro i hi; rw [List.mem_append] at hi; rcases hi with hi | hi; exact ⟨l4 i hi, by have := OwnA.lt r4 i hi; simp; omega⟩; simp at hi; subst hi; exact ⟨y4.size, by simp⟩)
                  have u5 := u2.chg y5 (by simp)
                  have s5 := (OwnA.sla r4).self al
                  have hmem : ∀ g o, A1 = some ⟨g, o, none⟩ → g ∈ (Value.slice A1 ats.length c1).ownBlock.toList := fun g o e => by subst e; simp [Value.ownBlock]
                  have p5 := Blk.new z4 60 #[.slice A1 ats.length c1, .int .i64 pg, .bool rw, .bool ru, .bool rx, .bool lg, .bool dy]
                  clear H2 u2 r4 l4 y4 al y5 hWk
                  generalize (Value.slice A1 ats.length c1).ownBlock.toList = GA at *
                  go_wp2_with fail
                  generalize z4.alloc (.cells #[.slice A1 ats.length c1, .int .i64 pg, .bool rw, .bool ru, .bool rx, .bool lg, .bool dy] 60) = z5 at *
                  generalize z4.heap.size = gp at *
                  refine (hF1 _ _ H5).mono ?_; rintro e z6 ⟨rfl, H6, f6⟩
                  have u6 := f6.slu u5 (fun g o e => by injection e with e; injection e with e; simp [← e])
                  have s6 := f6.sla s5 (fun g o e => by simp [hmem g o e])
                  have p6 := f6.blk p5 (by simp)
                  clear hF1 H5 u5 s5 p5 f6
                  go_wp2_with fail
                  refine (hKn2 _ _ H6).mono ?_; rintro e z7 ⟨rfl, y7⟩
                  have al := (Chg.refl [] z7).alloc (.cells #[.int .i64 xa, .int .i64 xp, .int .i64 xf, .bool xw, .bool xu, .bool xx, .bool xd] 45)
                  have y8 := y7.trans al (by simp)
                  have H8 := H6.more (G := [z7.heap.size]) y8 (by intro i hi; simp at hi; subst hi; exact ⟨y7.size, by simp⟩)
                  have u8 := u6.chg y8 (by simp)
                  have s8 := s6.self y8
                  have p8 := p6.chg_ y8 (by simp)
                  have b8 := Blk.new z7 45 #[.int .i64 xa, .int .i64 xp, .int .i64 xf, .bool xw, .bool xu, .bool xx, .bool xd]
                  clear H6 u6 s6 p6 y7 al y8 hKn2
                  go_wp2_with fail
                  generalize z7.alloc (.cells #[.int .i64 xa, .int .i64 xp, .int .i64 xf, .bool xw, .bool xu, .bool xx, .bool xd] 45) = z8 at *
                  generalize z7.heap.size = gh at *
                  have hF3 := MFind_b pn H8
                  rw [hfb0.out, hfm0.out] at hF3
                  refine hF3.mono ?_; rintro e z9 ⟨rfl, H9, f9⟩
                  clear hF3
                  have u9 := f9.slu u8 (fun g o e => by injection e with e; injection e with e; simp [← e])
                  have s9 := f9.sla s8 (fun g o e => by simp [hmem g o e])
                  have p9 := f9.blk p8 (by simp)
                  have b9 := f9.blk b8 (by simp)
                  clear H8 u8 s8 p8 b8 f9
                  obtain ⟨p0_, p1_, p2_, p3_, p4_, p5_, p6_, _, _, _, _, _, _, _⟩ := blk7 p9
                  go_wp2_with fail
                  refine (hMk A1 c1 _ _ _ rfl H9 s9).mono ?_; rintro e z10 ⟨rfl, y10⟩
                  have H10 := H9.new y10
                  have u10 := u9.chg y10 (by simp)
                  have s10 := s9.self y10
                  have p10 := p9.chg_ y10 (by simp)
                  have b10 := b9.chg_ y10 (by simp)
                  clear H9 u9 s9 p9 b9 y10 hMk p0_ p1_ p2_ p3_ p4_ p5_ p6_
                  go_wp2_with fail
                  refine (MWords_b H10).mono ?_; rintro e z11 ⟨g11, d11, rfl, H11, y11, u11, _⟩
                  rw [L16_len] at u11
                  have u12 := u10.chg y11 (by simp)
                  have s11 := s10.self y11
                  have p11 := p10.chg_ y11 (by simp)
                  have b11 := b10.chg_ y11 (by simp)
                  clear H10 u10 s10 p10 b10 y11
                  go_wp2_with fail
                  refine (SameWords_any _ _ 128 128 d11 d1 _ _ _ u11 u12 (by omega) (by omega)).mono ?_; rintro e z12 ⟨rfl, nd, rfl⟩
                  rw [eqL_self]
                  have k12 := (Chg.refl [] z11).drewN nd
                  have H12 := H11.new k12
                  have s12 := s11.self k12
                  have p12 := p11.chg_ k12 (by simp)
                  have b12 := b11.chg_ k12 (by simp)
                  clear H11 s11 p11 b11 u11 u12 k12
                  generalize z11.drewN nd = z12 at *
                  have hcz := H12.c0
                  clear H12 s12 p12 b12
                  go_wp2_with fail
                  go_ret
                  exact ⟨rfl, hcz⟩
                case true =>
                  have hKn := MKnown_b pn H
                  rw [hu] at hKn
                  have hfb : findB 16 L16 s pn = true := by rw [hFB, hu, hus]; simp
                  have hfm : findM 16 L16 s pn = ⟨s.W, s.r, putT 512 s.T (hitP pn P false)⟩ := by rw [hFM, hfb]; rfl
                  have hF1 := fun F w9 (H9 : ModB w F w9 m t q S p L16 hh b 16 s) => MFind_b pn H9
                  rw [hfb, hfm] at hF1
                  obtain ⟨_, hpath, hmay, hgl⟩ := done_of hr
                  have hg0 := path_g0 hpath
                  have hpg := put_got 512 s.T (hitP pn P false)
                  rw [show (hitP pn P false).a = 0 from rfl, show (hitP pn P false).p = pn from rfl] at hpg
                  have hK2 := fun F w9 (H9 : ModB w F w9 m t q S p L16 hh b 16 ⟨s.W, s.r, putT 512 s.T (hitP pn P false)⟩) => MKnown_b pn H9
                  simp only [hpg.1, hpg.2] at hK2
                  have hfb2 : findB 16 L16 ⟨s.W, s.r, putT 512 s.T (hitP pn P false)⟩ pn = false := by unfold findB; simp only; rw [hpg.1]; rfl
                  have hF2 := fun F w9 (H9 : ModB w F w9 m t q S p L16 hh b 16 ⟨s.W, s.r, putT 512 s.T (hitP pn P false)⟩) => MFind_b pn H9
                  simp only [hfb2, show findM 16 L16 ⟨s.W, s.r, putT 512 s.T (hitP pn P false)⟩ pn = ⟨s.W, s.r, putT 512 s.T (hitP pn P false)⟩ from by unfold findM; rw [hfb2]; rfl] at hF2
                  have hfo := forget_acc (n := 16) (L := L16) (pn := pn) (s := s) (P := P) HPR.out.1 HPR.out.2 hr
                  have hFo := fun F w9 (H9 : ModB w F w9 m t q S p L16 hh b 16 ⟨s.W, s.r, putT 512 s.T (hitP pn P false)⟩) => MForget_b pn H9
                  have hAc := fun F w9 (H9 : ModB w F w9 m t q S p L16 hh b 16 (forgetM ⟨s.W, s.r, putT 512 s.T (hitP pn P false)⟩ pn)) => MAcc_b 0 false (joinN pn 0) 0 (mq_lt pn 0) (by omega) H9
                  have hK3 := fun F w9 (H9 : ModB w F w9 m t q S p L16 hh b 16 (accM 16 L16 (forgetM ⟨s.W, s.r, putT 512 s.T (hitP pn P false)⟩ pn) 0 false (joinN pn 0) 0).1) => MKnown_b pn H9
                  rw [hfo.1, hfo.2] at hK3
                  have hHit : hitP pn P false = ⟨0, pn, P.g, P.r.w, P.r.u, P.r.x, P.dirty⟩ := by simp [hitP]
                  generalize accM 16 L16 (forgetM ⟨s.W, s.r, putT 512 s.T (hitP pn P false)⟩ pn) 0 false (joinN pn 0) 0 = tt at *
                  obtain ⟨s4, o4⟩ := tt
                  simp only at hK3
                  have hTT : (forgetM ⟨s.W, s.r, putT 512 s.T (hitP pn P false)⟩ pn) = (forgetM ⟨s.W, s.r, putT 512 s.T (hitP pn P false)⟩ pn) := rfl
                  generalize forgetM ⟨s.W, s.r, putT 512 s.T (hitP pn P false)⟩ pn = s3 at *
                  clear hTT
                  generalize hs2 : (⟨s.W, s.r, putT 512 s.T (hitP pn P false)⟩ : Ms) = s2 at *
                  have hW2 : s2.W = s.W := by rw [← hs2]
                  rw [hHit] at hK2 hK3
                  have hok2 := H.ok.wd
                  simp only [Ht.v] at hK2 hK3
                  clear hs2 hfb2 hpg hfo hHit hpath hmay hFM hFB hfb hfm
                  have hWk := fun w9 (k9 : Chg [] w9 w9) (H9 : ∃ F, ModB w F w9 m t q S p L16 hh b 16 s) => (Exists.elim H9 fun F H9 => H9.walk pn 0 false P 0 0 hr w9 (Chg.refl [] w9))
                  rw [hR1] at hWk
                  have hMk := fun (A : Option Addr) (c : Nat) (F : List Nat) (w9 : World) (sx : Ms) (eW : sx.W = s.W) (H9 : ModB w F w9 m t q S p L16 hh b 16 sx) (hs : SlA w9 A P.ats.length P.ats) => Marked_at q S p L16 hh b 16 s.W A c P w9 (eW ▸ H9.gu) hok2 hs hall
                  have hSm := fun (A : Option Addr) (c : Nat) (w9 : World) (hs : SlA w9 A P.ats.length P.ats) => Same_eq A A c c P w9 hs hs hall
                  clear hr
                  obtain ⟨ats, pg, ⟨rw, ru, rx⟩, lg, dy⟩ := P
                  simp only [pathV, hus] at *
                  generalize hX : getT s.T 0 pn = X at *
                  have HX := Lib.hid hX
                  clear hX
                  obtain ⟨xa, xp, xf, xw, xu, xx, xd⟩ := X
                  simp only [Ht.v] at hKn
                  clear hKn
                  have hKn := fun F w9 (H9 : ModB w F w9 m t q S p L16 hh b 16 s) => MKnown_b pn H9
                  rw [hu, HX.out] at hKn
                  simp only [Ht.v] at hKn
                  go_wp2_with fail
                  refine (MWords_b H).mono ?_; rintro e z1 ⟨g1, d1, rfl, H1, y1, u1, _⟩
                  rw [L16_len] at u1
                  clear H y1
                  go_wp2_with fail
                  refine (hKn _ _ H1).mono ?_; rintro e z2 ⟨rfl, y2⟩
                  have al := (Chg.refl [] z2).alloc (.cells #[.int .i64 xa, .int .i64 xp, .int .i64 xf, .bool xw, .bool xu, .bool xx, .bool xd] 45)
                  have y3 := y2.trans al (by simp)
                  have H2 := H1.more (G := [z2.heap.size]) y3 (by intro i hi; simp at hi; subst hi; exact ⟨y2.size, by simp⟩)
                  have u2 := u1.chg y3 (by simp)
                  clear H1 y2 al y3 u1 hKn
                  go_wp2_with fail
                  generalize z2.alloc (.cells #[.int .i64 xa, .int .i64 xp, .int .i64 xf, .bool xw, .bool xu, .bool xx, .bool xd] 45) = z3 at *
                  generalize z2.heap.size = gk at *
                  refine (hWk _ (Chg.refl [] _) ⟨_, H2⟩).mono ?_; rintro e z4 ⟨A1, c1, rfl, r4, l4, y4⟩
                  (try simp only at r4 l4)
                  have al := (Chg.refl [] z4).alloc (.cells #[.slice A1 ats.length c1, .int .i64 pg, .bool rw, .bool ru, .bool rx, .bool lg, .bool dy] 60)
                  have y5 := y4.trans al (by simp)
                  have H5 := H2.more (G := (Value.slice A1 ats.length c1).ownBlock.toList ++ [z4.heap.size]) y5 (by intro i hi; rw [List.mem_append] at hi; rcases hi with hi | hi; exact ⟨l4 i hi, by have := OwnA.lt r4 i hi; simp; omega⟩; simp at hi; subst hi; exact ⟨y4.size, by simp⟩)
                  have u5 := u2.chg y5 (by simp)
                  have s5 := (OwnA.sla r4).self al
                  have hmem : ∀ g o, A1 = some ⟨g, o, none⟩ → g ∈ (Value.slice A1 ats.length c1).ownBlock.toList := fun g o e => by subst e; simp [Value.ownBlock]
                  have p5 := Blk.new z4 60 #[.slice A1 ats.length c1, .int .i64 pg, .bool rw, .bool ru, .bool rx, .bool lg, .bool dy]
                  clear H2 u2 r4 l4 y4 al y5 hWk
                  generalize (Value.slice A1 ats.length c1).ownBlock.toList = GA at *
                  go_wp2_with fail
                  generalize z4.alloc (.cells #[.slice A1 ats.length c1, .int .i64 pg, .bool rw, .bool ru, .bool rx, .bool lg, .bool dy] 60) = z5 at *
                  generalize z4.heap.size = gp at *
                  refine (hF1 _ _ H5).mono ?_; rintro e z6 ⟨rfl, H6, f6⟩
                  have u6 := f6.slu u5 (fun g o e => by injection e with e; injection e with e; simp [← e])
                  have s6 := f6.sla s5 (fun g o e => by simp [hmem g o e])
                  have p6 := f6.blk p5 (by simp)
                  clear hF1 H5 u5 s5 p5 f6
                  go_wp2_with fail
                  refine (hK2 _ _ H6).mono ?_; rintro e z7 ⟨rfl, y7⟩
                  have al := (Chg.refl [] z7).alloc (.cells #[.int .i64 0, .int .i64 pn, .int .i64 pg, .bool rw, .bool ru, .bool rx, .bool dy] 45)
                  have y8 := y7.trans al (by simp)
                  have H8 := H6.more (G := [z7.heap.size]) y8 (by intro i hi; simp at hi; subst hi; exact ⟨y7.size, by simp⟩)
                  have u8 := u6.chg y8 (by simp)
                  have s8 := s6.self y8
                  have p8 := p6.chg_ y8 (by simp)
                  have b8 := Blk.new z7 45 #[.int .i64 0, .int .i64 pn, .int .i64 pg, .bool rw, .bool ru, .bool rx, .bool dy]
                  clear H6 u6 s6 p6 y7 al y8 hK2
                  go_wp2_with fail
                  generalize z7.alloc (.cells #[.int .i64 0, .int .i64 pn, .int .i64 pg, .bool rw, .bool ru, .bool rx, .bool dy] 45) = z8 at *
                  generalize z7.heap.size = gh at *
                  refine (hF2 _ _ H8).mono ?_; rintro e z9 ⟨rfl, H9, f9⟩
                  have u9 := f9.slu u8 (fun g o e => by injection e with e; injection e with e; simp [← e])
                  have s9 := f9.sla s8 (fun g o e => by simp [hmem g o e])
                  have p9 := f9.blk p8 (by simp)
                  have b9 := f9.blk b8 (by simp)
                  clear H8 u8 s8 p8 b8 f9
                  obtain ⟨p0_, p1_, p2_, p3_, p4_, p5_, p6_, _, _, _, _, _, _, _⟩ := blk7 p9
                  go_wp2_with fail
                  refine (hMk A1 c1 _ _ _ hW2 H9 s9).mono ?_; rintro e z10 ⟨rfl, y10⟩
                  have H10 := H9.new y10
                  have u10 := u9.chg y10 (by simp)
                  have s10 := s9.self y10
                  have p10 := p9.chg_ y10 (by simp)
                  have b10 := b9.chg_ y10 (by simp)
                  clear H9 u9 s9 p9 b9 y10 hMk p0_ p1_ p2_ p3_ p4_ p5_ p6_
                  go_wp2_with fail
                  refine (MWords_b H10).mono ?_; rintro e z11 ⟨g11, d11, rfl, H11, y11, u11, _⟩
                  rw [L16_len, hW2] at u11
                  have u12 := u10.chg y11 (by simp)
                  have s11 := s10.self y11
                  have p11 := p10.chg_ y11 (by simp)
                  have b11 := b10.chg_ y11 (by simp)
                  clear H10 u10 s10 p10 b10 y11
                  go_wp2_with fail
                  refine (SameWords_any _ _ 128 128 d11 d1 _ _ _ u11 u12 (by omega) (by omega)).mono ?_; rintro e z12 ⟨rfl, nd, rfl⟩
                  rw [eqL_self]
                  have k12 := (Chg.refl [] z11).drewN nd
                  have H12 := H11.new k12
                  have s12 := s11.self k12
                  have p12 := p11.chg_ k12 (by simp)
                  have b12 := b11.chg_ k12 (by simp)
                  clear H11 s11 p11 b11 u11 u12 k12
                  generalize z11.drewN nd = z12 at *
                  go_wp2_with fail
                  refine (hFo _ _ H12).mono ?_; rintro e z13 ⟨rfl, H13, f13⟩
                  have s13 := f13.sla s12 (fun g o e => by simp [hmem g o e])
                  have p13 := f13.blk p12 (by simp)
                  have b13 := f13.blk b12 (by simp)
                  clear H12 s12 p12 b12 f13 hFo
                  go_wp2_with fail
                  refine (RJoin_any pn 0 _).mono ?_; rintro e z14 ⟨rfl, y14⟩
                  have H14 := H13.new y14.chg
                  have s14 := s13.self y14.chg
                  have p14 := p13.chg_ y14.chg (by simp)
                  have b14 := b13.chg_ y14.chg (by simp)
                  clear H13 s13 p13 b13 y14
                  go_wp2_with fail
                  refine (hAc _ _ H14).mono ?_; rintro e z15 ⟨rfl, H15, f15⟩
                  have s15 := f15.sla s14 (fun g o e => by simp [hmem g o e])
                  have p15 := f15.blk p14 (by simp)
                  have b15 := f15.blk b14 (by simp)
                  clear H14 s14 p14 b14 f15 hAc
                  go_wp2_with fail
                  refine (hK3 _ _ H15).mono ?_; rintro e z16 ⟨rfl, y16⟩
                  have al := (Chg.refl [] z16).alloc (.cells #[.int .i64 0, .int .i64 pn, .int .i64 pg, .bool rw, .bool ru, .bool rx, .bool dy] 45)
                  have y17 := y16.trans al (by simp)
                  have H17 := H15.new y17
                  have s17 := s15.self y17
                  have p17 := p15.chg_ y17 (by simp)
                  have b17 := b15.chg_ y17 (by simp)
                  have d17 := Blk.new z16 45 #[.int .i64 0, .int .i64 pn, .int .i64 pg, .bool rw, .bool ru, .bool rx, .bool dy]
                  clear H15 s15 p15 b15 y16 al y17 hK3
                  have hq := fun w9 => run_eqH ⟨0, pn, pg, rw, ru, rx, dy⟩ ⟨0, pn, pg, rw, ru, rx, dy⟩ w9
                  simp only [Ht.eqb_self, Ht.v] at hq
                  obtain ⟨p0_, p1_, p2_, p3_, p4_, p5_, p6_, _, _, _, _, _, _, _⟩ := blk7 p17
                  obtain ⟨b0_, b1_, b2_, b3_, b4_, b5_, b6_, _, _, _, _, _, _, _⟩ := blk7 b17
                  obtain ⟨d0_, d1_, d2_, d3_, d4_, d5_, d6_, _, _, _, _, _, _, _⟩ := blk7 d17
                  have hcz := H17.c0
                  clear H17 p17 b17 d17
                  go_wp2_with fail
                  generalize z16.alloc (.cells #[.int .i64 0, .int .i64 pn, .int .i64 pg, .bool rw, .bool ru, .bool rx, .bool dy] 45) = z17 at *
                  refine (hSm A1 c1 _ s17).mono ?_; rintro e z18 ⟨rfl, y18⟩
                  go_wp2_with fail
                  go_ret
                  exact ⟨rfl, hcz.trans y18 (by simp)⟩
              · have hne0 : (how == 0) = false := by simpa using hh0
                have hKn := MKnown_b pn H
                rw [hu] at hKn
                have hfb : findB 16 L16 s pn = false := by rw [hFB, hu, decide_eq_false hh0]; rfl
                have hfm : findM 16 L16 s pn = s := by rw [hFM, hfb]; rfl
                have hfb0 := Lib.hid hfb; have hfm0 := Lib.hid hfm
                have hF1 := fun F w9 (H9 : ModB w F w9 m t q S p L16 hh b 16 s) => MFind_b pn H9
                rw [hfb, hfm] at hF1
                have hok2 := H.ok.wd
                clear hFM hFB hfb hfm
                have hWk := fun w9 (k9 : Chg [] w9 w9) (H9 : ∃ F, ModB w F w9 m t q S p L16 hh b 16 s) => (Exists.elim H9 fun F H9 => H9.walk pn 0 false P how code hr w9 (Chg.refl [] w9))
                rw [hR1] at hWk
                have hMk := fun (A : Option Addr) (c : Nat) (F : List Nat) (w9 : World) (sx : Ms) (eW : sx.W = s.W) (H9 : ModB w F w9 m t q S p L16 hh b 16 sx) (hs : SlA w9 A P.ats.length P.ats) => Marked_at q S p L16 hh b 16 s.W A c P w9 (eW ▸ H9.gu) hok2 hs hall
                have hSm := fun (A : Option Addr) (c : Nat) (w9 : World) (hs : SlA w9 A P.ats.length P.ats) => Same_eq A A c c P w9 hs hs hall
                clear hr
                obtain ⟨ats, pg, ⟨rw, ru, rx⟩, lg, dy⟩ := P
                simp only [pathV] at *
                generalize hX : getT s.T 0 pn = X at *
                have HX := Lib.hid hX
                clear hX
                obtain ⟨xa, xp, xf, xw, xu, xx, xd⟩ := X
                simp only [Ht.v] at hKn
                have hKn2 := fun F w9 (H9 : ModB w F w9 m t q S p L16 hh b 16 s) => MKnown_b pn H9
                rw [hu, HX.out] at hKn2
                simp only [Ht.v] at hKn2
                clear hKn
                have hKn := fun F w9 (H9 : ModB w F w9 m t q S p L16 hh b 16 s) => MKnown_b pn H9
                rw [hu, HX.out] at hKn
                simp only [Ht.v] at hKn
                go_wp2_with fail
                refine (MWords_b H).mono ?_; rintro e z1 ⟨g1, d1, rfl, H1, y1, u1, _⟩
                rw [L16_len] at u1
                clear H y1
                go_wp2_with fail
                refine (hKn _ _ H1).mono ?_; rintro e z2 ⟨rfl, y2⟩
                have al := (Chg.refl [] z2).alloc (.cells #[.int .i64 xa, .int .i64 xp, .int .i64 xf, .bool xw, .bool xu, .bool xx, .bool xd] 45)
                have y3 := y2.trans al (by simp)
                have H2 := H1.more (G := [z2.heap.size]) y3 (by intro i hi; simp at hi; subst hi; exact ⟨y2.size, by simp⟩)
                have u2 := u1.chg y3 (by simp)
                clear H1 y2 al y3 u1 hKn
                go_wp2_with fail
                generalize z2.alloc (.cells #[.int .i64 xa, .int .i64 xp, .int .i64 xf, .bool xw, .bool xu, .bool xx, .bool xd] 45) = z3 at *
                generalize z2.heap.size = gk at *
                refine (hWk _ (Chg.refl [] _) ⟨_, H2⟩).mono ?_; rintro e z4 ⟨A1, c1, rfl, r4, l4, y4⟩
                (try simp only at r4 l4)
                have al := (Chg.refl [] z4).alloc (.cells #[.slice A1 ats.length c1, .int .i64 pg, .bool rw, .bool ru, .bool rx, .bool lg, .bool dy] 60)
                have y5 := y4.trans al (by simp)
                have H5 := H2.more (G := (Value.slice A1 ats.length c1).ownBlock.toList ++ [z4.heap.size]) y5 (by intro i hi; rw [List.mem_append] at hi; rcases hi with hi | hi; exact ⟨l4 i hi, by have := OwnA.lt r4 i hi; simp; omega⟩; simp at hi; subst hi; exact ⟨y4.size, by simp⟩)
                have u5 := u2.chg y5 (by simp)
                have s5 := (OwnA.sla r4).self al
                have hmem : ∀ g o, A1 = some ⟨g, o, none⟩ → g ∈ (Value.slice A1 ats.length c1).ownBlock.toList := fun g o e => by subst e; simp [Value.ownBlock]
                have p5 := Blk.new z4 60 #[.slice A1 ats.length c1, .int .i64 pg, .bool rw, .bool ru, .bool rx, .bool lg, .bool dy]
                clear H2 u2 r4 l4 y4 al y5 hWk
                generalize (Value.slice A1 ats.length c1).ownBlock.toList = GA at *
                go_wp2_with fail
                generalize z4.alloc (.cells #[.slice A1 ats.length c1, .int .i64 pg, .bool rw, .bool ru, .bool rx, .bool lg, .bool dy] 60) = z5 at *
                generalize z4.heap.size = gp at *
                refine (hF1 _ _ H5).mono ?_; rintro e z6 ⟨rfl, H6, f6⟩
                have u6 := f6.slu u5 (fun g o e => by injection e with e; injection e with e; simp [← e])
                have s6 := f6.sla s5 (fun g o e => by simp [hmem g o e])
                have p6 := f6.blk p5 (by simp)
                clear hF1 H5 u5 s5 p5 f6
                go_wp2_with fail
                refine (hKn2 _ _ H6).mono ?_; rintro e z7 ⟨rfl, y7⟩
                have al := (Chg.refl [] z7).alloc (.cells #[.int .i64 xa, .int .i64 xp, .int .i64 xf, .bool xw, .bool xu, .bool xx, .bool xd] 45)
                have y8 := y7.trans al (by simp)
                have H8 := H6.more (G := [z7.heap.size]) y8 (by intro i hi; simp at hi; subst hi; exact ⟨y7.size, by simp⟩)
                have u8 := u6.chg y8 (by simp)
                have s8 := s6.self y8
                have p8 := p6.chg_ y8 (by simp)
                have b8 := Blk.new z7 45 #[.int .i64 xa, .int .i64 xp, .int .i64 xf, .bool xw, .bool xu, .bool xx, .bool xd]
                clear H6 u6 s6 p6 y7 al y8 hKn2
                go_wp2_with fail
                generalize z7.alloc (.cells #[.int .i64 xa, .int .i64 xp, .int .i64 xf, .bool xw, .bool xu, .bool xx, .bool xd] 45) = z8 at *
                generalize z7.heap.size = gh at *
                have hF3 := MFind_b pn H8
                rw [hfb0.out, hfm0.out] at hF3
                refine hF3.mono ?_; rintro e z9 ⟨rfl, H9, f9⟩
                clear hF3
                have u9 := f9.slu u8 (fun g o e => by injection e with e; injection e with e; simp [← e])
                have s9 := f9.sla s8 (fun g o e => by simp [hmem g o e])
                have p9 := f9.blk p8 (by simp)
                have b9 := f9.blk b8 (by simp)
                clear H8 u8 s8 p8 b8 f9
                obtain ⟨p0_, p1_, p2_, p3_, p4_, p5_, p6_, _, _, _, _, _, _, _⟩ := blk7 p9
                go_wp2_with fail
                have H10 := H9; have u10 := u9; have s10 := s9; have p10 := p9; have b10 := b9
                clear H9 u9 s9 p9 b9 hMk p0_ p1_ p2_ p3_ p4_ p5_ p6_
                refine (MWords_b H10).mono ?_; rintro e z11 ⟨g11, d11, rfl, H11, y11, u11, _⟩
                rw [L16_len] at u11
                have u12 := u10.chg y11 (by simp)
                have s11 := s10.self y11
                have p11 := p10.chg_ y11 (by simp)
                have b11 := b10.chg_ y11 (by simp)
                clear H10 u10 s10 p10 b10 y11
                go_wp2_with fail
                refine (SameWords_any _ _ 128 128 d11 d1 _ _ _ u11 u12 (by omega) (by omega)).mono ?_; rintro e z12 ⟨rfl, nd, rfl⟩
                rw [eqL_self]
                have k12 := (Chg.refl [] z11).drewN nd
                have H12 := H11.new k12
                have s12 := s11.self k12
                have p12 := p11.chg_ k12 (by simp)
                have b12 := b11.chg_ k12 (by simp)
                clear H11 s11 p11 b11 u11 u12 k12
                generalize z11.drewN nd = z12 at *
                have hcz := H12.c0
                clear H12 s12 p12 b12
                go_wp2_with fail
                go_ret
                exact ⟨rfl, hcz⟩

end Go.Proofs.YtedginkenmafmaaGreatDoor
