/-
  ModelFresh: the walk.
-/
import Derived.Test.YtedginkenmafmaaGreatDoorModelHead
import Derived.Test.YtedginkenmafmaaGreatDoorModelS
import Derived.Test.YtedginkenmafmaaGreatDoorG4r
import Derived.Test.YtedginkenmafmaaGreatDoorG8c
namespace Go.Proofs.YtedginkenmafmaaGreatDoor
open Go.RowKit Go.Shelf Go.Maps

set_option maxRecDepth 100000 in
set_option maxHeartbeats 40000000 in
theorem ModelFresh_walk (A : Option Addr) (ml c : Nat) (l : List Pu) (root : Int) (B : Option Addr) (no d : Nat) (ops : List OpM) (kind : Int) (user : Bool) (page word v : Int) (w : World) (h : SlP w A ml l) (hr0 : 0 ≤ root ∧ root ≤ 255) (ho : SlM w B no ops) (hki : 0 ≤ kind ∧ kind ≤ 255) (hp0 : 0 ≤ page ∧ page ≤ 65535) (hk0 : 0 ≤ word ∧ word ≤ 255) (hv0 : 0 ≤ v ∧ v ≤ 18446744073709551615) (hE : ErrIn w) :
    Calls Tryz.prog 4 #[.slice A ml c, .int .u8 root, .slice B no d, .int .u8 kind, .bool user, .int .u16 page, .int .u8 word, .int .u64 v] w fun e w' => e = .returned (.bool true) ∧ Chg [] w w' := by
  have hwd := (made_wd l h.wf).1
  have hle := h.le
  have hlo := ho.le
  have hrm : Int.tmod root 16 = root % 16 := Int.tmod_eq_emod_of_nonneg hr0.1
  have hpm : Int.tmod page 512 = page % 512 := Int.tmod_eq_emod_of_nonneg hp0.1
  have hkm : Int.tmod kind 3 = kind % 3 := Int.tmod_eq_emod_of_nonneg hki.1
  have hwm : Int.tmod word 8 = word % 8 := Int.tmod_eq_emod_of_nonneg hk0.1
  have hpr : 0 ≤ page % 512 ∧ page % 512 < 512 := by omega
  have hwr : 0 ≤ word % 8 ∧ word % 8 < 8 := by omega
  have hkr : 0 ≤ kind % 3 ∧ kind % 3 < 3 := by omega
  have hrr : 0 ≤ root % 16 ∧ root % 16 < 16 := by omega
  generalize page % 512 = pn at *
  generalize word % 8 = wn at *
  generalize kind % 3 = kn at *
  generalize root % 16 = rn at *
  have hw1 : wrap64 pn = pn := by unfold wrap64; omega
  have hw2 : wrap64 wn = wn := by unfold wrap64; omega
  have hw3 : wrap64 kn = kn := by unfold wrap64; omega
  have hw4 : wrap64 rn = rn := by unfold wrap64; omega
  have HPR := Lib.hid hpr
  have HWR := Lib.hid hwr
  have HV := Lib.hid (show 0 ≤ v ∧ v < 18446744073709551616 by omega)
  clear hp0 hk0 hki hr0 hpr hwr hkr hrr hv0
  go_enter Tryz.func4, Tryz.ntmps4
  go_wp2_with fail
  refine (Mohead_any _ hE).mono ?_; rintro e w1 ⟨rfl, k1⟩
  go_wp2_with fail
  refine (Made_at A ml c l _ (h.self k1)).mono ?_; rintro e w2 ⟨q, S, p, hh, b, rfl, k2, g2, hb⟩
  have k3 : Chg [] w w2 := k1.trans k2 (by simp)
  have hbw : w.heap.size ≤ b := Nat.le_trans k1.size hb
  generalize madeW l = W at *
  clear k1 k2 hb h
  by_cases hbigml : (ml : Int) > 600
  · go_wp2_with fail
    go_ret
    exact ⟨rfl, k3⟩
  · by_cases hbigno : (no : Int) > 200
    · go_wp2_with fail
      go_ret
      exact ⟨rfl, k3⟩
    · go_wp2_with fail
      refine (MNew_b (w0 := w) (w := w2) (q := q) (S := S) (p := p) (L := L16) (h := hh) (b := b) (n := 16) rn hE k3 W g2 hwd hbw).mono ?_; rintro e w3 ⟨m, t, rfl, H, _⟩
      clear k3 g2
      generalize hs0 : (⟨W, rn, []⟩ : Ms) = s0 at *
      go_wp2_with fail
      have hr1 : s0.r = rn := by rw [← hs0]
      clear hs0
      go_loopw [19, 21] (fun rr i w' => ∃ (k : Nat) (s : Ms), k ≤ no ∧ i = .int .i64 k ∧ rr = .int .i64 s.r ∧ ModB w [] w' m t q S p L16 hh b 16 s) (fun _ i _ => no - (intOf i).toNat)
      case atStart => exact ⟨0, s0, by omega, rfl, by rw [hr1], H⟩
      case round =>
        clear H
        obtain ⟨k, s, hk, rfl, rfl, H⟩ := hrel
        by_cases hlt : k < no
        · obtain ⟨ob, off, o, rfl, _, hok, how, hc⟩ := (ho.new H.c0).get hlt
          obtain ⟨c0, c1, c2, c3, c4, c5, c6, c7⟩ := hc
          have hD := DoM_b o how H
          have hR := doM_r (n := 16) (L := L16) s o
          have hR := Lib.hid hR
          clear hok how
          obtain ⟨what, kind', user', a', v', g', i', page'⟩ := o
          simp only [OpM.val, Ot.cs] at *
          by_cases h6 : what = 6
          · subst h6
            go_wp2_with fail
            refine hD.mono ?_; rintro e w4 ⟨rfl, H4, f4⟩
            clear hD c0 c1 c2 c3 c4 c5 c6 c7
            go_wp2_with fail
            go_roundw
            case measure => simp [intOf]; omega
            case rel => exact ⟨k + 1, _, by omega, by go_num, by have h := hR.out; simp only [if_true] at h; rw [h], H4⟩
          · go_wp2_with fail
            refine hD.mono ?_; rintro e w4 ⟨rfl, H4, f4⟩
            clear hD c0 c1 c2 c3 c4 c5 c6 c7
            go_wp2_with fail
            go_roundw
            case measure => simp [intOf]; omega
            case rel => exact ⟨k + 1, _, by omega, by go_num, by have h := hR.out; rw [if_neg h6] at h; rw [h], H4⟩
        · obtain rfl : k = no := by omega
          clear hlt hk
          have hH0 := H
          cases hr : walkP 16 s.W L16 s.r pn kn user with
          | mk P hcc =>
            obtain ⟨how, code⟩ := hcc
            have hlen := walk_len hr
            have hall : P.ats.length ≤ 9223372036854775807 := by omega
            have hFo := MForget_b pn H
            have hok1 := H.ok.drop 0 pn
            have hWk := fun w9 (H9 : ModB w [] w9 m t q S p L16 hh b 16 (forgetM s pn)) => H9.walk pn kn user P how code hr w9 (Chg.refl [] w9)
            simp only [show (forgetM s pn).r = s.r from rfl] at hWk
            have hAc := fun F w9 (H9 : ModB w F w9 m t q S p L16 hh b 16 (forgetM s pn)) => MAcc_b kn user (joinN pn wn) v (mq_lt pn wn) HV.out H9
            have hG1 := fun F w9 (H9 : ModB w F w9 m t q S p L16 hh b 16 (forgetM s pn)) => GuGet_at q S p L16 hh b 16 s.W P.g wn w9 H9.gu
            have hJ := fun w9 => RJoin_any pn wn w9
            by_cases hh0 : how = 0
            · subst hh0
              obtain ⟨rfl, hpath, hmay, hgl⟩ := done_of hr
              have hg0 := path_g0 hpath
              rw [L16_len] at hgl
              have hhas : hasG 16 L16 P.g wn = true := by rw [hasG_16, decide_eq_true_eq]; exact ⟨hg0, hgl, HWR.out.1, HWR.out.2⟩
              have hgo := fresh_go (n := 16) (L := L16) (v := v) HPR.out.1 HPR.out.2 HWR.out.1 HWR.out.2 hr
              rw [hgo] at hAc
              have hpg := put_got 512 (dropT (dropT s.T 0 pn) 0 pn) (hitP pn P (kn == 1))
              rw [show (hitP pn P (kn == 1)).a = 0 from rfl, show (hitP pn P (kn == 1)).p = pn from rfl] at hpg
              have hmark := (hok1.mark P.ats (kn == 1)).wd; have hml := (hok1.mark P.ats (kn == 1)).len
              have hwl := hok1.len; have hwd1 := hok1.wd
              rw [hhas] at hG1
              by_cases hk1 : kn = 1
              · subst hk1
                rw [show ((1 : Int) == 1) = true from rfl] at hAc hpg hml
                have htm : ∀ s2 : Ms, touchM 16 L16 s2 P.g wn 1 v = (⟨setG 16 s2.W L16 P.g wn v, s2.r, s2.T⟩, Ot.zero) := fun s2 => rfl
                rw [htm] at hAc
                simp only [Ot.cs, Ot.zero] at hAc
                have hG2 := fun F w9 (H9 : ModB w F w9 m t q S p L16 hh b 16 ⟨setG 16 (markP 16 L16 P.ats true s.W) L16 P.g wn v, s.r, putT 512 (dropT (dropT s.T 0 pn) 0 pn) (hitP pn P true)⟩) => GuGet_at q S p L16 hh b 16 (setG 16 (markP 16 L16 P.ats true s.W) L16 P.g wn v) P.g wn w9 H9.gu
                rw [get_set L16_ok.inh (by decide) hml hhas hhas, if_pos ⟨rfl, rfl⟩, hhas] at hG2
                have hKn := fun F w9 (H9 : ModB w F w9 m t q S p L16 hh b 16 ⟨setG 16 (markP 16 L16 P.ats true s.W) L16 P.g wn v, s.r, putT 512 (dropT (dropT s.T 0 pn) 0 pn) (hitP pn P true)⟩) => MKnown_b pn H9
                simp only [hpg.1, hpg.2] at hKn
                rw [show hitP pn P true = ⟨0, pn, P.g, P.r.w, P.r.u, P.r.x, P.dirty || true⟩ from rfl] at *
                generalize getG 16 s.W L16 P.g wn = gv at *
                generalize hs9 : (⟨setG 16 (markP 16 L16 P.ats true s.W) L16 P.g wn v, s.r, putT 512 (dropT (dropT s.T 0 pn) 0 pn) ⟨0, pn, P.g, P.r.w, P.r.u, P.r.x, P.dirty || true⟩⟩ : Ms) = s9 at *
                clear hs9 hgo htm hpath hmay hr hmark hml hwl hpg
                obtain ⟨ats, pg, ⟨rw, ru, rx⟩, lg, dy⟩ := P
                simp only [pathV, Ht.v, Bool.or_true] at *
                generalize joinN pn wn = ja at *
                go_wp2_with fail
                refine (hJ _).mono ?_; rintro e z1 ⟨rfl, y1⟩
                have H1 := H.new y1.chg
                have hFo := fun F w9 (H9 : ModB w F w9 m t q S p L16 hh b 16 s) => MForget_b pn H9
                clear y1 H hH0 hJ
                go_wp2_with fail
                refine (hFo _ _ H1).mono ?_; rintro e z2 ⟨rfl, H2, _⟩
                clear H1 hFo
                go_wp2_with fail
                refine (hWk _ H2).mono ?_; rintro e z4 ⟨A1, c1, rfl, r4, l4, y4⟩
                (try simp only at r4 l4)
                have al := (Chg.refl [] z4).alloc (.cells #[.slice A1 ats.length c1, .int .i64 pg, .bool rw, .bool ru, .bool rx, .bool lg, .bool dy] 60)
                have y5 := y4.trans al (by simp)
                have H5 := H2.more (G := (Value.slice A1 ats.length c1).ownBlock.toList ++ [z4.heap.size]) y5 (by intro i hi; rw [List.mem_append] at hi; rcases hi with hi | hi; exact ⟨l4 i hi, by have := OwnA.lt r4 i hi; simp; omega⟩; simp at hi; subst hi; exact ⟨y4.size, by simp⟩)
                have s5 := (OwnA.sla r4).self al
                have hmem : ∀ g o, A1 = some ⟨g, o, none⟩ → g ∈ (Value.slice A1 ats.length c1).ownBlock.toList := fun g o e => by subst e; simp [Value.ownBlock]
                have p5 := Blk.new z4 60 #[.slice A1 ats.length c1, .int .i64 pg, .bool rw, .bool ru, .bool rx, .bool lg, .bool dy]
                clear H2 r4 l4 y4 al y5 hWk
                generalize (Value.slice A1 ats.length c1).ownBlock.toList = GA at *
                obtain ⟨p0_, p1_, p2_, p3_, p4_, p5_, p6_, _, _, _, _, _, _, _⟩ := blk7 p5
                go_wp2_with fail
                generalize z4.alloc (.cells #[.slice A1 ats.length c1, .int .i64 pg, .bool rw, .bool ru, .bool rx, .bool lg, .bool dy] 60) = z5 at *
                generalize z4.heap.size = gp at *
                refine (hG1 _ _ H5).mono ?_; rintro e z6 ⟨rfl, rfl⟩
                go_wp2_with fail
                refine (hAc _ _ H5).mono ?_; rintro e z7 ⟨rfl, H7, f7⟩
                have s7 := f7.sla s5 (fun g o e => by simp [hmem g o e])
                have p7 := f7.blk p5 (by simp)
                clear hAc H5 s5 p5 f7 p0_ p1_ p2_ p3_ p4_ p5_ p6_
                have al := (Chg.refl [] z7).alloc (.cells #[.int .i64 0, .int .u64 0, .int .i64 0, .int .u64 0] 37)
                have H8 := H7.more (G := [z7.heap.size]) al (by intro i hi; simp at hi; subst hi; simp)
                have s8 := s7.self al
                have p8 := p7.chg_ al (by simp)
                have o8 := Blk.new z7 37 #[.int .i64 0, .int .u64 0, .int .i64 0, .int .u64 0]
                clear H7 s7 p7 al
                go_wp2_with fail
                generalize z7.alloc (.cells #[.int .i64 0, .int .u64 0, .int .i64 0, .int .u64 0] 37) = z8 at *
                generalize z7.heap.size = go at *
                refine (hKn _ _ H8).mono ?_; rintro e z9 ⟨rfl, y9⟩
                have al := (Chg.refl [] z9).alloc (.cells #[.int .i64 0, .int .i64 pn, .int .i64 pg, .bool rw, .bool ru, .bool rx, .bool true] 45)
                have y10 := y9.trans al (by simp)
                have H10 := H8.more (G := [z9.heap.size]) y10 (by intro i hi; simp at hi; subst hi; exact ⟨y9.size, by simp⟩)
                have s10 := s8.self y10
                have p10 := p8.chg_ y10 (by simp)
                have o10 := o8.chg_ y10 (by simp)
                have h10 := Blk.new z9 45 #[.int .i64 0, .int .i64 pn, .int .i64 pg, .bool rw, .bool ru, .bool rx, .bool true]
                clear H8 s8 p8 o8 y9 al y10 hKn
                obtain ⟨p0_, p1_, p2_, p3_, p4_, p5_, p6_, _, _, _, _, _, _, _⟩ := blk7 p10
                obtain ⟨o0_, o1_, o2_, o3_, _, _, _, _⟩ := blk4 o10
                obtain ⟨h0_, h1_, h2_, h3_, h4_, h5_, h6_, _, _, _, _, _, _, _⟩ := blk7 h10
                have hc := H10.c0
                have hq1 : ∀ w9, (binOp .eql 37 (.agg #[.int .i64 0, .int .u64 0, .int .i64 0, .int .u64 0]) (.agg #[.int .i64 0, .int .u64 0, .int .i64 0, .int .u64 0])).run Tryz.prog w9 = .ok (.bool true) w9 := fun w9 => by rw [run_eqO, Ot.eqb_self]
                have hq2 := fun w9 => run_eqH ⟨0, pn, pg, rw, ru, rx, true⟩ ⟨0, pn, pg, rw, ru, rx, true⟩ w9
                simp only [Ht.eqb_self, Ht.v] at hq2
                go_wp2_with fail
                refine (hG2 _ _ H10).mono ?_; rintro e z11 ⟨rfl, rfl⟩
                have al := (Chg.refl [] (z9.alloc (.cells #[.int .i64 0, .int .i64 pn, .int .i64 pg, .bool rw, .bool ru, .bool rx, .bool true] 45))).alloc (.cells #[.int .i64 0, .int .i64 pn, .int .i64 pg, .bool rw, .bool ru, .bool rx, .bool true] 45)
                have o11 := o10.chg_ al (by simp)
                have h11 := h10.chg_ al (by simp)
                have w11 := Blk.new (z9.alloc (.cells #[.int .i64 0, .int .i64 pn, .int .i64 pg, .bool rw, .bool ru, .bool rx, .bool true] 45)) 45 #[.int .i64 0, .int .i64 pn, .int .i64 pg, .bool rw, .bool ru, .bool rx, .bool true]
                rw [World.size_alloc] at w11
                obtain ⟨o0b, o1b, o2b, o3b, _, _, _, _⟩ := blk4 o11
                obtain ⟨h0b, h1b, h2b, h3b, h4b, h5b, h6b, _, _, _, _, _, _, _⟩ := blk7 h11
                obtain ⟨w0b, w1b, w2b, w3b, w4b, w5b, w6b, _, _, _, _, _, _, _⟩ := blk7 w11
                clear H10 s10 p10 o10 h10 hG2 al o11 h11 w11
                cases dy
                case false =>
                  go_wp2_with fail
                  go_ret
                  exact ⟨rfl, hc.alloc _⟩
                case true =>
                  go_wp2_with fail
                  go_ret
                  exact ⟨rfl, hc.alloc _⟩
              · have hkb : (kn == 1) = false := by simpa using hk1
                rw [hkb] at hAc hpg hml
                have htm : ∀ s2 : Ms, touchM 16 L16 s2 P.g wn kn v = (s2, ⟨0, getG 16 s2.W L16 P.g wn, 0, 0⟩) := fun s2 => by unfold touchM; rw [hkb]; rfl
                rw [htm] at hAc
                simp only [Ot.cs] at hAc
                have hmg := mark_get (W := s.W) (ats := P.ats) L16_ok.inh (by decide) hwl (path_has hpath) hhas
                rw [hmg] at hAc
                have hG2 := fun F w9 (H9 : ModB w F w9 m t q S p L16 hh b 16 ⟨markP 16 L16 P.ats false s.W, s.r, putT 512 (dropT (dropT s.T 0 pn) 0 pn) (hitP pn P false)⟩) => GuGet_at q S p L16 hh b 16 (markP 16 L16 P.ats false s.W) P.g wn w9 H9.gu
                rw [hhas] at hG2
                have hKn := fun F w9 (H9 : ModB w F w9 m t q S p L16 hh b 16 ⟨markP 16 L16 P.ats false s.W, s.r, putT 512 (dropT (dropT s.T 0 pn) 0 pn) (hitP pn P false)⟩) => MKnown_b pn H9
                simp only [hpg.1, hpg.2] at hKn
                rw [show hitP pn P false = ⟨0, pn, P.g, P.r.w, P.r.u, P.r.x, P.dirty || false⟩ from rfl] at *
                have hgw := wdw_get (show WdW s.W from hwd1) 16 L16 P.g wn
                have hgw2 : ((getG 16 s.W L16 P.g wn).toNat : Int) = getG 16 s.W L16 P.g wn := by omega
                generalize hgv : getG 16 s.W L16 P.g wn = gv at *
                generalize hs9 : (⟨markP 16 L16 P.ats false s.W, s.r, putT 512 (dropT (dropT s.T 0 pn) 0 pn) ⟨0, pn, P.g, P.r.w, P.r.u, P.r.x, P.dirty || false⟩⟩ : Ms) = s9 at *
                clear hs9 hgo htm hpath hmay hr hmark hml hwl hpg hmg
                obtain ⟨ats, pg, ⟨rw, ru, rx⟩, lg, dy⟩ := P
                simp only [pathV, Ht.v, Bool.or_false] at *
                generalize joinN pn wn = ja at *
                have hin := Lib.hid (rfl : ats.any (fun a => decide (a = (pg, wn))) = ats.any (fun a => decide (a = (pg, wn))))
                generalize hxv : (if (ats.any fun a => decide (a = (pg, wn))) = true then (usedN gv.toNat false : Int) else gv) = xv at *
                have HXV := Lib.hid hxv
                clear hxv hin
                go_wp2_with fail
                refine (hJ _).mono ?_; rintro e z1 ⟨rfl, y1⟩
                have H1 := H.new y1.chg
                have hFo := fun F w9 (H9 : ModB w F w9 m t q S p L16 hh b 16 s) => MForget_b pn H9
                clear y1 H hH0 hJ
                go_wp2_with fail
                refine (hFo _ _ H1).mono ?_; rintro e z2 ⟨rfl, H2, _⟩
                clear H1 hFo
                go_wp2_with fail
                refine (hWk _ H2).mono ?_; rintro e z4 ⟨A1, c1, rfl, r4, l4, y4⟩
                (try simp only at r4 l4)
                have al := (Chg.refl [] z4).alloc (.cells #[.slice A1 ats.length c1, .int .i64 pg, .bool rw, .bool ru, .bool rx, .bool lg, .bool dy] 60)
                have y5 := y4.trans al (by simp)
                have H5 := H2.more (G := (Value.slice A1 ats.length c1).ownBlock.toList ++ [z4.heap.size]) y5 (by intro i hi; rw [List.mem_append] at hi; rcases hi with hi | hi; exact ⟨l4 i hi, by have := OwnA.lt r4 i hi; simp; omega⟩; simp at hi; subst hi; exact ⟨y4.size, by simp⟩)
                have s5 := (OwnA.sla r4).self al
                have hmem : ∀ g o, A1 = some ⟨g, o, none⟩ → g ∈ (Value.slice A1 ats.length c1).ownBlock.toList := fun g o e => by subst e; simp [Value.ownBlock]
                have p5 := Blk.new z4 60 #[.slice A1 ats.length c1, .int .i64 pg, .bool rw, .bool ru, .bool rx, .bool lg, .bool dy]
                clear H2 r4 l4 y4 al y5 hWk
                generalize (Value.slice A1 ats.length c1).ownBlock.toList = GA at *
                obtain ⟨p0_, p1_, p2_, p3_, p4_, p5_, p6_, _, _, _, _, _, _, _⟩ := blk7 p5
                go_wp2_with fail
                generalize z4.alloc (.cells #[.slice A1 ats.length c1, .int .i64 pg, .bool rw, .bool ru, .bool rx, .bool lg, .bool dy] 60) = z5 at *
                generalize z4.heap.size = gp at *
                refine (hG1 _ _ H5).mono ?_; rintro e z6 ⟨rfl, rfl⟩
                go_wp2_with fail
                refine (hAc _ _ H5).mono ?_; rintro e z7 ⟨rfl, H7, f7⟩
                have s7 := f7.sla s5 (fun g o e => by simp [hmem g o e])
                have p7 := f7.blk p5 (by simp)
                clear hAc H5 s5 p5 f7 p0_ p1_ p2_ p3_ p4_ p5_ p6_
                have al := (Chg.refl [] z7).alloc (.cells #[.int .i64 0, .int .u64 xv, .int .i64 0, .int .u64 0] 37)
                have H8 := H7.more (G := [z7.heap.size]) al (by intro i hi; simp at hi; subst hi; simp)
                have s8 := s7.self al
                have p8 := p7.chg_ al (by simp)
                have o8 := Blk.new z7 37 #[.int .i64 0, .int .u64 xv, .int .i64 0, .int .u64 0]
                clear H7 s7 p7 al
                go_wp2_with fail
                generalize z7.alloc (.cells #[.int .i64 0, .int .u64 xv, .int .i64 0, .int .u64 0] 37) = z8 at *
                generalize z7.heap.size = go at *
                refine (hKn _ _ H8).mono ?_; rintro e z9 ⟨rfl, y9⟩
                have al := (Chg.refl [] z9).alloc (.cells #[.int .i64 0, .int .i64 pn, .int .i64 pg, .bool rw, .bool ru, .bool rx, .bool dy] 45)
                have y10 := y9.trans al (by simp)
                have H10 := H8.more (G := [z9.heap.size]) y10 (by intro i hi; simp at hi; subst hi; exact ⟨y9.size, by simp⟩)
                have s10 := s8.self y10
                have p10 := p8.chg_ y10 (by simp)
                have o10 := o8.chg_ y10 (by simp)
                have h10 := Blk.new z9 45 #[.int .i64 0, .int .i64 pn, .int .i64 pg, .bool rw, .bool ru, .bool rx, .bool dy]
                clear H8 s8 p8 o8 y9 al y10 hKn
                obtain ⟨p0_, p1_, p2_, p3_, p4_, p5_, p6_, _, _, _, _, _, _, _⟩ := blk7 p10
                obtain ⟨o0_, o1_, o2_, o3_, _, _, _, _⟩ := blk4 o10
                obtain ⟨h0_, h1_, h2_, h3_, h4_, h5_, h6_, _, _, _, _, _, _, _⟩ := blk7 h10
                have hc := H10.c0
                go_wp2_with fail
                refine (hG2 _ _ H10).mono ?_; rintro e z11 ⟨rfl, rfl⟩
                clear hG2
                have h10b := h10.alloc (.cells #[.int .i64 0, .int .i64 pn, .int .i64 pg, .bool rw, .bool ru, .bool rx, .bool dy] 45)
                have al := (Chg.refl [] (z9.alloc (.cells #[.int .i64 0, .int .i64 pn, .int .i64 pg, .bool rw, .bool ru, .bool rx, .bool dy] 45))).alloc (.cells #[.int .i64 0, .int .i64 pn, .int .i64 pg, .bool rw, .bool ru, .bool rx, .bool dy] 45)
                have wnt := Blk.new (z9.alloc (.cells #[.int .i64 0, .int .i64 pn, .int .i64 pg, .bool rw, .bool ru, .bool rx, .bool dy] 45)) 45 #[.int .i64 0, .int .i64 pn, .int .i64 pg, .bool rw, .bool ru, .bool rx, .bool dy]
                rw [World.size_alloc] at wnt
                have o11 := o10.chg_ al (by simp)
                have p11 := p10.chg_ al (by simp)
                have s11 := s10.self al
                have hc11 := hc.trans al (by simp)
                clear al H10 s10 p10 o10 h10 hc o0_ o1_ o2_ o3_ h0_ h1_ h2_ h3_ h4_ h5_ h6_
                cases dy
                case false =>
                  go_wp2_with fail
                  clear p0_ p1_ p2_ p3_ p4_ p5_ p6_
                  generalize ((z9.alloc (.cells #[.int .i64 0, .int .i64 pn, .int .i64 pg, .bool rw, .bool ru, .bool rx, .bool false] 45)).alloc (.cells #[.int .i64 0, .int .i64 pn, .int .i64 pg, .bool rw, .bool ru, .bool rx, .bool false] 45)) = z12 at *
                  go_loopg [37, 38] ats.length (fun gg s37 s38 wr => ∃ k : Nat, k ≤ ats.length ∧ ats.length - k ≤ gg ∧ s38 = .int .i64 k ∧ s37 = .bool ((ats.take k).any fun a => decide (a = (pg, wn))) ∧ Aside (Chg [] z12 wr))
                  case atStart => exact ⟨0, by omega, by omega, rfl, rfl, Chg.refl [] z12⟩
                  case round =>
                    obtain ⟨j, hj, hg, rfl, rfl, CW⟩ := hrel
                    have p12 := p11.chg_ CW.out (by simp); have s12 := s11.self CW.out
                    obtain ⟨p0_, p1_, p2_, p3_, p4_, p5_, p6_, _, _, _, _, _, _, _⟩ := blk7 p12
                    by_cases hjl : j < ats.length
                    · obtain ⟨ab, off, rfl, hab, hga, e0, e1⟩ := s12.get hjl
                      have hjz : (j : Int) < (ats.length : Int) := by omega
                      have hsn : Hid ((ats.take (j + 1)).any (fun a => decide (a = (pg, wn))) = ((ats.take j).any (fun a => decide (a = (pg, wn))) || decide (ats.getD j (0, 0) = (pg, wn)))) := by
                        show _ = _
                        rw [List.take_succ_eq_append_getElem hjl, List.any_append, List.getD_eq_getElem?_getD, List.getElem?_eq_getElem hjl]; simp
                      have hcmp := fun w9 => run_eqlA (ats.getD j (0, 0)).1 (ats.getD j (0, 0)).2 pg wn w9
                      rw [show eqA ((ats.getD j (0, 0)).1, (ats.getD j (0, 0)).2) (pg, wn) = decide (ats.getD j (0, 0) = (pg, wn)) from eqA_dec _ _] at hcmp
                      generalize hdd : decide (ats.getD j (0, 0) = (pg, wn)) = dd at *
                      generalize (ats.take j).any (fun a => decide (a = (pg, wn))) = tj at *
                      have a1 := e0; have a2 := e1
                      generalize (ats.getD j (0, 0)).1 = ag at *
                      generalize (ats.getD j (0, 0)).2 = ai at *
                      clear hdd hga
                      go_wp2_with fail
                      have Q0 := fun nq : Cls wr => nq.cell p0_
                      have Q1 := fun nq : Cls wr => nq.cell p1_
                      have E0 := fun nq : Cls wr => nq.cell e0
                      have E1 := fun nq : Cls wr => nq.cell e1
                      cases tj
                      case false =>
                        refine wp_region_cls (by kernel_rfl) (by kernel_rfl) ?_
                        repeat (go_big_quiet_step (fail))
                        refine wpQuiet_nil ?_
                        rintro _ ⟨n5, rfl⟩
                        have CW2 : Chg [] z12 n5.val := CW.out.trans n5.ok (by simp)
                        go_wp2_with fail
                        go_roundg (ats.length - (j + 1))
                        case measure => omega
                        case rel => exact ⟨j + 1, by omega, by omega, by go_num, by rw [hsn.out]; rfl, CW2⟩
                      case true =>
                        refine wp_region_cls (by kernel_rfl) (by kernel_rfl) ?_
                        repeat (go_big_quiet_step (fail))
                        refine wpQuiet_nil ?_
                        rintro _ ⟨n5, rfl⟩
                        have CW2 : Chg [] z12 n5.val := CW.out.trans n5.ok (by simp)
                        go_wp2_with fail
                        go_roundg (ats.length - (j + 1))
                        case measure => omega
                        case rel => exact ⟨j + 1, by omega, by omega, by go_num, by rw [hsn.out]; rfl, CW2⟩
                    · obtain rfl : j = ats.length := by omega
                      have o12 := o11.chg_ CW.out (by simp); have w12 := wnt.chg_ CW.out (by simp); have h12 := h10b.chg_ CW.out (by simp)
                      have hc12 := hc11.trans CW.out (by simp)
                      rw [List.take_length]
                      have hxv := HXV.out
                      generalize (ats.any fun a => decide (a = (pg, wn))) = ti at *
                      clear p11 s11 o11 wnt h10b hc11 p12 s12 hjl hj hg
                      obtain ⟨o0_, o1_, o2_, o3_, _, _, _, _⟩ := blk4 o12
                      obtain ⟨h0_, h1_, h2_, h3_, h4_, h5_, h6_, _, _, _, _, _, _, _⟩ := blk7 h12
                      obtain ⟨w0_, w1_, w2_, w3_, w4_, w5_, w6_, _, _, _, _, _, _, _⟩ := blk7 w12
                      have hq2 := fun w9 => run_eqH ⟨0, pn, pg, rw, ru, rx, false⟩ ⟨0, pn, pg, rw, ru, rx, false⟩ w9
                      simp only [Ht.eqb_self, Ht.v] at hq2
                      have K0 := fun nq : Cls wr => nq.cell o0_
                      have K1 := fun nq : Cls wr => nq.cell o1_
                      have K2 := fun nq : Cls wr => nq.cell o2_
                      have K3 := fun nq : Cls wr => nq.cell o3_
                      have M0 := fun nq : Cls wr => nq.cell h0_
                      have M1 := fun nq : Cls wr => nq.cell h1_
                      have M2 := fun nq : Cls wr => nq.cell h2_
                      have M3 := fun nq : Cls wr => nq.cell h3_
                      have M4 := fun nq : Cls wr => nq.cell h4_
                      have M5 := fun nq : Cls wr => nq.cell h5_
                      have M6 := fun nq : Cls wr => nq.cell h6_
                      have N0 := fun nq : Cls wr => nq.cell w0_
                      have N1 := fun nq : Cls wr => nq.cell w1_
                      have N2 := fun nq : Cls wr => nq.cell w2_
                      have N3 := fun nq : Cls wr => nq.cell w3_
                      have N4 := fun nq : Cls wr => nq.cell w4_
                      have N5 := fun nq : Cls wr => nq.cell w5_
                      have N6 := fun nq : Cls wr => nq.cell w6_
                      by_cases hxg : xv = gv
                      · subst hxg
                        clear hxv HXV hgw2
                        have hq : ∀ w9, (binOp .eql 37 (.agg #[.int .i64 0, .int .u64 xv, .int .i64 0, .int .u64 0]) (.agg #[.int .i64 0, .int .u64 xv, .int .i64 0, .int .u64 0])).run Tryz.prog w9 = .ok (.bool true) w9 := fun w9 => by rw [run_eqO, Ot.eqb_self]
                        go_wp2_with fail
                        refine wp_region_cls (by kernel_rfl) (by kernel_rfl) ?_
                        repeat (go_big_quiet_step (fail))
                        refine wpQuiet_nil ?_
                        rintro _ ⟨n5, rfl⟩
                        have hcz := hc12.trans n5.ok (by simp)
                        go_wp2_with fail
                        go_ret
                        exact ⟨rfl, hcz⟩
                      · have hti : ti = true := by cases ti with | false => exact absurd hxv.symm (by simpa using hxg) | true => rfl
                        subst hti
                        rw [if_pos rfl] at hxv
                        have hq : ∀ w9, (binOp .eql 37 (.agg #[.int .i64 0, .int .u64 xv, .int .i64 0, .int .u64 0]) (.agg #[.int .i64 0, .int .u64 gv, .int .i64 0, .int .u64 0])).run Tryz.prog w9 = .ok (.bool false) w9 := fun w9 => by rw [run_eqO, Ot.eqb_ne (by intro e; injection e with _ e; exact hxg e)]
                        have hq3 : ∀ w9, (binOp .eql 37 (.agg #[.int .i64 0, .int .u64 xv, .int .i64 0, .int .u64 0]) (.agg #[.int .i64 0, .int .u64 xv, .int .i64 0, .int .u64 0])).run Tryz.prog w9 = .ok (.bool true) w9 := fun w9 => by rw [run_eqO, Ot.eqb_self]
                        have hU := fun nq : Cls wr => (RUsed_any gv.toNat false nq.val (by omega)).mono fun e w' (h : _ ∧ nq.val = w') => (⟨h.1, h.2 ▸ Chg.refl [] nq.val⟩ : _ ∧ Chg [] nq.val w')
                        simp only [hgw2, show usedT gv.toNat false = usedN gv.toNat false from rfl, hxv] at hU
                        clear hxv HXV hgw2 hgw hxg
                        go_wp2_with fail
                        refine wp_region_cls (by kernel_rfl) (by kernel_rfl) ?_
                        repeat (go_big_quiet_step (first | (go_at_call 38; with_reducible exact Calls.cls (hU _))))
                        refine wpQuiet_nil ?_
                        rintro _ ⟨n5, rfl⟩
                        have hcz := hc12.trans n5.ok (by simp)
                        go_wp2_with fail
                        go_ret
                        exact ⟨rfl, hcz⟩
                case true =>
                  go_wp2_with fail
                  clear p0_ p1_ p2_ p3_ p4_ p5_ p6_
                  generalize ((z9.alloc (.cells #[.int .i64 0, .int .i64 pn, .int .i64 pg, .bool rw, .bool ru, .bool rx, .bool true] 45)).alloc (.cells #[.int .i64 0, .int .i64 pn, .int .i64 pg, .bool rw, .bool ru, .bool rx, .bool true] 45)) = z12 at *
                  go_loopg [37, 38] ats.length (fun gg s37 s38 wr => ∃ k : Nat, k ≤ ats.length ∧ ats.length - k ≤ gg ∧ s38 = .int .i64 k ∧ s37 = .bool ((ats.take k).any fun a => decide (a = (pg, wn))) ∧ Aside (Chg [] z12 wr))
                  case atStart => exact ⟨0, by omega, by omega, rfl, rfl, Chg.refl [] z12⟩
                  case round =>
                    obtain ⟨j, hj, hg, rfl, rfl, CW⟩ := hrel
                    have p12 := p11.chg_ CW.out (by simp); have s12 := s11.self CW.out
                    obtain ⟨p0_, p1_, p2_, p3_, p4_, p5_, p6_, _, _, _, _, _, _, _⟩ := blk7 p12
                    by_cases hjl : j < ats.length
                    · obtain ⟨ab, off, rfl, hab, hga, e0, e1⟩ := s12.get hjl
                      have hjz : (j : Int) < (ats.length : Int) := by omega
                      have hsn : Hid ((ats.take (j + 1)).any (fun a => decide (a = (pg, wn))) = ((ats.take j).any (fun a => decide (a = (pg, wn))) || decide (ats.getD j (0, 0) = (pg, wn)))) := by
                        show _ = _
                        rw [List.take_succ_eq_append_getElem hjl, List.any_append, List.getD_eq_getElem?_getD, List.getElem?_eq_getElem hjl]; simp
                      have hcmp := fun w9 => run_eqlA (ats.getD j (0, 0)).1 (ats.getD j (0, 0)).2 pg wn w9
                      rw [show eqA ((ats.getD j (0, 0)).1, (ats.getD j (0, 0)).2) (pg, wn) = decide (ats.getD j (0, 0) = (pg, wn)) from eqA_dec _ _] at hcmp
                      generalize hdd : decide (ats.getD j (0, 0) = (pg, wn)) = dd at *
                      generalize (ats.take j).any (fun a => decide (a = (pg, wn))) = tj at *
                      have a1 := e0; have a2 := e1
                      generalize (ats.getD j (0, 0)).1 = ag at *
                      generalize (ats.getD j (0, 0)).2 = ai at *
                      clear hdd hga
                      go_wp2_with fail
                      have Q0 := fun nq : Cls wr => nq.cell p0_
                      have Q1 := fun nq : Cls wr => nq.cell p1_
                      have E0 := fun nq : Cls wr => nq.cell e0
                      have E1 := fun nq : Cls wr => nq.cell e1
                      cases tj
                      case false =>
                        refine wp_region_cls (by kernel_rfl) (by kernel_rfl) ?_
                        repeat (go_big_quiet_step (fail))
                        refine wpQuiet_nil ?_
                        rintro _ ⟨n5, rfl⟩
                        have CW2 : Chg [] z12 n5.val := CW.out.trans n5.ok (by simp)
                        go_wp2_with fail
                        go_roundg (ats.length - (j + 1))
                        case measure => omega
                        case rel => exact ⟨j + 1, by omega, by omega, by go_num, by rw [hsn.out]; rfl, CW2⟩
                      case true =>
                        refine wp_region_cls (by kernel_rfl) (by kernel_rfl) ?_
                        repeat (go_big_quiet_step (fail))
                        refine wpQuiet_nil ?_
                        rintro _ ⟨n5, rfl⟩
                        have CW2 : Chg [] z12 n5.val := CW.out.trans n5.ok (by simp)
                        go_wp2_with fail
                        go_roundg (ats.length - (j + 1))
                        case measure => omega
                        case rel => exact ⟨j + 1, by omega, by omega, by go_num, by rw [hsn.out]; rfl, CW2⟩
                    · obtain rfl : j = ats.length := by omega
                      have o12 := o11.chg_ CW.out (by simp); have w12 := wnt.chg_ CW.out (by simp); have h12 := h10b.chg_ CW.out (by simp)
                      have hc12 := hc11.trans CW.out (by simp)
                      rw [List.take_length]
                      have hxv := HXV.out
                      generalize (ats.any fun a => decide (a = (pg, wn))) = ti at *
                      clear p11 s11 o11 wnt h10b hc11 p12 s12 hjl hj hg
                      obtain ⟨o0_, o1_, o2_, o3_, _, _, _, _⟩ := blk4 o12
                      obtain ⟨h0_, h1_, h2_, h3_, h4_, h5_, h6_, _, _, _, _, _, _, _⟩ := blk7 h12
                      obtain ⟨w0_, w1_, w2_, w3_, w4_, w5_, w6_, _, _, _, _, _, _, _⟩ := blk7 w12
                      have hq2 := fun w9 => run_eqH ⟨0, pn, pg, rw, ru, rx, true⟩ ⟨0, pn, pg, rw, ru, rx, true⟩ w9
                      simp only [Ht.eqb_self, Ht.v] at hq2
                      have K0 := fun nq : Cls wr => nq.cell o0_
                      have K1 := fun nq : Cls wr => nq.cell o1_
                      have K2 := fun nq : Cls wr => nq.cell o2_
                      have K3 := fun nq : Cls wr => nq.cell o3_
                      have M0 := fun nq : Cls wr => nq.cell h0_
                      have M1 := fun nq : Cls wr => nq.cell h1_
                      have M2 := fun nq : Cls wr => nq.cell h2_
                      have M3 := fun nq : Cls wr => nq.cell h3_
                      have M4 := fun nq : Cls wr => nq.cell h4_
                      have M5 := fun nq : Cls wr => nq.cell h5_
                      have M6 := fun nq : Cls wr => nq.cell h6_
                      have N0 := fun nq : Cls wr => nq.cell w0_
                      have N1 := fun nq : Cls wr => nq.cell w1_
                      have N2 := fun nq : Cls wr => nq.cell w2_
                      have N3 := fun nq : Cls wr => nq.cell w3_
                      have N4 := fun nq : Cls wr => nq.cell w4_
                      have N5 := fun nq : Cls wr => nq.cell w5_
                      have N6 := fun nq : Cls wr => nq.cell w6_
                      by_cases hxg : xv = gv
                      · subst hxg
                        clear hxv HXV hgw2
                        have hq : ∀ w9, (binOp .eql 37 (.agg #[.int .i64 0, .int .u64 xv, .int .i64 0, .int .u64 0]) (.agg #[.int .i64 0, .int .u64 xv, .int .i64 0, .int .u64 0])).run Tryz.prog w9 = .ok (.bool true) w9 := fun w9 => by rw [run_eqO, Ot.eqb_self]
                        go_wp2_with fail
                        refine wp_region_cls (by kernel_rfl) (by kernel_rfl) ?_
                        repeat (go_big_quiet_step (fail))
                        refine wpQuiet_nil ?_
                        rintro _ ⟨n5, rfl⟩
                        have hcz := hc12.trans n5.ok (by simp)
                        go_wp2_with fail
                        go_ret
                        exact ⟨rfl, hcz⟩
                      · have hti : ti = true := by cases ti with | false => exact absurd hxv.symm (by simpa using hxg) | true => rfl
                        subst hti
                        rw [if_pos rfl] at hxv
                        have hq : ∀ w9, (binOp .eql 37 (.agg #[.int .i64 0, .int .u64 xv, .int .i64 0, .int .u64 0]) (.agg #[.int .i64 0, .int .u64 gv, .int .i64 0, .int .u64 0])).run Tryz.prog w9 = .ok (.bool false) w9 := fun w9 => by rw [run_eqO, Ot.eqb_ne (by intro e; injection e with _ e; exact hxg e)]
                        have hq3 : ∀ w9, (binOp .eql 37 (.agg #[.int .i64 0, .int .u64 xv, .int .i64 0, .int .u64 0]) (.agg #[.int .i64 0, .int .u64 xv, .int .i64 0, .int .u64 0])).run Tryz.prog w9 = .ok (.bool true) w9 := fun w9 => by rw [run_eqO, Ot.eqb_self]
                        have hU := fun nq : Cls wr => (RUsed_any gv.toNat false nq.val (by omega)).mono fun e w' (h : _ ∧ nq.val = w') => (⟨h.1, h.2 ▸ Chg.refl [] nq.val⟩ : _ ∧ Chg [] nq.val w')
                        simp only [hgw2, show usedT gv.toNat false = usedN gv.toNat false from rfl, hxv] at hU
                        clear hxv HXV hgw2 hgw hxg
                        go_wp2_with fail
                        refine wp_region_cls (by kernel_rfl) (by kernel_rfl) ?_
                        repeat (go_big_quiet_step (first | (go_at_call 38; with_reducible exact Calls.cls (hU _))))
                        refine wpQuiet_nil ?_
                        rintro _ ⟨n5, rfl⟩
                        have hcz := hc12.trans n5.ok (by simp)
                        go_wp2_with fail
                        go_ret
                        exact ⟨rfl, hcz⟩
            · have hst := fresh_stop (n := 16) (L := L16) (v := v) HPR.out.1 HPR.out.2 HWR.out.1 HWR.out.2 ((walk_zero hr hh0).1 ▸ hr) hh0
              have hz := (walk_zero hr hh0).1
              subst hz
              rw [hst] at hAc
              simp only [Ot.cs] at hAc
              have hKn := fun F w9 (H9 : ModB w F w9 m t q S p L16 hh b 16 ⟨s.W, s.r, dropT (dropT s.T 0 pn) 0 pn⟩) => MKnown_b pn H9
              rw [show hasT (dropT (dropT s.T 0 pn) 0 pn) 0 pn = false from hasT_drop _ _] at hKn
              generalize getT (dropT (dropT s.T 0 pn) 0 pn) 0 pn = X at hKn
              obtain ⟨xa, xp, xf, xw, xu, xx, xd⟩ := X
              simp only [Ht.v] at hKn
              clear hst hr
              rw [show Pa.zero = ⟨[], 0, ⟨false, false, false⟩, false, false⟩ from rfl] at *
              simp only [pathV, List.length_nil] at *
              generalize hasG 16 L16 0 wn = gb at *
              generalize getG 16 s.W L16 0 wn = gv at *
              have hne0 : (how == 0) = false := by simpa using hh0
              generalize joinN pn wn = ja at *
              have hq : ∀ w9, (binOp .eql 37 (.agg #[.int .i64 how, .int .u64 0, .int .i64 code, .int .u64 ja]) (.agg #[.int .i64 how, .int .u64 0, .int .i64 code, .int .u64 ja])).run Tryz.prog w9 = .ok (.bool true) w9 := fun w9 => by rw [run_eqO, Ot.eqb_self]
              go_wp2_with fail
              refine (hJ _).mono ?_; rintro e z1 ⟨rfl, y1⟩
              have H1 := H.new y1.chg
              have hFo := fun F w9 (H9 : ModB w F w9 m t q S p L16 hh b 16 s) => MForget_b pn H9
              clear y1 H hH0 hJ
              go_wp2_with fail
              refine (hFo _ _ H1).mono ?_; rintro e z2 ⟨rfl, H2, _⟩
              clear H1 hFo
              go_wp2_with fail
              refine (hWk _ H2).mono ?_; rintro e z4 ⟨A1, c1, rfl, r4, l4, y4⟩
              (try simp only at r4 l4)
              have al := (Chg.refl [] z4).alloc (.cells #[.slice A1 0 c1, .int .i64 0, .bool false, .bool false, .bool false, .bool false, .bool false] 60)
              have y5 := y4.trans al (by simp)
              have H5 := H2.more (G := (Value.slice A1 0 c1).ownBlock.toList ++ [z4.heap.size]) y5 (by intro i hi; rw [List.mem_append] at hi; rcases hi with hi | hi; exact ⟨l4 i hi, by have := OwnA.lt r4 i hi; simp; omega⟩; simp at hi; subst hi; exact ⟨y4.size, by simp⟩)
              have s5 := (OwnA.sla r4).self al
              have hmem : ∀ g o, A1 = some ⟨g, o, none⟩ → g ∈ (Value.slice A1 0 c1).ownBlock.toList := fun g o e => by subst e; simp [Value.ownBlock]
              have p5 := Blk.new z4 60 #[.slice A1 0 c1, .int .i64 0, .bool false, .bool false, .bool false, .bool false, .bool false]
              clear H2 r4 l4 y4 al y5 hWk
              generalize (Value.slice A1 0 c1).ownBlock.toList = GA at *
              obtain ⟨p0_, p1_, p2_, p3_, p4_, p5_, p6_, _, _, _, _, _, _, _⟩ := blk7 p5
              go_wp2_with fail
              generalize z4.alloc (.cells #[.slice A1 0 c1, .int .i64 0, .bool false, .bool false, .bool false, .bool false, .bool false] 60) = z5 at *
              generalize z4.heap.size = gp at *
              refine (hG1 _ _ H5).mono ?_; rintro e z6 ⟨rfl, rfl⟩
              go_wp2_with fail
              refine (hAc _ _ H5).mono ?_; rintro e z7 ⟨rfl, H7, f7⟩
              have s7 := f7.sla s5 (fun g o e => by simp [hmem g o e])
              have p7 := f7.blk p5 (by simp)
              clear hAc H5 s5 p5 f7 p0_ p1_ p2_ p3_ p4_ p5_ p6_
              have al := (Chg.refl [] z7).alloc (.cells #[.int .i64 how, .int .u64 0, .int .i64 code, .int .u64 ja] 37)
              have H8 := H7.more (G := [z7.heap.size]) al (by intro i hi; simp at hi; subst hi; simp)
              have s8 := s7.self al
              have p8 := p7.chg_ al (by simp)
              have o8 := Blk.new z7 37 #[.int .i64 how, .int .u64 0, .int .i64 code, .int .u64 ja]
              clear H7 s7 p7 al
              go_wp2_with fail
              generalize z7.alloc (.cells #[.int .i64 how, .int .u64 0, .int .i64 code, .int .u64 ja] 37) = z8 at *
              generalize z7.heap.size = go at *
              refine (hKn _ _ H8).mono ?_; rintro e z9 ⟨rfl, y9⟩
              have al := (Chg.refl [] z9).alloc (.cells #[.int .i64 xa, .int .i64 xp, .int .i64 xf, .bool xw, .bool xu, .bool xx, .bool xd] 45)
              have y10 := y9.trans al (by simp)
              have H10 := H8.more (G := [z9.heap.size]) y10 (by intro i hi; simp at hi; subst hi; exact ⟨y9.size, by simp⟩)
              have s10 := s8.self y10
              have p10 := p8.chg_ y10 (by simp)
              have o10 := o8.chg_ y10 (by simp)
              have h10 := Blk.new z9 45 #[.int .i64 xa, .int .i64 xp, .int .i64 xf, .bool xw, .bool xu, .bool xx, .bool xd]
              clear H8 s8 p8 o8 y9 al y10 hKn
              obtain ⟨p0_, p1_, p2_, p3_, p4_, p5_, p6_, _, _, _, _, _, _, _⟩ := blk7 p10
              obtain ⟨o0_, o1_, o2_, o3_, _, _, _, _⟩ := blk4 o10
              obtain ⟨h0_, h1_, h2_, h3_, h4_, h5_, h6_, _, _, _, _, _, _, _⟩ := blk7 h10
              have hc := H10.c0
              clear H10 s10 p10 o10 h10
              go_wp2_with fail
              go_ret
              exact ⟨rfl, hc⟩

end Go.Proofs.YtedginkenmafmaaGreatDoor
