/-
  ModelMemory: the walk.
-/
import Derived.Test.YtedginkenmafmaaGreatDoorModelHead
import Derived.Test.YtedginkenmafmaaGreatDoorModelT
import Derived.Test.YtedginkenmafmaaGreatDoorG4r
import Derived.Deep.CutRange
namespace Go.Proofs.YtedginkenmafmaaGreatDoor
open Go.RowKit Go.Shelf Go.Maps

theorem MWords16_b {w0 w : World} {F : List Nat} {m t q p h b : Nat} {S : List Nat} {s : Ms} (H : ModB w0 F w m t q S p L16 h b 16 s) : Calls Tryz.prog 32 #[.pointer (some ⟨q, 0, none⟩)] w fun e w' =>
    ∃ g c, e = .returned (.slice (some ⟨g, 0, none⟩) 128 c) ∧ ModB w0 (g :: F) w' m t q S p L16 h b 16 s ∧ Chg [] w w' ∧ SlU w' (some ⟨g, 0, none⟩) 128 (allG s.W L16) ∧ w.heap.size ≤ g := MWords_b H
theorem slu_cell {w : World} {g n : Nat} {xs : List Int} (h : SlU w (some ⟨g, 0, none⟩) n xs) {k : Nat} (hk : k < n) : w.cell? ⟨g, k, none⟩ = some (.int .u64 (xs.getD k 0)) := by
  obtain ⟨b, off, e, _, hr⟩ := h.at_ (by omega)
  injection e with e; injection e with e1 e2
  subst e1; subst e2
  have hl := h.len
  have := hr k _ (List.getElem?_eq_getElem (by omega))
  rw [Nat.zero_add] at this
  rw [this, List.getD_eq_getElem?_getD, List.getElem?_eq_getElem (by omega)]; rfl

set_option maxRecDepth 100000 in
set_option maxHeartbeats 40000000 in
theorem ModelMemory_walk (A : Option Addr) (ml c : Nat) (l : List Pu) (root : Int) (B : Option Addr) (no d : Nat) (ops : List OpM) (w : World) (h : SlP w A ml l) (hr0 : 0 ≤ root ∧ root ≤ 255) (ho : SlM w B no ops) (hE : ErrIn w) :
    Calls Tryz.prog 5 #[.slice A ml c, .int .u8 root, .slice B no d] w fun e w' => e = .returned (.bool true) ∧ Chg [] w w' := by
  have hwd := (made_wd l h.wf).1
  have hle := h.le
  have hlo := ho.le
  have hrm : Int.tmod root 16 = root % 16 := Int.tmod_eq_emod_of_nonneg hr0.1
  have hrr : 0 ≤ root % 16 ∧ root % 16 < 16 := by omega
  generalize root % 16 = rn at *
  have hw4 : wrap64 rn = rn := by unfold wrap64; omega
  clear hr0 hrr
  go_enter Tryz.func5, Tryz.ntmps5
  go_wp2_with fail
  refine (Mohead_any _ hE).mono ?_; rintro e w1 ⟨rfl, k1⟩
  go_wp2_with fail
  refine (Made_at A ml c l _ (h.self k1)).mono ?_; rintro e w2 ⟨q, S, p, hh, b, rfl, k2, g2, hb⟩
  have k3 : Chg [] w w2 := k1.trans k2 (by simp)
  have hbw : w.heap.size ≤ b := Nat.le_trans k1.size hb
  generalize madeW l = W at *
  clear k1 k2 hb h
  by_cases hbigml : (ml : Int) > 600
  · go_wp2_with fail
    go_ret
    exact ⟨rfl, k3⟩
  · by_cases hbigno : (no : Int) > 200
    · go_wp2_with fail
      go_ret
      exact ⟨rfl, k3⟩
    · go_wp2_with fail
      refine (MNew_b (w0 := w) (w := w2) (q := q) (S := S) (p := p) (L := L16) (h := hh) (b := b) (n := 16) rn hE k3 W g2 hwd hbw).mono ?_; rintro e w3 ⟨m, t, rfl, H, _⟩
      clear k3 g2
      generalize hs0 : (⟨W, rn, []⟩ : Ms) = s0 at *
      go_wp2_with fail
      have hr1 : s0.r = rn := by rw [← hs0]
      clear hs0
      go_loopg [9, 11] no (fun gg s9 s11 wr => ∃ (k : Nat) (s : Ms), k ≤ no ∧ no - k ≤ gg ∧ s11 = .int .i64 k ∧ s9 = .int .i64 s.r ∧ Aside (ModB w [] wr m t q S p L16 hh b 16 s))
      case atStart => exact ⟨0, s0, by omega, by omega, rfl, by rw [hr1], H⟩
      case round =>
        clear H hr1
        obtain ⟨j0, s, hj, hg, rfl, rfl, H⟩ := hrel
        by_cases hlt : j0 < no
        · obtain ⟨ob, off, o, rfl, _, hok, how, hc⟩ := (ho.new H.out.c0).get hlt
          obtain ⟨c0, c1, c2, c3, c4, c5, c6, c7⟩ := hc
          clear hok
          have hltz : (j0 : Int) < (no : Int) := by omega
          have hMem := Lib.hid (fun (k : Nat) (hk : k < 128) => mem_do (k := k) H.out.ok o hk)
          have hR := Lib.hid (doM_r (n := 16) (L := L16) s o)
          have hDo := fun F w9 (H9 : ModB w F w9 m t q S p L16 hh b 16 s) => DoM_b o how H9
          have hoa := how.a
          clear how
          obtain ⟨what, kd, us, a, v, g', i', page'⟩ := o
          simp only [OpM.val, Ot.cs] at *
          have hPg := fun w9 => RPage_any a w9 hoa
          have hWd := fun w9 => (RWord_any a w9 hoa).mono fun e w' (h : _ ∧ Dr w9 w') => (⟨h.1, h.2.chg⟩ : _ ∧ Chg [] w9 w')
          cases hr : walkP 16 s.W L16 s.r (pageN a) kd us with
          | mk P hcc =>
            obtain ⟨hw, code⟩ := hcc
            have hlen := walk_len hr
            have hlen3 : P.ats.length ≤ 3 := hlen
            have hWk := fun F w9 (H9 : ModB w F w9 m t q S p L16 hh b 16 s) => H9.walk (pageN a) kd us P hw code hr w9 (Chg.refl [] w9)
            have hKn := fun F w9 (H9 : ModB w F w9 m t q S p L16 hh b 16 s) => MKnown_b (pageN a : Int) H9
            have hhit : Hid (hasT s.T 0 (pageN a) = true → 0 ≤ (getT s.T 0 (pageN a)).f ∧ (getT s.T 0 (pageN a)).f < 16) := Lib.hid (fun h => by have := H.out.ok.hits _ (getT_mem h).1; rw [L16_len] at this; exact this.2)
            have hpath : Hid (hw = 0 → (0 ≤ P.g ∧ P.g < 16) ∧ allAts 16 L16 P.ats = true) := Lib.hid (fun h => by subst h; have h2 := done_of hr; have h3 := h2.2.2.2; rw [L16_len] at h3; exact ⟨⟨path_g0 h2.2.1, h3⟩, path_has h2.2.1⟩)
            have hzero : Hid (hw ≠ 0 → P.ats = []) := Lib.hid (fun h => by rw [(walk_zero hr h).1]; rfl)
            have hMem := fun k hk h => Lib.hid (hMem.out k hk h)
            simp only [wordB, hr] at hMem
            generalize hX : getT s.T 0 (pageN a) = X at *
            generalize hU : hasT s.T 0 (pageN a) = U at *
            clear hX hU
            generalize hd : doM 16 L16 s ⟨what, kd, us, a, v, g', i', page'⟩ = dd at *
            clear hd
            obtain ⟨s8, ⟨oh, ov, oc, oa⟩⟩ := dd
            clear hr
            obtain ⟨ats, pg, ⟨rw, ru, rx⟩, lg, dy⟩ := P
            obtain ⟨xa, xp, xf, xw, xu, xx, xd⟩ := X
            simp only [pathV, Ht.v] at *
            have al := (Chg.refl [] wr).alloc (.cells #[.int .i64 what, .int .i64 kd, .bool us, .int .u64 a, .int .u64 v, .int .i64 g', .int .i64 i', .int .i64 page'] 35)
            have b1 := Blk.new wr 35 #[.int .i64 what, .int .i64 kd, .bool us, .int .u64 a, .int .u64 v, .int .i64 g', .int .i64 i', .int .i64 page']
            have H1 := H.out.more (G := [wr.heap.size]) al (by intro i hi; simp at hi; subst hi; simp)
            clear H al
            go_wp2_with fail
            generalize wr.alloc (.cells #[.int .i64 what, .int .i64 kd, .bool us, .int .u64 a, .int .u64 v, .int .i64 g', .int .i64 i', .int .i64 page'] 35) = z1 at *
            generalize wr.heap.size = gb at *
            refine (MWords16_b H1).mono ?_; rintro e z2 ⟨g2, d2, rfl, H2, y2, su2, hg2⟩
            have b2 := b1.chg_ y2 (by simp)
            clear H1 b1 y2 hg2
            obtain ⟨q0, q1, q2, q3, q4, q5, q6, q7⟩ := blk8 b2
            go_wp2_with fail
            refine (hPg _).mono ?_; rintro e z3 ⟨rfl, y3⟩
            have y3 := y3.chg
            have H3 := H2.new y3; have b3 := b2.chg_ y3 (by simp); have su3 := su2.chg y3 (by simp)
            clear H2 b2 su2 y3 hPg q0 q1 q2 q3 q4 q5 q6 q7
            obtain ⟨q0, q1, q2, q3, q4, q5, q6, q7⟩ := blk8 b3
            go_wp2_with fail
            refine (hWk _ _ H3).mono ?_; rintro e z4 ⟨A1, c1, rfl, r4, l4, y4⟩
            have al := (Chg.refl [] z4).alloc (.cells #[.slice A1 ats.length c1, .int .i64 pg, .bool rw, .bool ru, .bool rx, .bool lg, .bool dy] 60)
            have y5 := y4.trans al (by simp)
            have H5 := H3.more (G := (Value.slice A1 ats.length c1).ownBlock.toList ++ [z4.heap.size]) y5 (by intro i hi; rw [List.mem_append] at hi; rcases hi with hi | hi; exact ⟨l4 i hi, by have := OwnA.lt r4 i hi; simp; omega⟩; simp at hi; subst hi; exact ⟨y4.size, by simp⟩)
            have b5 := b3.chg_ y5 (by simp)
            have su5 := su3.chg y5 (by simp)
            have s5 := (OwnA.sla r4).self al
            have hmem : ∀ g o, A1 = some ⟨g, o, none⟩ → g ∈ (Value.slice A1 ats.length c1).ownBlock.toList := fun g o e => by subst e; simp [Value.ownBlock]
            have p5 := Blk.new z4 60 #[.slice A1 ats.length c1, .int .i64 pg, .bool rw, .bool ru, .bool rx, .bool lg, .bool dy]
            clear H3 b3 su3 r4 l4 y4 al y5 hWk q0 q1 q2 q3 q4 q5 q6 q7
            generalize (Value.slice A1 ats.length c1).ownBlock.toList = GA at *
            go_wp2_with fail
            generalize z4.alloc (.cells #[.slice A1 ats.length c1, .int .i64 pg, .bool rw, .bool ru, .bool rx, .bool lg, .bool dy] 60) = z5 at *
            generalize z4.heap.size = gp at *
            refine (hKn _ _ H5).mono ?_; rintro e z6 ⟨rfl, y6⟩
            have al := (Chg.refl [] z6).alloc (.cells #[.int .i64 xa, .int .i64 xp, .int .i64 xf, .bool xw, .bool xu, .bool xx, .bool xd] 45)
            have y7 := y6.trans al (by simp)
            have H7 := H5.more (G := [z6.heap.size]) y7 (by intro i hi; simp at hi; subst hi; exact ⟨y6.size, by simp⟩)
            have b7 := b5.chg_ y7 (by simp)
            have su7 := su5.chg y7 (by simp)
            have s7 := s5.self y7
            have p7 := p5.chg_ y7 (by simp)
            have h7 := Blk.new z6 45 #[.int .i64 xa, .int .i64 xp, .int .i64 xf, .bool xw, .bool xu, .bool xx, .bool xd]
            clear H5 b5 su5 s5 p5 y6 al y7 hKn
            obtain ⟨q0, q1, q2, q3, q4, q5, q6, q7⟩ := blk8 b7
            go_wp2_with fail
            generalize z6.alloc (.cells #[.int .i64 xa, .int .i64 xp, .int .i64 xf, .bool xw, .bool xu, .bool xx, .bool xd] 45) = z7 at *
            generalize z6.heap.size = gh at *
            refine (hDo _ _ H7).mono ?_; rintro e z8 ⟨rfl, H8, f8⟩
            have b8 := f8.blk b7 (by simp)
            have su8 := f8.slu su7 (fun g o e => by injection e with e; injection e with e; simp [← e])
            have s8' := f8.sla s7 (fun g o e => by simp [hmem g o e])
            have p8 := f8.blk p7 (by simp)
            have h8 := f8.blk h7 (by simp)
            clear H7 b7 su7 s7 p7 h7 f8 hDo q0 q1 q2 q3 q4 q5 q6 q7
            have al := (Chg.refl [] z8).alloc (.cells #[.int .i64 oh, .int .u64 ov, .int .i64 oc, .int .u64 oa] 37)
            have o9 := Blk.new z8 37 #[.int .i64 oh, .int .u64 ov, .int .i64 oc, .int .u64 oa]
            have H9 := H8.new al
            have b9 := b8.chg_ al (by simp)
            have su9 := su8.chg al (by simp)
            have s9 := s8'.self al
            have p9 := p8.chg_ al (by simp)
            have h9 := h8.chg_ al (by simp)
            clear H8 b8 su8 s8' p8 h8 al
            go_wp2_with fail
            generalize z8.alloc (.cells #[.int .i64 oh, .int .u64 ov, .int .i64 oc, .int .u64 oa] 37) = z9 at *
            generalize z8.heap.size = gx at *
            refine (MWords16_b H9).mono ?_; rintro e z10 ⟨g10, d10, rfl, H10, y10, v10, _⟩
            have b10 := b9.chg_ y10 (by simp); have su10 := su9.chg y10 (by simp); have s10 := s9.self y10; have p10 := p9.chg_ y10 (by simp); have h10 := h9.chg_ y10 (by simp); have o10 := o9.chg_ y10 (by simp)
            clear H9 b9 su9 s9 p9 h9 o9 y10 hmem
            have H10 := H10.less (G := []) (by simp)
            obtain ⟨q0, q1, q2, q3, q4, q5, q6, q7⟩ := blk8 b10
            have hbds : Hid (∀ z, z < ats.length → (0 ≤ (ats.getD z (0, 0)).1 ∧ (ats.getD z (0, 0)).1 < 16) ∧ (0 ≤ (ats.getD z (0, 0)).2 ∧ (ats.getD z (0, 0)).2 < 8)) := Lib.hid (fun z hz => by
              by_cases h0 : hw = 0
              · have := allAts_get (hpath.out h0).2 hz; rw [hasG_16, decide_eq_true_eq] at this; omega
              · rw [hzero.out h0] at hz; simp at hz)
            by_cases h6 : what = 6
            · as_aux_lemma =>
                subst h6
                go_wp2_with fail
                go_loopg [22] 128 (fun gg s22 wr => ∃ k : Nat, k ≤ 128 ∧ 128 - k ≤ gg ∧ s22 = .int .i64 k ∧ Aside (Chg [] z10 wr))
                case atStart => exact ⟨0, by omega, by omega, rfl, Chg.refl [] z10⟩
                case round =>
                  clear q0 q1 q2 q3 q4 q5 q6 q7
                  obtain ⟨k, hk, hkg, rfl, CW⟩ := hrel
                  by_cases hkl : k < 128
                  · have w1 := slu_cell (su10.chg CW.out (by simp)) hkl
                    have w2 := slu_cell (v10.chg CW.out (by simp)) hkl
                    have hmm := hMem k hkl
                    have hkz : (k : Int) < 128 := by omega
                    generalize (allG s.W L16).getD k 0 = ak at *
                    generalize (allG s8.W L16).getD k 0 = bk at *
                    have W1 := fun nq : Cls wr => nq.cell w1
                    have W2 := fun nq : Cls wr => nq.cell w2
                    by_cases hab : bk = ak
                    · subst hab
                      clear hmm
                      go_wp2_with fail
                      refine wp_region_cls (by kernel_rfl) (by kernel_rfl) ?_
                      repeat (go_big_quiet_step (fail))
                      refine wpQuiet_nil ?_
                      rintro _ ⟨n5, rfl⟩
                      have CW2 : Chg [] z10 n5.val := CW.out.trans n5.ok (by simp)
                      go_wp2_with fail
                      go_roundg (128 - (k + 1))
                      case measure => omega
                      case rel => exact ⟨k + 1, by omega, by omega, by go_num, CW2⟩
                    · have hab2 : (bk == ak) = false := by simpa using hab
                      obtain ⟨m1, m5, m6, m7, m4, mw⟩ := (hmm hab).out
                      exact absurd rfl m6
                  · have hk128 := Lib.hid (show k = 128 by omega)
                    have hkz : ¬ ((k : Int) < 128) := by omega
                    have H12 := H10.new CW.out
                    go_wp2_with fail
                    go_roundg (no - (j0 + 1))
                    case measure => omega
                    case rel => exact ⟨j0 + 1, s8, by omega, by omega, by go_num, by have h := hR.out; simp only [if_true] at h; rw [h], H12⟩
            · have hb6 : (what == 6) = false := by simpa using h6
              (try rw [hb6])
              go_wp2_with fail
              go_loopg [22] 128 (fun gg s22 wr => ∃ k : Nat, k ≤ 128 ∧ 128 - k ≤ gg ∧ s22 = .int .i64 k ∧ Aside (Chg [] z10 wr))
              case atStart => exact ⟨0, by omega, by omega, rfl, Chg.refl [] z10⟩
              case round =>
                clear q0 q1 q2 q3 q4 q5 q6 q7
                obtain ⟨k, hk, hkg, rfl, CW⟩ := hrel
                by_cases hkl : k < 128
                · have w1 := slu_cell (su10.chg CW.out (by simp)) hkl
                  have w2 := slu_cell (v10.chg CW.out (by simp)) hkl
                  have hmm := hMem k hkl
                  have hkz : (k : Int) < 128 := by omega
                  generalize hak : (allG s.W L16).getD k 0 = ak at *
                  replace hak := Lib.hid hak
                  generalize hbk : (allG s8.W L16).getD k 0 = bk at *
                  replace hbk := Lib.hid hbk
                  have W1 := fun nq : Cls wr => nq.cell w1
                  have W2 := fun nq : Cls wr => nq.cell w2
                  by_cases hab : bk = ak
                  · subst hab
                    clear hmm
                    go_wp2_with fail
                    refine wp_region_cls (by kernel_rfl) (by kernel_rfl) ?_
                    repeat (go_big_quiet_step (fail))
                    refine wpQuiet_nil ?_
                    rintro _ ⟨n5, rfl⟩
                    have CW2 : Chg [] z10 n5.val := CW.out.trans n5.ok (by simp)
                    go_wp2_with fail
                    go_roundg (128 - (k + 1))
                    case measure => omega
                    case rel => exact ⟨k + 1, by omega, by omega, by go_num, CW2⟩
                  have hab2 : (bk == ak) = false := by simpa using hab
                  obtain ⟨m1, m5, m6, m7, m4, mw⟩ := (hmm hab).out
                  clear hmm
                  subst m1
                  go_wp2_with fail
                  refine wp_region_cls (by kernel_rfl) (by kernel_rfl) ?_
                  repeat (go_big_quiet_step (fail))
                  refine wpQuiet_nil ?_
                  rintro _ ⟨n5, rfl⟩
                  have CW2 : Chg [] z10 n5.val := CW.out.trans n5.ok (by simp)
                  generalize n5.val = w5 at *
                  clear w1 w2 W1 W2 CW
                  have b11 := b10.chg_ CW2 (by simp)
                  have o11 := o10.chg_ CW2 (by simp)
                  obtain ⟨q0, q1, q2, q3, q4, q5, q6, q7⟩ := blk8 b11
                  obtain ⟨r0, r1, r2, r3, _, _, _, _⟩ := blk4 o11
                  by_cases h4 : what = 4
                  · subst h4
                    obtain ⟨e1, e2, e3, e4, e5⟩ := m4 rfl
                    clear m4 mw m5 m6 m7
                    have hne4 : ((k : Int) != 8 * g' + i') = false := by simp [e1]
                    clear e1
                    go_wp2_with fail
                    go_roundg (128 - (k + 1))
                    case measure => omega
                    case rel => exact ⟨k + 1, by omega, by omega, by go_num, CW2⟩
                  have hb5 : (what == 5) = false := by simpa using m5
                  have hb6 : (what == 6) = false := by simpa using m6
                  have hb7 : (what == 7) = false := by simpa using m7
                  have hb4 : (what == 4) = false := by simpa using h4
                  have mw := mw h4
                  clear m4
                  have MW := Lib.hid mw
                  clear mw
                  generalize hkb : (kd == 1) = kb at *
                  generalize hhb : (hw == 0) = hbv at *
                  generalize he1 : ((k : Int) == 8 * pg + (wordN a : Int)) = e1 at *
                  generalize he2 : ((k : Int) == 8 * xf + (wordN a : Int)) = e2 at *
                  have p11 := p10.chg_ CW2 (by simp)
                  have h11 := h10.chg_ CW2 (by simp)
                  have s11 := s10.self CW2
                  have v11 := v10.chg CW2 (by simp)
                  have su11 := su10.chg CW2 (by simp)
                  obtain ⟨p0_, p1_, p2_, p3_, p4_, p5_, p6_, _, _, _, _, _, _, _⟩ := blk7 p11
                  obtain ⟨h0_, h1_, h2_, h3_, h4_, h5_, h6_, _, _, _, _, _, _, _⟩ := blk7 h11
                  have hpgr : Hid (hbv = true → 0 ≤ pg ∧ pg < 16) := Lib.hid (fun h => by rw [← hhb] at h; exact (hpath.out (by simpa using h)).1)
                  have hwlt : (wordN a : Int) < 8 ∧ 0 ≤ (wordN a : Int) := by have := word_lt a; omega
                  go_upto_region 32 with fail
                  go_cut [23] from 103 to 252 (fun wv wx => wv = .bool (kb && ((hbv && e1) || (U && e2))) ∧ Chg [] w5 wx)
                  case first =>
                    as_aux_lemma =>
                      have Q0 := fun nq : Cls w5 => nq.cell q0
                      have Q1 := fun nq : Cls w5 => nq.cell q1
                      have Q2 := fun nq : Cls w5 => nq.cell q2
                      have Q3 := fun nq : Cls w5 => nq.cell q3
                      have Q4 := fun nq : Cls w5 => nq.cell q4
                      have Q5 := fun nq : Cls w5 => nq.cell q5
                      have Q6 := fun nq : Cls w5 => nq.cell q6
                      have Q7 := fun nq : Cls w5 => nq.cell q7
                      have P1 := fun nq : Cls w5 => nq.cell p1_
                      have X2 := fun nq : Cls w5 => nq.cell h2_
                      have hW5 := fun nq : Cls w5 => hWd nq.val
                      clear hWd q0 q1 q2 q3 q4 q5 q6 q7 r0 r1 r2 r3 p0_ p1_ p2_ p3_ p4_ p5_ p6_ h0_ h1_ h2_ h3_ h4_ h5_ h6_ MW hMem
                      generalize (wordN a : Int) = wn at *
                      cases kb
                      case false =>
                        refine wp_region_cls (by kernel_rfl) (by kernel_rfl) ?_
                        repeat (go_big_quiet_step (first | (go_at_call 40; with_reducible exact Calls.cls (hW5 _))))
                        refine wpQuiet_nil ?_
                        rintro _ ⟨n6, rfl⟩
                        go_wp2_with fail
                        go_meet
                        exact ⟨by simp, n6.ok⟩
                      case true =>
                        cases hbv
                        case false =>
                          cases U
                          case false =>
                            refine wp_region_cls (by kernel_rfl) (by kernel_rfl) ?_
                            repeat (go_big_quiet_step (first | (go_at_call 40; with_reducible exact Calls.cls (hW5 _))))
                            refine wpQuiet_nil ?_
                            rintro _ ⟨n6, rfl⟩
                            go_wp2_with fail
                            go_meet
                            exact ⟨by simp, n6.ok⟩
                          case true =>
                            have hx2 := hhit.out rfl
                            refine wp_region_cls (by kernel_rfl) (by kernel_rfl) ?_
                            repeat (go_big_quiet_step (first | (go_at_call 40; with_reducible exact Calls.cls (hW5 _))))
                            refine wpQuiet_nil ?_
                            rintro _ ⟨n6, rfl⟩
                            go_wp2_with fail
                            go_meet
                            exact ⟨by simp, n6.ok⟩
                        case true =>
                          have hpg2 := hpgr.out rfl
                          cases e1
                          case true =>
                            refine wp_region_cls (by kernel_rfl) (by kernel_rfl) ?_
                            repeat (go_big_quiet_step (first | (go_at_call 40; with_reducible exact Calls.cls (hW5 _))))
                            refine wpQuiet_nil ?_
                            rintro _ ⟨n6, rfl⟩
                            go_wp2_with fail
                            go_meet
                            exact ⟨by simp, n6.ok⟩
                          case false =>
                            cases U
                            case false =>
                              refine wp_region_cls (by kernel_rfl) (by kernel_rfl) ?_
                              repeat (go_big_quiet_step (first | (go_at_call 40; with_reducible exact Calls.cls (hW5 _))))
                              refine wpQuiet_nil ?_
                              rintro _ ⟨n6, rfl⟩
                              go_wp2_with fail
                              go_meet
                              exact ⟨by simp, n6.ok⟩
                            case true =>
                              have hx2 := hhit.out rfl
                              refine wp_region_cls (by kernel_rfl) (by kernel_rfl) ?_
                              repeat (go_big_quiet_step (first | (go_at_call 40; with_reducible exact Calls.cls (hW5 _))))
                              refine wpQuiet_nil ?_
                              rintro _ ⟨n6, rfl⟩
                              go_wp2_with fail
                              go_meet
                              exact ⟨by simp, n6.ok⟩
                  case rest =>
                    obtain ⟨rfl, C6⟩ := hcut
                    have CW6 : Chg [] z10 wc := CW2.trans C6 (by simp)
                    have MW := MW.out
                    generalize (kb && ((hbv && e1) || (U && e2))) = wb at *
                    have MWH := Lib.hid MW
                    clear MW he1 he2 hhb hpgr
                    have b12 := b11.chg_ C6 (by simp)
                    have p12 := p11.chg_ C6 (by simp)
                    have s12 := s11.self C6
                    have v12 := v11.chg C6 (by simp)
                    have su12 := su11.chg C6 (by simp)
                    clear q0 q1 q2 q3 q4 q5 q6 q7 r0 r1 r2 r3 p0_ p1_ p2_ p3_ p4_ p5_ p6_ h0_ h1_ h2_ h3_ h4_ h5_ h6_ b11 p11 s11 v11 su11 h11 o11
                    go_wp2_with fail
                    go_loopg [24, 25] ats.length (fun gg s24 s25 wr => ∃ z : Nat, z ≤ ats.length ∧ ats.length - z ≤ gg ∧ s25 = .int .i64 z ∧ s24 = .bool (usedB ak bk kb ats k z) ∧ Aside (Chg [] wc wr))
                    case atStart => exact ⟨0, by omega, by omega, rfl, rfl, Chg.refl [] wc⟩
                    case round =>
                      obtain ⟨z, hz, hzg, rfl, rfl, CV⟩ := hrel
                      have p13 := p12.chg_ CV.out (by simp)
                      have b13 := b12.chg_ CV.out (by simp)
                      have s13 := s12.self CV.out
                      obtain ⟨p0_, p1_, p2_, p3_, p4_, p5_, p6_, _, _, _, _, _, _, _⟩ := blk7 p13
                      obtain ⟨q0, q1, q2, q3, q4, q5, q6, q7⟩ := blk8 b13
                      by_cases hzl : z < ats.length
                      · have t1_ := slu_cell (su12.chg CV.out (by simp)) hkl
                        have t2_ := slu_cell (v12.chg CV.out (by simp)) hkl
                        rw [hak.out] at t1_
                        rw [hbk.out] at t2_
                        have hkz : (k : Int) < 128 := by omega
                        obtain ⟨ab, off, rfl, _, _, e0_, e1_⟩ := s13.get hzl
                        have hzz : (z : Int) < (ats.length : Int) := by omega
                        have hbd := hbds.out z hzl
                        have HSU := Lib.hid (usedB_succ ak bk kb ats k z)
                        generalize usedB ak bk kb ats k z = tj at *
                        generalize (ats.getD z (0, 0)).1 = ag at *
                        generalize (ats.getD z (0, 0)).2 = ai at *
                        have hsub : wrap64 ((ats.length : Int) - 1) = (ats.length : Int) - 1 := by unfold wrap64; omega
                        have E0 := fun nq : Cls wr => nq.cell e0_
                        have E1 := fun nq : Cls wr => nq.cell e1_
                        have P0 := fun nq : Cls wr => nq.cell p0_
                        have T1 := fun nq : Cls wr => nq.cell t1_
                        have T2 := fun nq : Cls wr => nq.cell t2_
                        cases kb
                        case false =>
                          as_aux_lemma =>
                            have HS2 : Hid (usedB ak bk false ats k (z + 1) = (tj || (((k : Int) == 8 * ag + ai) && (bits .andNot .u64 bk 32 == bits .andNot .u64 ak 32 && (bits .and .u64 bk ak == ak))))) := Lib.hid (by have h := HSU.out; rw [show bitJ false ats.length z = 32 from rfl] at h; exact h)
                            clear HSU
                            generalize hc1 : ((k : Int) == 8 * ag + ai) = c1 at *
                            generalize hx1 : bits .andNot .u64 bk 32 = x1 at *
                            generalize hx2 : bits .andNot .u64 ak 32 = x2 at *
                            generalize hx3 : bits .and .u64 bk ak = x3 at *
                            generalize hc2 : (x1 == x2) = cc2 at *
                            generalize hc3 : (x3 == ak) = cc3 at *
                            go_wp2_with fail
                            cases tj
                            case true =>
                              refine wp_region_cls (by kernel_rfl) (by kernel_rfl) ?_
                              repeat (go_big_quiet_step (fail))
                              refine wpQuiet_nil ?_
                              rintro _ ⟨n7, rfl⟩
                              have CV2 : Chg [] wc n7.val := CV.out.trans n7.ok (by simp)
                              go_wp2_with fail
                              go_roundg (ats.length - (z + 1))
                              case measure => omega
                              case rel => exact ⟨z + 1, by omega, by omega, by go_num, by rw [HS2.out]; simp, CV2⟩
                            case false =>
                              cases c1
                              case false =>
                                refine wp_region_cls (by kernel_rfl) (by kernel_rfl) ?_
                                repeat (go_big_quiet_step (fail))
                                refine wpQuiet_nil ?_
                                rintro _ ⟨n7, rfl⟩
                                have CV2 : Chg [] wc n7.val := CV.out.trans n7.ok (by simp)
                                go_wp2_with fail
                                go_roundg (ats.length - (z + 1))
                                case measure => omega
                                case rel => exact ⟨z + 1, by omega, by omega, by go_num, by rw [HS2.out]; simp, CV2⟩
                              case true =>
                                cases cc2
                                case false =>
                                  refine wp_region_cls (by kernel_rfl) (by kernel_rfl) ?_
                                  repeat (go_big_quiet_step (fail))
                                  refine wpQuiet_nil ?_
                                  rintro _ ⟨n7, rfl⟩
                                  have CV2 : Chg [] wc n7.val := CV.out.trans n7.ok (by simp)
                                  go_wp2_with fail
                                  go_roundg (ats.length - (z + 1))
                                  case measure => omega
                                  case rel => exact ⟨z + 1, by omega, by omega, by go_num, by rw [HS2.out]; simp, CV2⟩
                                case true =>
                                  refine wp_region_cls (by kernel_rfl) (by kernel_rfl) ?_
                                  repeat (go_big_quiet_step (fail))
                                  refine wpQuiet_nil ?_
                                  rintro _ ⟨n7, rfl⟩
                                  have CV2 : Chg [] wc n7.val := CV.out.trans n7.ok (by simp)
                                  go_wp2_with fail
                                  go_roundg (ats.length - (z + 1))
                                  case measure => omega
                                  case rel => exact ⟨z + 1, by omega, by omega, by go_num, by rw [HS2.out]; simp, CV2⟩
                        case true =>
                          by_cases hlast : (z : Int) = (ats.length : Int) - 1
                          · have hlb : ((z : Int) == (ats.length : Int) - 1) = true := by simpa using hlast
                            have hbJ : bitJ true ats.length z = 96 := by unfold bitJ; rw [show decide (z + 1 = ats.length) = true from decide_eq_true (by omega)]; rfl
                            clear hlast
                            as_aux_lemma =>
                              have HS2 : Hid (usedB ak bk true ats k (z + 1) = (tj || (((k : Int) == 8 * ag + ai) && (bits .andNot .u64 bk 96 == bits .andNot .u64 ak 96 && (bits .and .u64 bk ak == ak))))) := Lib.hid (by have h := HSU.out; rw [show bitJ true ats.length z = 96 from hbJ] at h; exact h)
                              clear HSU hbJ
                              generalize hc1 : ((k : Int) == 8 * ag + ai) = c1 at *
                              generalize hx1 : bits .andNot .u64 bk 96 = x1 at *
                              generalize hx2 : bits .andNot .u64 ak 96 = x2 at *
                              generalize hx3 : bits .and .u64 bk ak = x3 at *
                              generalize hc2 : (x1 == x2) = cc2 at *
                              generalize hc3 : (x3 == ak) = cc3 at *
                              go_wp2_with fail
                              cases tj
                              case true =>
                                refine wp_region_cls (by kernel_rfl) (by kernel_rfl) ?_
                                repeat (go_big_quiet_step (fail))
                                refine wpQuiet_nil ?_
                                rintro _ ⟨n7, rfl⟩
                                have CV2 : Chg [] wc n7.val := CV.out.trans n7.ok (by simp)
                                go_wp2_with fail
                                go_roundg (ats.length - (z + 1))
                                case measure => omega
                                case rel => exact ⟨z + 1, by omega, by omega, by go_num, by rw [HS2.out]; simp, CV2⟩
                              case false =>
                                cases c1
                                case false =>
                                  refine wp_region_cls (by kernel_rfl) (by kernel_rfl) ?_
                                  repeat (go_big_quiet_step (fail))
                                  refine wpQuiet_nil ?_
                                  rintro _ ⟨n7, rfl⟩
                                  have CV2 : Chg [] wc n7.val := CV.out.trans n7.ok (by simp)
                                  go_wp2_with fail
                                  go_roundg (ats.length - (z + 1))
                                  case measure => omega
                                  case rel => exact ⟨z + 1, by omega, by omega, by go_num, by rw [HS2.out]; simp, CV2⟩
                                case true =>
                                  cases cc2
                                  case false =>
                                    refine wp_region_cls (by kernel_rfl) (by kernel_rfl) ?_
                                    repeat (go_big_quiet_step (fail))
                                    refine wpQuiet_nil ?_
                                    rintro _ ⟨n7, rfl⟩
                                    have CV2 : Chg [] wc n7.val := CV.out.trans n7.ok (by simp)
                                    go_wp2_with fail
                                    go_roundg (ats.length - (z + 1))
                                    case measure => omega
                                    case rel => exact ⟨z + 1, by omega, by omega, by go_num, by rw [HS2.out]; simp, CV2⟩
                                  case true =>
                                    refine wp_region_cls (by kernel_rfl) (by kernel_rfl) ?_
                                    repeat (go_big_quiet_step (fail))
                                    refine wpQuiet_nil ?_
                                    rintro _ ⟨n7, rfl⟩
                                    have CV2 : Chg [] wc n7.val := CV.out.trans n7.ok (by simp)
                                    go_wp2_with fail
                                    go_roundg (ats.length - (z + 1))
                                    case measure => omega
                                    case rel => exact ⟨z + 1, by omega, by omega, by go_num, by rw [HS2.out]; simp, CV2⟩
                          · have hlb : ((z : Int) == (ats.length : Int) - 1) = false := by simpa using hlast
                            have hbJ : bitJ true ats.length z = 32 := by unfold bitJ; rw [show decide (z + 1 = ats.length) = false from decide_eq_false (by omega)]; rfl
                            clear hlast
                            as_aux_lemma =>
                              have HS2 : Hid (usedB ak bk true ats k (z + 1) = (tj || (((k : Int) == 8 * ag + ai) && (bits .andNot .u64 bk 32 == bits .andNot .u64 ak 32 && (bits .and .u64 bk ak == ak))))) := Lib.hid (by have h := HSU.out; rw [show bitJ true ats.length z = 32 from hbJ] at h; exact h)
                              clear HSU hbJ
                              generalize hc1 : ((k : Int) == 8 * ag + ai) = c1 at *
                              generalize hx1 : bits .andNot .u64 bk 32 = x1 at *
                              generalize hx2 : bits .andNot .u64 ak 32 = x2 at *
                              generalize hx3 : bits .and .u64 bk ak = x3 at *
                              generalize hc2 : (x1 == x2) = cc2 at *
                              generalize hc3 : (x3 == ak) = cc3 at *
                              go_wp2_with fail
                              cases tj
                              case true =>
                                refine wp_region_cls (by kernel_rfl) (by kernel_rfl) ?_
                                repeat (go_big_quiet_step (fail))
                                refine wpQuiet_nil ?_
                                rintro _ ⟨n7, rfl⟩
                                have CV2 : Chg [] wc n7.val := CV.out.trans n7.ok (by simp)
                                go_wp2_with fail
                                go_roundg (ats.length - (z + 1))
                                case measure => omega
                                case rel => exact ⟨z + 1, by omega, by omega, by go_num, by rw [HS2.out]; simp, CV2⟩
                              case false =>
                                cases c1
                                case false =>
                                  refine wp_region_cls (by kernel_rfl) (by kernel_rfl) ?_
                                  repeat (go_big_quiet_step (fail))
                                  refine wpQuiet_nil ?_
                                  rintro _ ⟨n7, rfl⟩
                                  have CV2 : Chg [] wc n7.val := CV.out.trans n7.ok (by simp)
                                  go_wp2_with fail
                                  go_roundg (ats.length - (z + 1))
                                  case measure => omega
                                  case rel => exact ⟨z + 1, by omega, by omega, by go_num, by rw [HS2.out]; simp, CV2⟩
                                case true =>
                                  cases cc2
                                  case false =>
                                    refine wp_region_cls (by kernel_rfl) (by kernel_rfl) ?_
                                    repeat (go_big_quiet_step (fail))
                                    refine wpQuiet_nil ?_
                                    rintro _ ⟨n7, rfl⟩
                                    have CV2 : Chg [] wc n7.val := CV.out.trans n7.ok (by simp)
                                    go_wp2_with fail
                                    go_roundg (ats.length - (z + 1))
                                    case measure => omega
                                    case rel => exact ⟨z + 1, by omega, by omega, by go_num, by rw [HS2.out]; simp, CV2⟩
                                  case true =>
                                    refine wp_region_cls (by kernel_rfl) (by kernel_rfl) ?_
                                    repeat (go_big_quiet_step (fail))
                                    refine wpQuiet_nil ?_
                                    rintro _ ⟨n7, rfl⟩
                                    have CV2 : Chg [] wc n7.val := CV.out.trans n7.ok (by simp)
                                    go_wp2_with fail
                                    go_roundg (ats.length - (z + 1))
                                    case measure => omega
                                    case rel => exact ⟨z + 1, by omega, by omega, by go_num, by rw [HS2.out]; simp, CV2⟩
                      · obtain rfl : z = ats.length := by omega
                        have MW := MWH.out
                        clear MWH
                        generalize usedB ak bk kb ats k ats.length = ub at *
                        have CZ : Chg [] z10 wr := CW6.trans CV.out (by simp)
                        cases wb
                        case true =>
                          clear MW
                          go_wp2_with fail
                          go_roundg (128 - (k + 1))
                          case measure => omega
                          case rel => exact ⟨k + 1, by omega, by omega, by go_num, CZ⟩
                        case false =>
                          have hub : ub = true := by simpa using MW
                          subst hub
                          clear MW
                          go_wp2_with fail
                          go_roundg (128 - (k + 1))
                          case measure => omega
                          case rel => exact ⟨k + 1, by omega, by omega, by go_num, CZ⟩
                · have hk128 := Lib.hid (show k = 128 by omega)
                  have hkz : ¬ ((k : Int) < 128) := by omega
                  have H12 := H10.new CW.out
                  go_wp2_with fail
                  go_roundg (no - (j0 + 1))
                  case measure => omega
                  case rel => exact ⟨j0 + 1, s8, by omega, by omega, by go_num, by have h := hR.out; rw [if_neg h6] at h; rw [h], H12⟩
        · obtain rfl : j0 = no := by omega
          have hcz := H.out.c0
          clear H
          go_wp2_with fail
          go_ret
          exact ⟨rfl, hcz⟩

end Go.Proofs.YtedginkenmafmaaGreatDoor
