/-
  ModelTwo: the walk.
-/
import Derived.Test.YtedginkenmafmaaGreatDoorModelHead
import Derived.Test.YtedginkenmafmaaGreatDoorModelQ
import Derived.Test.YtedginkenmafmaaGreatDoorG4r
namespace Go.Proofs.YtedginkenmafmaaGreatDoor
open Go.RowKit Go.Shelf Go.Maps

set_option maxRecDepth 100000 in
set_option maxHeartbeats 40000000 in
theorem ModelTwo_walk (A : Option Addr) (ml c : Nat) (l : List Pu) (B : Option Addr) (no d : Nat) (ops : List OpM) (C : Option Addr) (nom e : Nat) (opsm : List OpM) (page : Int) (w : World) (h : SlP w A ml l) (ho : SlM w B no ops) (hom : SlM w C nom opsm) (hp0 : 0 ≤ page ∧ page ≤ 65535) (hE : ErrIn w) :
    Calls Tryz.prog 10 #[.slice A ml c, .slice B no d, .slice C nom e, .int .u16 page] w fun e w' => e = .returned (.bool true) ∧ Chg [] w w' := by
  have hwd := (made_wd l h.wf).1
  have hle := h.le
  have hlo := ho.le
  have hlom := hom.le
  have hpm : Int.tmod page 512 = page % 512 := Int.tmod_eq_emod_of_nonneg hp0.1
  have hpr : 0 ≤ page % 512 ∧ page % 512 < 512 := by omega
  generalize page % 512 = pn at *
  have hw1 : wrap64 pn = pn := by unfold wrap64; omega
  clear hp0 hpr
  go_enter Tryz.func10, Tryz.ntmps10
  go_wp2_with fail
  refine (Mohead_any _ hE).mono ?_; rintro e w1 ⟨rfl, k1⟩
  go_wp2_with fail
  refine (Made_at A ml c l _ (h.self k1)).mono ?_; rintro e w2 ⟨q, S, p, hh, b, rfl, k2, g2, hb⟩
  have k3 : Chg [] w w2 := k1.trans k2 (by simp)
  have hbw : w.heap.size ≤ b := Nat.le_trans k1.size hb
  generalize madeW l = W at *
  clear k1 k2 hb h
  by_cases hbigml : (ml : Int) > 600
  · go_wp2_with fail
    go_ret
    exact ⟨rfl, k3⟩
  · by_cases hbigno : (no : Int) > 200
    · go_wp2_with fail
      go_ret
      exact ⟨rfl, k3⟩
    · by_cases hbignom : (nom : Int) > 200
      · go_wp2_with fail
        go_ret
        exact ⟨rfl, k3⟩
      · go_wp2_with fail
        refine (MNew_b (w0 := w) (w := w2) (q := q) (S := S) (p := p) (L := L16) (h := hh) (b := b) (n := 16) 1 hE k3 W g2 hwd hbw).mono ?_; rintro e w3 ⟨m, t, rfl, H, _⟩
        clear k3 g2
        generalize hs0 : (⟨W, 1, []⟩ : Ms) = s0 at *
        go_wp2_with fail
        go_loopw [12] (fun i w' => ∃ k : Nat, k ≤ no ∧ i = .int .i64 k ∧ ModB w [] w' m t q S p L16 hh b 16 (runM 16 L16 s0 (ops.take k))) (fun i _ => no - (intOf i).toNat)
        case atStart => exact ⟨0, by omega, rfl, by simpa [runM] using H⟩
        case round =>
          clear H
          obtain ⟨k, hk, rfl, H⟩ := hrel
          by_cases hlt : k < no
          · obtain ⟨ob, off, o, rfl, _, hok, how, hc⟩ := (ho.new H.c0).get hlt
            obtain ⟨c0, c1, c2, c3, c4, c5, c6, c7⟩ := hc
            have hsn := Lib.hid (runM_succ (n := 16) (L := L16) (s := s0) hok)
            have hD := DoM_b o how H
            clear hok how
            obtain ⟨what, kind', user', a', v', g', i', page'⟩ := o
            simp only [OpM.val, Ot.cs] at *
            go_wp2_with fail
            refine hD.mono ?_; rintro e w4 ⟨rfl, H4, f4⟩
            clear hD c0 c1 c2 c3 c4 c5 c6 c7
            go_wp2_with fail
            go_roundw
            case rel => exact ⟨k + 1, by omega, by go_num, by rw [hsn.out]; exact H4⟩
            case measure => simp [intOf]; omega
          · obtain rfl : k = no := by omega
            rw [show ops.take k = ops from by rw [← ho.len, List.take_length]] at H
            clear hlt hk
            generalize hs : runM 16 L16 s0 ops = s at *
            have hsl : Hid (s.T.length ≤ 200) := by
              have := runM_len (n := 16) (L := L16) s0 ops
              rw [hs, ho.len] at this
              have h0 : s0.T.length = 0 := by rw [← hs0]; rfl
              show s.T.length ≤ 200
              omega
            have hKn := MKnown_b pn H
            clear hs hs0
            have HK := Lib.hid (Kn.refl pn s.T)
            generalize hX : getT s.T 0 pn = X at *
            have HX := Lib.hid hX
            generalize hU : hasT s.T 0 pn = U at *
            have HU := Lib.hid hU
            clear hX hU
            obtain ⟨xa, xp, xf, xw, xu, xx, xd⟩ := X
            simp only [Ht.v] at hKn
            go_wp2_with fail
            refine hKn.mono ?_; rintro z5 x5 ⟨rfl, y5⟩
            have al := (Chg.refl [] x5).alloc (.cells #[.int .i64 xa, .int .i64 xp, .int .i64 xf, .bool xw, .bool xu, .bool xx, .bool xd] 45)
            have y6 := y5.trans al (by simp)
            have H6 := H.more (G := [x5.heap.size]) y6 (by intro i hi; simp at hi; subst hi; exact ⟨y5.size, by simp⟩)
            have b6 := Blk.new x5 45 #[.int .i64 xa, .int .i64 xp, .int .i64 xf, .bool xw, .bool xu, .bool xx, .bool xd]
            clear hKn H y5 al y6
            go_wp2_with fail
            generalize x5.alloc (.cells #[.int .i64 xa, .int .i64 xp, .int .i64 xf, .bool xw, .bool xu, .bool xx, .bool xd] 45) = x6 at *
            generalize x5.heap.size = hb at *
            go_loopg [16] nom (fun gg s16 wr => ∃ (k : Nat) (s' : Ms), k ≤ nom ∧ nom - k ≤ gg ∧ s16 = .int .i64 k ∧ Aside (ModB w ([hb] ++ []) wr m t q S p L16 hh b 16 s') ∧ Aside (Blk wr hb 45 #[.int .i64 xa, .int .i64 xp, .int .i64 xf, .bool xw, .bool xu, .bool xx, .bool xd]) ∧ Aside (Kn pn s.T s'.T) ∧ Aside (s'.T.length ≤ 200 + k))
            case atStart => exact ⟨0, s, by omega, by omega, rfl, H6, b6, HK.out, hsl.out⟩
            case round =>
              obtain ⟨k, s', hk, hg, rfl, H, HB, HN, HL⟩ := hrel
              clear H6 b6 HK
              by_cases hlt : k < nom
              · obtain ⟨ob, off, o, rfl, _, hok, how, hc⟩ := (hom.new H.out.c0).get hlt
                obtain ⟨c0, c1, c2, c3, c4, c5, c6, c7⟩ := hc
                clear hok
                have hL5 : s'.T.length < 512 := by have := HL.out; omega
                have hKD := fun h6 h57 ha => Lib.hid (kn_do (n := 16) (L := L16) (s := s') (g := pn) (o := o) hL5 h6 h57 ha)
                have hLD := Lib.hid (doM_len (n := 16) (L := L16) s' o)
                have hDo := fun w9 (H9 : ModB w _ w9 m t q S p L16 hh b 16 s') => DoM_b (F := [wr.heap.size, hb] ++ []) o how H9
                have hoa := how.a
                obtain ⟨what, kind', user', a', v', g', i', page'⟩ := o
                simp only [OpM.val, Ot.cs] at *
                have hPg := fun w9 => RPage_any a' w9 hoa
                clear hL5 how hoa
                generalize hd : doM 16 L16 s' ⟨what, kind', user', a', v', g', i', page'⟩ = dd at *
                clear hd
                obtain ⟨s8, ⟨oh, ov, oc, oa⟩⟩ := dd
                simp only at *
                have al := (Chg.refl [] wr).alloc (.cells #[.int .i64 what, .int .i64 kind', .bool user', .int .u64 a', .int .u64 v', .int .i64 g', .int .i64 i', .int .i64 page'] 35)
                have b7 := Blk.new wr 35 #[.int .i64 what, .int .i64 kind', .bool user', .int .u64 a', .int .u64 v', .int .i64 g', .int .i64 i', .int .i64 page']
                have hb7 := HB.out.chg_ al (by simp)
                have H7 := H.out.more (G := [wr.heap.size]) al (by intro i hi; simp at hi; subst hi; simp)
                have H0 := H.out.new al
                clear al
                obtain ⟨q0, q1, q2, q3, q4, q5, q6, q7⟩ := blk8 b7
                by_cases h6 : what = 6
                · subst h6
                  clear hDo hKD hLD H7
                  have H9 := H0; have B9 := hb7
                  clear H0 hb7 hPg
                  go_wp2_with fail
                  go_roundg (nom - (k + 1))
                  case measure => omega
                  case rel => exact ⟨k + 1, s', by omega, by omega, by go_num, H9, B9, HN.out, (by show s'.T.length ≤ 200 + (k + 1); have := HL.out; omega)⟩
                by_cases h5 : what = 5
                · subst h5
                  by_cases hpp : page' = pn
                  · subst hpp
                    clear hDo hKD hLD H7
                    have H9 := H0; have B9 := hb7
                    clear H0 hb7 hPg
                    go_wp2_with fail
                    go_roundg (nom - (k + 1))
                    case measure => omega
                    case rel => exact ⟨k + 1, s', by omega, by omega, by go_num, H9, B9, HN.out, (by show s'.T.length ≤ 200 + (k + 1); have := HL.out; omega)⟩
                  · have hpb : (page' == pn) = false := by simpa using hpp
                    have hKE := Lib.hid (hKD (by decide) (fun _ => hpp) (by omega))
                    clear H0 hKD
                    have H9 := H7; have B9 := hb7
                    clear H7 hb7 hPg
                    go_wp2_with fail
                    refine (hDo _ H9).mono ?_; rintro e8 x9 ⟨rfl, H10, f10⟩
                    have B10 := f10.blk B9 (by simp)
                    have H10 := H10.less (G := [hb] ++ []) (fun i hi => by simp at hi; simp [hi])
                    clear hDo H9 B9 f10 q0 q1 q2 q3 q4 q5 q6 q7
                    go_wp2_with fail
                    go_roundg (nom - (k + 1))
                    case measure => omega
                    case rel => exact ⟨k + 1, s8, by omega, by omega, by go_num, H10, B10, (HN.out.trans hKE.out.out), (by show s8.T.length ≤ 200 + (k + 1); have h1 := HL.out; have h2 : s8.T.length ≤ s'.T.length + 1 := hLD.out; omega)⟩
                by_cases h7 : what = 7
                · subst h7
                  by_cases hpp : page' = pn
                  · subst hpp
                    clear hDo hKD hLD H7
                    have H9 := H0; have B9 := hb7
                    clear H0 hb7 hPg
                    go_wp2_with fail
                    go_roundg (nom - (k + 1))
                    case measure => omega
                    case rel => exact ⟨k + 1, s', by omega, by omega, by go_num, H9, B9, HN.out, (by show s'.T.length ≤ 200 + (k + 1); have := HL.out; omega)⟩
                  · have hpb : (page' == pn) = false := by simpa using hpp
                    have hKE := Lib.hid (hKD (by decide) (fun _ => hpp) (by omega))
                    clear H0 hKD
                    have H9 := H7; have B9 := hb7
                    clear H7 hb7 hPg
                    go_wp2_with fail
                    refine (hDo _ H9).mono ?_; rintro e8 x9 ⟨rfl, H10, f10⟩
                    have B10 := f10.blk B9 (by simp)
                    have H10 := H10.less (G := [hb] ++ []) (fun i hi => by simp at hi; simp [hi])
                    clear hDo H9 B9 f10 q0 q1 q2 q3 q4 q5 q6 q7
                    go_wp2_with fail
                    go_roundg (nom - (k + 1))
                    case measure => omega
                    case rel => exact ⟨k + 1, s8, by omega, by omega, by go_num, H10, B10, (HN.out.trans hKE.out.out), (by show s8.T.length ≤ 200 + (k + 1); have h1 := HL.out; have h2 : s8.T.length ≤ s'.T.length + 1 := hLD.out; omega)⟩
                by_cases h4 : what = 4
                · subst h4
                  have hKE := Lib.hid (hKD (by decide) (by omega) (by omega))
                  clear H0 hKD
                  have H9 := H7; have B9 := hb7
                  clear H7 hb7 hPg
                  go_wp2_with fail
                  refine (hDo _ H9).mono ?_; rintro e8 x9 ⟨rfl, H10, f10⟩
                  have B10 := f10.blk B9 (by simp)
                  have H10 := H10.less (G := [hb] ++ []) (fun i hi => by simp at hi; simp [hi])
                  clear hDo H9 B9 f10 q0 q1 q2 q3 q4 q5 q6 q7
                  go_wp2_with fail
                  go_roundg (nom - (k + 1))
                  case measure => omega
                  case rel => exact ⟨k + 1, s8, by omega, by omega, by go_num, H10, B10, (HN.out.trans hKE.out.out), (by show s8.T.length ≤ 200 + (k + 1); have h1 := HL.out; have h2 : s8.T.length ≤ s'.T.length + 1 := hLD.out; omega)⟩
                by_cases hlo4 : what < 4
                · by_cases hpp : (pageN a' : Int) = pn
                  · subst hpp
                    clear hDo hKD hLD H7
                    go_wp2_with fail
                    refine (hPg _).mono ?_; rintro e8 x8 ⟨rfl, y8⟩
                    have H9 := H0.new y8.chg; have B9 := hb7.chg_ y8.chg (by simp)
                    clear H0 hb7 y8 hPg b7 q0 q1 q2 q3 q4 q5 q6 q7
                    go_wp2_with fail
                    go_roundg (nom - (k + 1))
                    case measure => omega
                    case rel => exact ⟨k + 1, s', by omega, by omega, by go_num, H9, B9, HN.out, (by show s'.T.length ≤ 200 + (k + 1); have := HL.out; omega)⟩
                  · have hpb : ((pageN a' : Int) == pn) = false := by simpa using hpp
                    have hKE := Lib.hid (hKD h6 (by omega) (fun _ => hpp))
                    clear H0 hKD
                    go_wp2_with fail
                    refine (hPg _).mono ?_; rintro e8 x8 ⟨rfl, y8⟩
                    have H9 := H7.new y8.chg; have B9 := hb7.chg_ y8.chg (by simp); have b9 := b7.chg_ y8.chg (by simp)
                    clear H7 hb7 y8 hPg b7 q0 q1 q2 q3 q4 q5 q6 q7
                    obtain ⟨q0, q1, q2, q3, q4, q5, q6, q7⟩ := blk8 b9
                    go_wp2_with fail
                    refine (hDo _ H9).mono ?_; rintro e8 x9 ⟨rfl, H10, f10⟩
                    have B10 := f10.blk B9 (by simp)
                    have H10 := H10.less (G := [hb] ++ []) (fun i hi => by simp at hi; simp [hi])
                    clear hDo H9 B9 f10 q0 q1 q2 q3 q4 q5 q6 q7
                    go_wp2_with fail
                    go_roundg (nom - (k + 1))
                    case measure => omega
                    case rel => exact ⟨k + 1, s8, by omega, by omega, by go_num, H10, B10, (HN.out.trans hKE.out.out), (by show s8.T.length ≤ 200 + (k + 1); have h1 := HL.out; have h2 : s8.T.length ≤ s'.T.length + 1 := hLD.out; omega)⟩
                have hhi7 : what > 7 := by omega
                by_cases hpp : (pageN a' : Int) = pn
                · subst hpp
                  clear hDo hKD hLD H7
                  go_wp2_with fail
                  refine (hPg _).mono ?_; rintro e8 x8 ⟨rfl, y8⟩
                  have H9 := H0.new y8.chg; have B9 := hb7.chg_ y8.chg (by simp)
                  clear H0 hb7 y8 hPg b7 q0 q1 q2 q3 q4 q5 q6 q7
                  go_wp2_with fail
                  go_roundg (nom - (k + 1))
                  case measure => omega
                  case rel => exact ⟨k + 1, s', by omega, by omega, by go_num, H9, B9, HN.out, (by show s'.T.length ≤ 200 + (k + 1); have := HL.out; omega)⟩
                · have hpb : ((pageN a' : Int) == pn) = false := by simpa using hpp
                  have hKE := Lib.hid (hKD h6 (by omega) (fun _ => hpp))
                  clear H0 hKD
                  go_wp2_with fail
                  refine (hPg _).mono ?_; rintro e8 x8 ⟨rfl, y8⟩
                  have H9 := H7.new y8.chg; have B9 := hb7.chg_ y8.chg (by simp); have b9 := b7.chg_ y8.chg (by simp)
                  clear H7 hb7 y8 hPg b7 q0 q1 q2 q3 q4 q5 q6 q7
                  obtain ⟨q0, q1, q2, q3, q4, q5, q6, q7⟩ := blk8 b9
                  go_wp2_with fail
                  refine (hDo _ H9).mono ?_; rintro e8 x9 ⟨rfl, H10, f10⟩
                  have B10 := f10.blk B9 (by simp)
                  have H10 := H10.less (G := [hb] ++ []) (fun i hi => by simp at hi; simp [hi])
                  clear hDo H9 B9 f10 q0 q1 q2 q3 q4 q5 q6 q7
                  go_wp2_with fail
                  go_roundg (nom - (k + 1))
                  case measure => omega
                  case rel => exact ⟨k + 1, s8, by omega, by omega, by go_num, H10, B10, (HN.out.trans hKE.out.out), (by show s8.T.length ≤ 200 + (k + 1); have h1 := HL.out; have h2 : s8.T.length ≤ s'.T.length + 1 := hLD.out; omega)⟩
              · obtain rfl : k = nom := by omega
                have hKn := MKnown_b pn H.out
                rw [HN.out.get, HN.out.has, HX.out, HU.out] at hKn
                simp only [Ht.v] at hKn
                have H1 := H.out; have B1 := HB.out
                clear H HB HN HL hlt hk hg
                have hq := fun w9 => run_neH ⟨xa, xp, xf, xw, xu, xx, xd⟩ ⟨xa, xp, xf, xw, xu, xx, xd⟩ w9
                simp only [Ht.eqb_self, Ht.v, Bool.not_true] at hq
                obtain ⟨p0, p1, p2, p3, p4, p5, p6, _, _, _, _, _, _, _⟩ := blk7 B1
                go_wp2_with fail
                refine hKn.mono ?_; rintro e8 x8 ⟨rfl, y8⟩
                have al := (Chg.refl [] x8).alloc (.cells #[.int .i64 xa, .int .i64 xp, .int .i64 xf, .bool xw, .bool xu, .bool xx, .bool xd] 45)
                have y9 := y8.trans al (by simp)
                have H9 := H1.new y9
                have B9 := B1.chg_ y9 (by simp)
                have b9 := Blk.new x8 45 #[.int .i64 xa, .int .i64 xp, .int .i64 xf, .bool xw, .bool xu, .bool xx, .bool xd]
                clear hKn H1 B1 y8 al y9 p0 p1 p2 p3 p4 p5 p6
                obtain ⟨p0, p1, p2, p3, p4, p5, p6, _, _, _, _, _, _, _⟩ := blk7 B9
                obtain ⟨r0, r1, r2, r3, r4, r5, r6, _, _, _, _, _, _, _⟩ := blk7 b9
                have hRt := MRoot_b 1 H9
                have hKn := fun w9 (H9 : ModB w ([hb] ++ []) w9 m t q S p L16 hh b 16 (rootM s' 1)) => MKnown_b pn H9
                rw [show getT (rootM s' 1).T 0 pn = Ht.zero from rfl, show hasT (rootM s' 1).T 0 pn = false from rfl] at hKn
                simp only [Ht.v, Ht.zero] at hKn
                cases U
                case false =>
                  go_wp2_with fail
                  refine hRt.mono ?_; rintro e8 x10 ⟨rfl, H10, f10⟩
                  clear hRt p0 p1 p2 p3 p4 p5 p6 r0 r1 r2 r3 r4 r5 r6
                  go_wp2_with fail
                  refine (hKn _ H10).mono ?_; rintro e8 x11 ⟨rfl, y11⟩
                  have hc := H10.c0.trans y11 (by simp)
                  clear hKn H10 y11
                  go_wp2_with fail
                  go_ret
                  exact ⟨rfl, hc.alloc _⟩
                case true =>
                  go_wp2_with fail
                  refine hRt.mono ?_; rintro e8 x10 ⟨rfl, H10, f10⟩
                  clear hRt p0 p1 p2 p3 p4 p5 p6 r0 r1 r2 r3 r4 r5 r6
                  go_wp2_with fail
                  refine (hKn _ H10).mono ?_; rintro e8 x11 ⟨rfl, y11⟩
                  have hc := H10.c0.trans y11 (by simp)
                  clear hKn H10 y11
                  go_wp2_with fail
                  go_ret
                  exact ⟨rfl, hc.alloc _⟩

end Go.Proofs.YtedginkenmafmaaGreatDoor
