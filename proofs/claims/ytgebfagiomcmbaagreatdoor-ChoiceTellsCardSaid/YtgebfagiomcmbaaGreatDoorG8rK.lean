/-
  WalkR1, WalkR2, WalkR3 in one text.
-/
import Derived.Test.YtgebfagiomcmbaaGreatDoorG8cK
import Derived.Test.YtgebfagiomcmbaaGreatDoorG7K
import Derived.Test.YtgebfagiomcmbaaGreatDoorG4rK
import Derived.Test.YtgebfagiomcmbaaGreatDoorG1K
namespace Go.Proofs.YtgebfagiomcmbaaGreatDoor
open Go.RowKit Go.Maps

theorem blk9 {w : World} {g : Nat} {t : TypeId} {x0 x1 x2 x3 x4 x5 x6 x7 x8 : Value} (h : Blk w g t #[x0, x1, x2, x3, x4, x5, x6, x7, x8]) : w.cell? ⟨g, 0, none⟩ = some x0 ∧ w.cell? ⟨g, 1, none⟩ = some x1 ∧ w.cell? ⟨g, 2, none⟩ = some x2 ∧ w.cell? ⟨g, 3, none⟩ = some x3 ∧ w.cell? ⟨g, 4, none⟩ = some x4 ∧ w.cell? ⟨g, 5, none⟩ = some x5 ∧ w.cell? ⟨g, 6, none⟩ = some x6 ∧ w.cell? ⟨g, 7, none⟩ = some x7 ∧ w.cell? ⟨g, 8, none⟩ = some x8 :=
  ⟨h.cell 0, h.cell 1, h.cell 2, h.cell 3, h.cell 4, h.cell 5, h.cell 6, h.cell 7, h.cell 8⟩

theorem run_step {rd : Int → Int → Option Nat} {page g k ix : Int} {lv : Nat} {E : Ent} {pats : List (Int × Int)} {a b c : Bool} {R : Except Nat Pa} (hk : k = (lv : Int) + 1)
    (h : R = runW page ((⟨k, g, ix, E, none⟩ : It) :: if (⟨k, g, ix, E, none⟩ : It).err.isSome || (⟨k, g, ix, E, none⟩ : It).last then [] else seqW rd page lv (⟨k, g, ix, E, none⟩ : It).e.f) ⟨pats, 0, ⟨a, b, c⟩, false, false⟩) :
    (E.s = true → R = .ok ⟨pats ++ [(g, ix)], wrap64 (E.f + idxI page 1), ⟨a && E.w, b && E.u, c && !E.n⟩, true, E.d⟩) ∧
    (E.s = false → lv = 0 → R = .ok ⟨pats ++ [(g, ix)], E.f, ⟨a && E.w, b && E.u, c && !E.n⟩, false, E.d⟩) ∧
    (E.s = false → lv ≠ 0 → R = runW page (seqW rd page lv E.f) ⟨pats ++ [(g, ix)], 0, ⟨a && E.w, b && E.u, c && !E.n⟩, false, false⟩) := by
  refine ⟨fun hs => ?_, fun hs hl => ?_, fun hs hl => ?_⟩
  · have hlast : (⟨k, g, ix, E, none⟩ : It).last = true := by simp [It.last, hs]
    rw [h, runW, hlast]; simp [runW, accP, hlast, hs, Rg.and, ofE]
  · have hlast : (⟨k, g, ix, E, none⟩ : It).last = true := by subst hl; simp [It.last, hk]
    rw [h, runW, hlast]; simp [runW, accP, hlast, hs, Rg.and, ofE]
  · have hlast : (⟨k, g, ix, E, none⟩ : It).last = false := by simp [It.last, hs]; omega
    rw [h, runW, hlast]; simp [accP, hlast, Rg.and, ofE]
theorem flatA_snoc (l : List (Int × Int)) (g i : Int) : flatA (l ++ [(g, i)]) = flatA l ++ [.int .i64 g, .int .i64 i] := by simp [flatA]

set_option maxRecDepth 100000 in
set_option maxHeartbeats 40000000 in
theorem RWalk_at (q : Nat) (S : List Nat) (p : Nat) (L : List Int) (h b n : Nat) (W : List Int) (root page kind : Int) (user : Bool) (w : World) (gu : RGuIn w q S p L h b n W) (hW : WdW W) :
    Calls Tryz.prog 59 #[.pointer (some ⟨q, 0, none⟩), .int .i64 root, .int .i64 page, .int .i64 kind, .bool user] w (WalkR w (walkP n W L root page kind user)) := by
  have hR0 := Blk.new w 108 #[.slice none 0 0, .int .i64 0, .bool false, .bool false, .bool false, .bool false, .bool false]
  have hc0 := (Chg.refl [] w).alloc (.cells #[.slice none 0 0, .int .i64 0, .bool false, .bool false, .bool false, .bool false, .bool false] 108)
  have HWP : Hid (walkP n W L root page kind user = outP kind user (grantP L.length kind user (pathP (rdG n W L) page root))) := Lib.hid rfl
  have HPP : Hid (pathP (rdG n W L) page root = runW page (seqW (rdG n W L) page 3 root) Pa.start) := Lib.hid rfl
  obtain ⟨i0, hi0, hz0, hz1, hz2⟩ := info_parts At.info
  have hIdx := fun (l : Int) (w0 : World) => (RIdx_any page l w0).mono fun e w' (h : _ ∧ Dr w0 w') => (⟨h.1, h.2.chg⟩ : _ ∧ Chg [] w0 w')
  go_enter Tryz.func59, Tryz.ntmps59
  go_wp2_with fail
  refine (RAll_any _).mono ?_; rintro e w1 ⟨rfl, k1⟩
  have hR1 := (hR0.chg_ k1 (by simp)).alloc (.cells #[.slice none 0 0, .int .i64 0, .bool true, .bool true, .bool true, .bool false, .bool false] 108)
  have hP1 := Blk.new w1 108 #[.slice none 0 0, .int .i64 0, .bool true, .bool true, .bool true, .bool false, .bool false]
  have hc1 := (hc0.trans k1 (by simp)).alloc (.cells #[.slice none 0 0, .int .i64 0, .bool true, .bool true, .bool true, .bool false, .bool false] 108)
  have hlt := (hR0.chg_ k1 (by simp)).lt
  clear hR0 hc0 k1
  unfold Rg.all Rg.cs
  go_wp2_with fail
  generalize w1.alloc (.cells #[.slice none 0 0, .int .i64 0, .bool true, .bool true, .bool true, .bool false, .bool false] 108) = w2 at *
  generalize hpb : w1.heap.size = pb at *
  generalize hmm : w.heap.size = m at *
  have hne : m ≠ pb := by omega
  obtain ⟨R, hR⟩ : ∃ R, R = pathP (rdG n W L) page root := ⟨_, rfl⟩
  rw [← hR] at HWP HPP
  clear hR
  go_loopw [14, 15] (fun gs ls w' => ∃ (lv : Nat) (g : Int) (pats : List (Int × Int)) (r : Rg) (d : Bool) (v : Value), lv ≤ 3 ∧ gs = .int .i64 g ∧ ls = .int .i64 lv ∧ pats.length + lv = 3 ∧ Chg [] w w' ∧ Blk w' m 108 #[.slice none 0 0, .int .i64 0, .bool false, .bool false, .bool false, .bool false, .bool false] ∧ Blk w' pb 108 #[v, .int .i64 0, .bool r.w, .bool r.u, .bool r.x, .bool false, .bool d] ∧ w'.ownsRow m 158 2 v pats.length (flatA pats) ∧ m ≤ w'.heap.size ∧
      ((1 ≤ lv ∧ R = runW page (seqW (rdG n W L) page lv g) ⟨pats, 0, r, false, false⟩) ∨ (lv = 0 ∧ R = .ok ⟨pats, g, r, false, d⟩ ∧ 0 ≤ g ∧ g < 1048576))) (fun _ ls _ => (intOf ls).toNat)
  case atStart => exact ⟨3, root, [], Rg.all, false, .slice none 0 0, by omega, rfl, rfl, rfl, hc1, hR1, hP1, World.ownsRow_nil _ _ _ _, by have := hR1.lt; omega, .inl ⟨by omega, HPP.out⟩⟩
  case round =>
    clear hR1 hP1 hc1 HPP
    obtain ⟨lv, g, pats, ⟨prw, pru, prx⟩, d, v, hlv, rfl, rfl, hpl, hc, hRb, hPb, hrow, hmw, hcase⟩ := hrel
    cases lv with
    | zero =>
      rcases hcase with ⟨hx, _⟩ | ⟨_, hRk, hg0, hg1⟩
      · omega
      · have hMay := fun w0 => RMay_any ⟨prw, pru, prx⟩ kind user w0
        simp only [Rg.cs] at hMay
        have hG : grantP L.length kind user R = if mayB ⟨prw, pru, prx⟩ kind user then (if g ≥ (L.length : Int) then .error 0 else R) else .error 3 := by rw [hRk]; rfl
        generalize mayB ⟨prw, pru, prx⟩ kind user = tb at *
        have HGG := Lib.hid hG
        have HRK := Lib.hid hRk
        clear hG hRk
        obtain ⟨p0_, p1_, p2_, p3_, p4_, p5_, p6_, f0_, f1_, f2_, f3_, f4_, f5_, f6_⟩ := blk7 hPb
        go_wp2_with fail
        refine (hMay _).mono ?_; rintro e u1 ⟨rfl, y1⟩
        have hR1 := hRb.chg_ y1 (by simp); have hP1 := hPb.chg_ y1 (by simp); have hc1 := hc.trans y1 (by simp); have hrow1 := own_chg hrow y1 (by simp); have g1 := gu.self hc1
        clear hRb hPb hc hrow y1 p0_ p1_ p2_ p3_ p4_ p5_ p6_ f0_ f1_ f2_ f3_ f4_ f5_ f6_ hMay
        cases tb with
        | false =>
          have HW : Hid (walkP n W L root page kind user = (Pa.zero, 1, codeN kind user true false)) := Lib.hid (by rw [HWP.out, HGG.out]; rfl)
          obtain ⟨r0, r1, r2, r3, r4, r5, r6, q0, q1, q2, q3, q4, q5, q6⟩ := blk7 hR1
          go_wp2_with fail
          refine (RCode_any kind user true false _).mono ?_; rintro e u2 ⟨rfl, rfl⟩
          go_wp2_with fail
          refine bodyPost_ret (cell_tmps_ret rfl (set7 hR1) rfl Tryz.underlying108 rfl (by kernel_rfl)) rfl ?_
          rw [HW.out]
          exact ⟨none, 0, rfl, World.ownsRow_nil _ _ _ _, chg7 hc1 (by omega)⟩
        | true =>
          have hFr := RGuFrames_at q S p L h b n W _ g1
          have hgn : ¬ g < 0 := by omega
          by_cases hge : g ≥ (L.length : Int)
          · have HW : Hid (walkP n W L root page kind user = (Pa.zero, 3, 0)) := Lib.hid (by rw [HWP.out, HGG.out, if_pos rfl, if_pos hge]; rfl)
            obtain ⟨r0, r1, r2, r3, r4, r5, r6, q0, q1, q2, q3, q4, q5, q6⟩ := blk7 hR1
            go_wp2_with fail
            refine hFr.mono ?_; rintro e u2 ⟨rfl, rfl⟩
            go_wp2_with fail
            refine bodyPost_ret (cell_tmps_ret rfl (set7 hR1) rfl Tryz.underlying108 rfl (by kernel_rfl)) rfl ?_
            rw [HW.out]
            exact ⟨none, 0, rfl, World.ownsRow_nil _ _ _ _, chg7 hc1 (by omega)⟩
          · have HW : Hid (walkP n W L root page kind user = (⟨pats, g, ⟨prw, pru, prx⟩, false, d⟩, 0, 0)) := Lib.hid (by rw [HWP.out, HGG.out, if_pos rfl, if_neg hge, HRK.out]; rfl)
            obtain ⟨r0, r1, r2, r3, r4, r5, r6, q0, q1, q2, q3, q4, q5, q6⟩ := blk7 hR1
            obtain ⟨p0_, p1_, p2_, p3_, p4_, p5_, p6_, f0_, f1_, f2_, f3_, f4_, f5_, f6_⟩ := blk7 hP1
            obtain ⟨A1, c1, rfl, _, _⟩ := own_form hrow1
            go_wp2_with fail
            refine hFr.mono ?_; rintro e u2 ⟨rfl, rfl⟩
            clear p0_ p1_ p2_ p3_ p4_ p5_ p6_ f0_ f1_ f2_ f3_ f4_ f5_ f6_
            have hP2 := hP1.set_ 1 (.int .i64 (g))
            have hR2 := hR1.far (p := ⟨pb, 1, none⟩) hne (.int .i64 (g))
            simp only [List.setIfInBounds_toArray, List.set_cons_zero, List.set_cons_succ] at hP2
            have f1_ := hP1.frozen 1
            have p1_ := hP1.cell 1
            simp only [List.getElem?_toArray, List.getElem?_cons_zero, List.getElem?_cons_succ] at p1_
            clear r0 r1 r2 r3 r4 r5 r6 q0 q1 q2 q3 q4 q5 q6
            obtain ⟨r0, r1, r2, r3, r4, r5, r6, q0, q1, q2, q3, q4, q5, q6⟩ := blk7 hR2
            obtain ⟨p0_, p1b_, p2_, p3_, p4_, p5_, p6_, f0_, f1b_, f2_, f3_, f4_, f5_, f6_⟩ := blk7 hP2
            go_wp2_with fail
            refine bodyPost_ret (cell_tmps_ret rfl (set7 hR2) rfl Tryz.underlying108 rfl (by kernel_rfl)) rfl ?_
            rw [HW.out]
            have hcc := (Chg.refl [m, pb] u1).setCell (p := ⟨pb, 1, none⟩) (by simp) (.int .i64 (g))
            refine ⟨A1, c1, rfl, ?_, chg7 ((hc1.weak (T := []) (by simp)).setCell (p := ⟨pb, 1, none⟩) (by intro hh; simp only at hh; omega) (.int .i64 (g))) (by omega)⟩
            rw [hmm]
            refine own_chg hrow1 (chg7 hcc (by simp)) (fun gg hg hi => ?_)
            obtain ⟨cs, hb⟩ := own_cells hrow1 gg (by simp [hg])
            simp at hi
            rcases hi with rfl | rfl
            · exact Blk.type_ne hb hR1 (by decide) rfl
            · exact Blk.type_ne hb hP1 (by decide) rfl
    | succ lv =>
      rcases hcase with ⟨_, hRk⟩ | ⟨hx, _⟩
      case inr => omega
      rw [seqW.eq_2] at hRk
      have hsc := step_cases (rdG n W L) page g ((lv + 1 : Nat) : Int)
      have hkk : ((lv + 1 : Nat) : Int) = (lv : Int) + 1 := by omega
      generalize ((lv + 1 : Nat) : Int) = k at *
      have hk1 : 1 ≤ k := by omega
      have hk3 : k ≤ 3 := by omega
      have HK := Lib.hid hkk
      clear hkk
      have hkd : decide (1 ≤ k) = true := by simpa using hk1
      have hke : decide (k ≥ 1) = true := by simpa using hk1
      have hIdk := fun w0 => hIdx k w0
      have hId1 := fun w0 => hIdx 1 w0
      generalize idxI page k = ix at *
      have guk := gu.self hc
      rcases hsc with ⟨e0, hn⟩ | ⟨v', hv, hp, e1⟩ | ⟨v', hv, hp, hb, e2⟩ | ⟨v', hv, hp, hb, e3⟩
      · rw [e0] at hRk
        have HW : Hid (walkP n W L root page kind user = (Pa.zero, 3, 0)) := Lib.hid (by rw [HWP.out, hRk]; rfl)
        clear hRk e0
        have hh : hasG n L g ix = false := by
          unfold rdG at hn
          split at hn
          · cases hn
          · rename_i h'; simpa using h'
        go_wp2_with fail
        refine (hIdk _).mono ?_; rintro e w3 ⟨rfl, k3⟩
        have g3 := guk.self k3
        have hR3 := hRb.chg_ k3 (by simp); have hP3 := hPb.chg_ k3 (by simp); have hc3 := hc.trans k3 (by simp); have hrow3 := own_chg hrow k3 (by simp)
        clear hRb hPb hc hrow guk
        have hget := RGuGet_at q S p L h b n W g ix _ g3
        rw [hh] at hget
        generalize getG n W L g ix = xv at hget
        clear hh hn
        go_wp2_with fail
        refine hget.mono ?_; rintro e w4 ⟨rfl, rfl⟩
        obtain ⟨r0, r1, r2, r3, r4, r5, r6, q0, q1, q2, q3, q4, q5, q6⟩ := blk7 hR3
        go_wp2_with fail
        refine bodyPost_ret (cell_tmps_ret rfl (set7 hR3) rfl Tryz.underlying108 rfl (by kernel_rfl)) rfl ?_
        rw [HW.out]
        exact ⟨none, 0, rfl, World.ownsRow_nil _ _ _ _, chg7 hc3 (by omega)⟩
      · rw [e1] at hRk
        have HW : Hid (walkP n W L root page kind user = (Pa.zero, 1, codeN kind user false false)) := Lib.hid (by rw [HWP.out, hRk]; rfl)
        clear hRk e1
        obtain ⟨hh, hgv⟩ := rdG_some hv
        obtain ⟨_, r2, r3⟩ := rd_word hW hh
        rw [hgv] at r2 r3
        have hcs : (getE v').cs = #[.bool (getE v').p, .bool (getE v').w, .bool (getE v').u, .bool (getE v').a, .bool (getE v').d, .bool (getE v').s, .bool (getE v').n, .bool (getE v').bad, .int .i64 (getE v').f] := rfl
        have hGet : ∀ w0 : World, Calls Tryz.prog 94 #[.int .u64 v'] w0 fun e w' => e = .returned (.agg (getE v').cs) ∧ Chg [] w0 w' := fun w0 => RGet_any v' w0 r3
        rw [hcs] at hGet
        have hOf := fun w0 => ROf_any (getE v').p (getE v').w (getE v').u (getE v').a (getE v').d (getE v').s (getE v').n (getE v').bad (getE v').f w0
        have ht := tmod8 (getE v').f
        have hfr := getE_f v'
        clear hcs hgv
        go_wp2_with fail
        refine (hIdk _).mono ?_; rintro e w3 ⟨rfl, k3⟩
        have g3 := guk.self k3
        have hR3 := hRb.chg_ k3 (by simp); have hP3 := hPb.chg_ k3 (by simp); have hc3 := hc.trans k3 (by simp); have hrow3 := own_chg hrow k3 (by simp)
        clear hRb hPb hc hrow guk
        have hget := RGuGet_at q S p L h b n W g ix _ g3
        rw [hh, r2] at hget
        clear hh r2 hv
        clear ht hfr hOf
        generalize (getE v').p = ep at *
        generalize (getE v').w = ew at *
        generalize (getE v').u = eu at *
        generalize (getE v').a = ea at *
        generalize (getE v').d = ed at *
        generalize (getE v').s = es at *
        generalize (getE v').n = en at *
        generalize (getE v').bad = eb at *
        generalize (getE v').f = ef at *
        subst hp
        go_wp2_with fail
        refine hget.mono ?_; rintro e w4 ⟨rfl, rfl⟩
        go_wp2_with fail
        refine (hGet _).mono ?_; rintro e w5 ⟨rfl, k5⟩
        have hE5 := Blk.new w5 154 #[.bool false, .bool ew, .bool eu, .bool ea, .bool ed, .bool es, .bool en, .bool eb, .int .i64 ef]
        have al5 := (Chg.refl [] w5).alloc (.cells #[.bool false, .bool ew, .bool eu, .bool ea, .bool ed, .bool es, .bool en, .bool eb, .int .i64 ef] 154)
        have hR5 := (hR3.chg_ k5 (by simp)).chg_ al5 (by simp); have hP5 := (hP3.chg_ k5 (by simp)).chg_ al5 (by simp); have hc5 := (hc3.trans k5 (by simp)).trans al5 (by simp); have hrow5 := own_chg (own_chg hrow3 k5 (by simp)) al5 (by simp)
        have hpl5 : pb < w5.heap.size := (hP3.chg_ k5 (by simp)).lt
        clear hR3 hP3 hc3 hrow3 k5 al5 g3
        obtain ⟨e0_, e1_, e2_, e3_, e4_, e5_, e6_, e7_, e8_⟩ := blk9 hE5
        obtain ⟨r0, r1, r2, r3, r4, r5, r6, q0, q1, q2, q3, q4, q5, q6⟩ := blk7 hR5
        go_wp2_with fail
        refine (RCode_any kind user false false _).mono ?_; rintro e w6 ⟨rfl, rfl⟩
        go_wp2_with fail
        refine bodyPost_ret (cell_tmps_ret rfl (set7 hR5) rfl Tryz.underlying108 rfl (by kernel_rfl)) rfl ?_
        rw [HW.out]
        exact ⟨none, 0, rfl, World.ownsRow_nil _ _ _ _, chg7 hc5 (by omega)⟩
      · rw [e2] at hRk
        have HW : Hid (walkP n W L root page kind user = (Pa.zero, 1, codeN kind user true true)) := Lib.hid (by rw [HWP.out, hRk]; rfl)
        clear hRk e2
        unfold badE at hb
        obtain ⟨hh, hgv⟩ := rdG_some hv
        obtain ⟨_, r2, r3⟩ := rd_word hW hh
        rw [hgv] at r2 r3
        have hcs : (getE v').cs = #[.bool (getE v').p, .bool (getE v').w, .bool (getE v').u, .bool (getE v').a, .bool (getE v').d, .bool (getE v').s, .bool (getE v').n, .bool (getE v').bad, .int .i64 (getE v').f] := rfl
        have hGet : ∀ w0 : World, Calls Tryz.prog 94 #[.int .u64 v'] w0 fun e w' => e = .returned (.agg (getE v').cs) ∧ Chg [] w0 w' := fun w0 => RGet_any v' w0 r3
        rw [hcs] at hGet
        have hOf := fun w0 => ROf_any (getE v').p (getE v').w (getE v').u (getE v').a (getE v').d (getE v').s (getE v').n (getE v').bad (getE v').f w0
        have ht := tmod8 (getE v').f
        have hfr := getE_f v'
        clear hcs hgv
        go_wp2_with fail
        refine (hIdk _).mono ?_; rintro e w3 ⟨rfl, k3⟩
        have g3 := guk.self k3
        have hR3 := hRb.chg_ k3 (by simp); have hP3 := hPb.chg_ k3 (by simp); have hc3 := hc.trans k3 (by simp); have hrow3 := own_chg hrow k3 (by simp)
        clear hRb hPb hc hrow guk
        have hget := RGuGet_at q S p L h b n W g ix _ g3
        rw [hh, r2] at hget
        clear hh r2 hv
        clear hfr hOf
        generalize (getE v').p = ep at *
        generalize (getE v').w = ew at *
        generalize (getE v').u = eu at *
        generalize (getE v').a = ea at *
        generalize (getE v').d = ed at *
        generalize (getE v').s = es at *
        generalize (getE v').n = en at *
        generalize (getE v').bad = eb at *
        generalize (getE v').f = ef at *
        subst hp
        generalize hl2 : (k != 2) = l2 at *
        generalize ht8 : (ef % 8 != 0) = t8 at *
        cases eb
        case true =>
          clear hb
          go_wp2_with fail
          refine hget.mono ?_; rintro e w4 ⟨rfl, rfl⟩
          go_wp2_with fail
          refine (hGet _).mono ?_; rintro e w5 ⟨rfl, k5⟩
          have hE5 := Blk.new w5 154 #[.bool true, .bool ew, .bool eu, .bool ea, .bool ed, .bool es, .bool en, .bool true, .int .i64 ef]
          have al5 := (Chg.refl [] w5).alloc (.cells #[.bool true, .bool ew, .bool eu, .bool ea, .bool ed, .bool es, .bool en, .bool true, .int .i64 ef] 154)
          have hR5 := (hR3.chg_ k5 (by simp)).chg_ al5 (by simp); have hP5 := (hP3.chg_ k5 (by simp)).chg_ al5 (by simp); have hc5 := (hc3.trans k5 (by simp)).trans al5 (by simp); have hrow5 := own_chg (own_chg hrow3 k5 (by simp)) al5 (by simp)
          have hpl5 : pb < w5.heap.size := (hP3.chg_ k5 (by simp)).lt
          clear hR3 hP3 hc3 hrow3 k5 al5 g3
          obtain ⟨e0_, e1_, e2_, e3_, e4_, e5_, e6_, e7_, e8_⟩ := blk9 hE5
          obtain ⟨r0, r1, r2, r3, r4, r5, r6, q0, q1, q2, q3, q4, q5, q6⟩ := blk7 hR5
          go_wp2_with fail
          refine (RCode_any kind user true true _).mono ?_; rintro e w6 ⟨rfl, rfl⟩
          go_wp2_with fail
          refine bodyPost_ret (cell_tmps_ret rfl (set7 hR5) rfl Tryz.underlying108 rfl (by kernel_rfl)) rfl ?_
          rw [HW.out]
          exact ⟨none, 0, rfl, World.ownsRow_nil _ _ _ _, chg7 hc5 (by omega)⟩
        case false =>
          cases es <;> cases l2 <;> cases t8 <;> first | (exact absurd hb (by decide)) | skip
          all_goals
            clear hb
            go_wp2_with fail
            refine hget.mono ?_; rintro e w4 ⟨rfl, rfl⟩
            go_wp2_with fail
            refine (hGet _).mono ?_; rintro e w5 ⟨rfl, k5⟩
            have hE5 := Blk.new w5 154 #[.bool true, .bool ew, .bool eu, .bool ea, .bool ed, .bool true, .bool en, .bool false, .int .i64 ef]
            have al5 := (Chg.refl [] w5).alloc (.cells #[.bool true, .bool ew, .bool eu, .bool ea, .bool ed, .bool true, .bool en, .bool false, .int .i64 ef] 154)
            have hR5 := (hR3.chg_ k5 (by simp)).chg_ al5 (by simp); have hP5 := (hP3.chg_ k5 (by simp)).chg_ al5 (by simp); have hc5 := (hc3.trans k5 (by simp)).trans al5 (by simp); have hrow5 := own_chg (own_chg hrow3 k5 (by simp)) al5 (by simp)
            have hpl5 : pb < w5.heap.size := (hP3.chg_ k5 (by simp)).lt
            clear hR3 hP3 hc3 hrow3 k5 al5 g3
            obtain ⟨e0_, e1_, e2_, e3_, e4_, e5_, e6_, e7_, e8_⟩ := blk9 hE5
            obtain ⟨r0, r1, r2, r3, r4, r5, r6, q0, q1, q2, q3, q4, q5, q6⟩ := blk7 hR5
            go_wp2_with fail
            refine (RCode_any kind user true true _).mono ?_; rintro e w6 ⟨rfl, rfl⟩
            go_wp2_with fail
            refine bodyPost_ret (cell_tmps_ret rfl (set7 hR5) rfl Tryz.underlying108 rfl (by kernel_rfl)) rfl ?_
            rw [HW.out]
            exact ⟨none, 0, rfl, World.ownsRow_nil _ _ _ _, chg7 hc5 (by omega)⟩
      · rw [e3] at hRk
        have HSTEP := run_step HK.out hRk
        obtain ⟨HR1, HR2, HR3⟩ := HSTEP
        replace HR1 := Lib.hid HR1; replace HR2 := Lib.hid HR2; replace HR3 := Lib.hid HR3
        clear hRk e3
        unfold badE at hb
        obtain ⟨hh, hgv⟩ := rdG_some hv
        obtain ⟨_, r2, r3⟩ := rd_word hW hh
        rw [hgv] at r2 r3
        have hcs : (getE v').cs = #[.bool (getE v').p, .bool (getE v').w, .bool (getE v').u, .bool (getE v').a, .bool (getE v').d, .bool (getE v').s, .bool (getE v').n, .bool (getE v').bad, .int .i64 (getE v').f] := rfl
        have hGet : ∀ w0 : World, Calls Tryz.prog 94 #[.int .u64 v'] w0 fun e w' => e = .returned (.agg (getE v').cs) ∧ Chg [] w0 w' := fun w0 => RGet_any v' w0 r3
        rw [hcs] at hGet
        have hOf := fun w0 => ROf_any (getE v').p (getE v').w (getE v').u (getE v').a (getE v').d (getE v').s (getE v').n (getE v').bad (getE v').f w0
        have ht := tmod8 (getE v').f
        have hfr := getE_f v'
        clear hcs hgv
        go_wp2_with fail
        refine (hIdk _).mono ?_; rintro e w3 ⟨rfl, k3⟩
        have g3 := guk.self k3
        have hR3 := hRb.chg_ k3 (by simp); have hP3 := hPb.chg_ k3 (by simp); have hc3 := hc.trans k3 (by simp); have hrow3 := own_chg hrow k3 (by simp)
        clear hRb hPb hc hrow guk
        have hget := RGuGet_at q S p L h b n W g ix _ g3
        rw [hh, r2] at hget
        clear hh r2 hv
        generalize (getE v').p = ep at *
        generalize (getE v').w = ew at *
        generalize (getE v').u = eu at *
        generalize (getE v').a = ea at *
        generalize (getE v').d = ed at *
        generalize (getE v').s = es at *
        generalize (getE v').n = en at *
        generalize (getE v').bad = eb at *
        generalize (getE v').f = ef at *
        subst hp
        generalize hl2 : (k != 2) = l2 at *
        generalize ht8 : (ef % 8 != 0) = t8 at *
        cases eb
        case true => exact absurd hb (by simp)
        cases es
        case false =>
          clear hb
          go_wp2_with fail
          refine hget.mono ?_; rintro e w4 ⟨rfl, rfl⟩
          go_wp2_with fail
          refine (hGet _).mono ?_; rintro e w5 ⟨rfl, k5⟩
          have hE5 := Blk.new w5 154 #[.bool true, .bool ew, .bool eu, .bool ea, .bool ed, .bool false, .bool en, .bool false, .int .i64 ef]
          have al5 := (Chg.refl [] w5).alloc (.cells #[.bool true, .bool ew, .bool eu, .bool ea, .bool ed, .bool false, .bool en, .bool false, .int .i64 ef] 154)
          have hR5 := (hR3.chg_ k5 (by simp)).chg_ al5 (by simp); have hP5 := (hP3.chg_ k5 (by simp)).chg_ al5 (by simp); have hc5 := (hc3.trans k5 (by simp)).trans al5 (by simp); have hrow5 := own_chg (own_chg hrow3 k5 (by simp)) al5 (by simp)
          have hpl5 : pb < w5.heap.size := (hP3.chg_ k5 (by simp)).lt
          clear hR3 hP3 hc3 hrow3 k5 al5 g3
          have hge : pb ≠ w5.heap.size := (by omega); obtain ⟨e0_, e1_, e2_, e3_, e4_, e5_, e6_, e7_, e8_⟩ := blk9 hE5
          have hAt := Blk.new (w5.alloc (.cells #[.bool true, .bool ew, .bool eu, .bool ea, .bool ed, .bool false, .bool en, .bool false, .int .i64 ef] 154)) 158 #[.int .i64 g, .int .i64 ix]
          rw [World.size_alloc] at hAt
          obtain ⟨p0_, p1_, p2_, p3_, p4_, p5_, p6_, f0_, f1_, f2_, f3_, f4_, f5_, f6_⟩ := blk7 hP5
          have hm5 := hc5.size
          rw [hmm] at hm5
          go_wp2_with (at_builtin; refine wpList_append_src rfl _ _ 106 rfl m 158 i0 (.agg #[.int .i64 0, .int .i64 0]) 2 16 Tryz.underlying106 hi0 hz0 hz1 hz2 rfl (by decide) v _ _ rfl (World.ownsRow.alloc hrow5 _) (some ⟨w5.heap.size + 1, 0, none⟩) 1 1 [.int .i64 g, .int .i64 ix] rfl ⟨rfl, by simp [Value.oneCell'], by simp, fun a ha j u hu => by injection ha with ha; subst ha; rw [add_at, Nat.zero_add, hAt.cell]; simpa using hu⟩ (by simp [maxLen]; omega) (by omega) (by simp at hm5 ⊢; omega) ?_; intro v3 u3 hown3 hcg _; obtain ⟨g', c', rfl⟩ := ownsRow_succ hown3; replace hcg := (((Chg.refl [] (w5.alloc (.cells #[.bool true, .bool ew, .bool eu, .bool ea, .bool ed, .bool false, .bool en, .bool false, .int .i64 ef] 154))).alloc (.cells #[.int .i64 g, .int .i64 ix] 158)).weak (T := v.ownBlock.toList) (by simp)).trans hcg (fun i _ hi => hi); clear p0_ p1_ p2_ p3_ p4_ p5_ p6_ f0_ f1_ f2_ f3_ f4_ f5_ f6_; have hP6 := hP5.chg_ hcg (fun hi => by (obtain ⟨cs, hb⟩ := own_cells hrow5 _ hi; exact Blk.type_ne hb hP5 (by decide) rfl)); obtain ⟨p0_, p1_, p2_, p3_, p4_, p5_, p6_, f0_, f1_, f2_, f3_, f4_, f5_, f6_⟩ := blk7 hP6)
          have hE6 := hE5.chg_ hcg (fun hi => by (obtain ⟨cs, hb⟩ := own_cells hrow5 _ hi; exact Blk.type_ne hb hE5 (by decide) rfl))
          have hR6 := hR5.chg_ hcg (fun hi => by (obtain ⟨cs, hb⟩ := own_cells hrow5 _ hi; exact Blk.type_ne hb hR5 (by decide) rfl))
          have hc6 := hc5.trans hcg (fun i hi hm => by (obtain ⟨g2, hg2, hlo⟩ : ∃ g2, g2 = i ∧ m ≤ g2 := ⟨i, rfl, own_low hrow5 _ hm⟩; omega))
          have hch := (Chg.refl [pb] u3).setCell (p := ⟨pb, 0, none⟩) (by simp) (.slice (some ⟨g', 0, none⟩) (pats.length + 1) c')
          have hP7 := hP6.set_ 0 (.slice (some ⟨g', 0, none⟩) (pats.length + 1) c')
          simp only [List.setIfInBounds_toArray, List.set_cons_zero] at hP7
          have hE7 := hE6.chg_ hch (by simpa using fun h => hge h.symm)
          have hR7 := hR6.chg_ hch (by simpa using hne)
          have hrow6 := own_chg hown3 hch (fun g hg hi => by (obtain ⟨cs, hb⟩ := own_cells hown3 g (by simp [hg]); simp at hi; subst hi; exact Blk.type_ne hb hP6 (by decide) rfl))
          have hc7 := hc6.trans hch (by intro i hi hm; simp at hm; omega)
          have hm7 := hc7.size
          rw [hmm] at hm7
          clear hP5 hE5 hR5 hc5 hrow5 hAt hown3 hcg hP6 hE6 hR6 hc6 hch p0_ p1_ p2_ p3_ p4_ p5_ p6_ f0_ f1_ f2_ f3_ f4_ f5_ f6_ e0_ e1_ e2_ e3_ e4_ e5_ e6_ e7_ e8_ hm5
          generalize u3.setCell ⟨pb, 0, none⟩ (.slice (some ⟨g', 0, none⟩) (pats.length + 1) c') = W3 at *
          have hne5 := fun h => hge (Eq.symm h)
          generalize w5.heap.size = ge at *
          rw [← flatA_snoc] at hrow6
          have hplen : (pats ++ [(g, ix)]).length = pats.length + 1 := by simp
          obtain ⟨p0_, p1_, p2_, p3_, p4_, p5_, p6_, f0_, f1_, f2_, f3_, f4_, f5_, f6_⟩ := blk7 hP7
          have hM : ∀ (g : Nat) (w0 : World), Blk w0 g 60 #[.bool prw, .bool pru, .bool prx, .bool ew, .bool eu, .bool !en] → Calls Tryz.prog 96 #[.slice (some ⟨g, 0, none⟩) 2 2] w0 fun e w' => e = .returned (.agg #[.bool (prw && ew), .bool (pru && eu), .bool (prx && !en)]) ∧ Chg [] w0 w' := fun g w0 hb => by
              have := RMeet_any (some ⟨g, 0, none⟩) 2 2 [⟨prw, pru, prx⟩, ⟨ew, eu, !en⟩] w0 (SlR.made2 _ _ hb) (by decide)
              rwa [meet2] at this
          have c3_ : Chg [] W3 W3.drew := (Chg.refl [] W3).drew
          refine wp_region_noPanic ?_
          refine wp_region_held_drew (S := (fun w' => Blk w' ge 154 #[.bool true, .bool ew, .bool eu, .bool ea, .bool ed, .bool false, .bool en, .bool false, .int .i64 ef])) (by kernel_rfl) ?_ (fun hHeld => ?_)
          · exact hE7
          (refine take_on 0 (some 77) (v := ?_) rfl rfl (by kernel_rfl) (by kernel_rfl) (by kernel_rfl) (fun _ _ _ h => h) (by rfl) (by assumption) ?_ ?_; rotate_left; · (intro w hSw; (try dsimp only at hSw); go_simp; (try with_reducible rfl)))
          (try simp only [Act.put, List.setIfInBounds_toArray, List.set_cons_zero, List.set_cons_succ])
          (refine take_on 2 (some 79) (v := ?_) rfl rfl (by kernel_rfl) (by kernel_rfl) (by kernel_rfl) (fun _ _ _ h => h) (by rfl) (by assumption) ?_ ?_; rotate_left; · (intro w hSw; (try dsimp only at hSw); obtain ⟨e0_, e1_, e2_, e3_, e4_, e5_, e6_, e7_, e8_⟩ := blk9 hSw; go_simp; (try with_reducible rfl)))
          (try simp only [Act.put, List.setIfInBounds_toArray, List.set_cons_zero, List.set_cons_succ])
          refine wpAnyH_ready (rs := [1, 3]) (by kernel_rfl) (by simp) ?_; refine AllReadyH.cons (o := _) rfl (fun K hK => ?_) (AllReadyH.cons (o := _) rfl (fun K hK => ?_) AllReadyH.nil)
          · go_simp
            skip
            refine hK.out _ _ (by (try dsimp only); exact hHeld) (fun hHeld => ?_)
            clear hK K
            (try simp only [Act.put, List.setIfInBounds_toArray, List.set_cons_zero, List.set_cons_succ])
            refine wpAnyH_ready (rs := [3]) (by kernel_rfl) (by simp) ?_; refine AllReadyH.cons (o := _) rfl (fun K hK => ?_) AllReadyH.nil
            go_simp
            (go_at_call 97; refine (hOf _).mono ?_; rintro e u5 ⟨rfl, y5⟩; have x5 : Chg [] W3 u5 := Chg.trans c3_ y5 (by simp); have hQ5 := hP7.chg_ x5 (by simp); clear p0_ p1_ p2_ p3_ p4_ p5_ p6_ f0_ f1_ f2_ f3_ f4_ f5_ f6_; obtain ⟨p0_, p1_, p2_, p3_, p4_, p5_, p6_, f0_, f1_, f2_, f3_, f4_, f5_, f6_⟩ := blk7 hQ5)
            refine hK.out _ _ (by (try dsimp only); exact hE7.chg_ x5 (by simp)) (fun hHeld => ?_)
            clear hK K
            (try simp only [Act.put, List.setIfInBounds_toArray, List.set_cons_zero, List.set_cons_succ])
            refine wpAnyH_ready (rs := [4]) (by kernel_rfl) (by simp) ?_; refine AllReadyH.cons (o := _) rfl (fun K hK => ?_) AllReadyH.nil
            go_simp
            skip
            refine hK.out _ _ (by (try dsimp only); exact Blk.alloc hHeld _) (fun hHeld => ?_)
            clear hK K
            (try simp only [Act.put, List.setIfInBounds_toArray, List.set_cons_zero, List.set_cons_succ])
            refine wpAnyH_ready (rs := [5]) (by kernel_rfl) (by simp) ?_; refine AllReadyH.cons (o := _) rfl (fun K hK => ?_) AllReadyH.nil
            go_simp
            (go_at_call 96; refine (hM _ _ (Blk.new u5 60 _)).mono ?_; rintro e u6 ⟨rfl, y6⟩; have x6 : Chg [] W3 u6 := Chg.trans (Chg.alloc x5 (.cells #[.bool prw, .bool pru, .bool prx, .bool ew, .bool eu, .bool !en] 60)) y6 (by simp); have hQ6 := hP7.chg_ x6 (by simp); clear p0_ p1_ p2_ p3_ p4_ p5_ p6_ f0_ f1_ f2_ f3_ f4_ f5_ f6_; obtain ⟨p0_, p1_, p2_, p3_, p4_, p5_, p6_, f0_, f1_, f2_, f3_, f4_, f5_, f6_⟩ := blk7 hQ6)
            refine hK.out _ _ (by (try dsimp only); exact hE7.chg_ x6 (by simp)) (fun hHeld => ?_)
            clear hK K
            (try simp only [Act.put, List.setIfInBounds_toArray, List.set_cons_zero, List.set_cons_succ])
            refine wpAnyH_ready (rs := [6]) (by kernel_rfl) (by simp) ?_; refine AllReadyH.cons (o := _) rfl (fun K hK => ?_) AllReadyH.nil
            go_simp
            skip
            refine hK.out _ _ (by (try dsimp only); exact hHeld) (fun hHeld => ?_)
            clear hK K
            (try simp only [Act.put, List.setIfInBounds_toArray, List.set_cons_zero, List.set_cons_succ])
            refine wpAnyH_ready (rs := [7]) (by kernel_rfl) (by simp) ?_; refine AllReadyH.cons (o := _) rfl (fun K hK => ?_) AllReadyH.nil
            go_simp
            skip
            refine hK.out _ _ (by (try dsimp only); exact ((hHeld.far hne5 _).far hne5 _).far hne5 _) (fun hHeld => ?_)
            clear hK K
            (try simp only [Act.put, List.setIfInBounds_toArray, List.set_cons_zero, List.set_cons_succ])
            refine wpAnyH_done (by kernel_rfl) ?_ _
            refine NoPanic.normal ?_
            have hch7 := (((Chg.refl [pb] u6).setCell (p := ⟨pb, 2, none⟩) (by simp) (.bool (prw && ew))).setCell (p := ⟨pb, 3, none⟩) (by simp) (.bool (pru && eu))).setCell (p := ⟨pb, 4, none⟩) (by simp) (.bool (prx && !en))
            have hP8 := ((hQ6.set_ 2 (.bool (prw && ew))).set_ 3 (.bool (pru && eu))).set_ 4 (.bool (prx && !en))
            simp only [List.setIfInBounds_toArray, List.set_cons_zero, List.set_cons_succ] at hP8
            have hE8 := (hE7.chg_ x6 (by simp)).chg_ hch7 (by simpa using hne5)
            have hR8 := (hR7.chg_ x6 (by simp)).chg_ hch7 (by simpa using hne)
            have hrow7 := own_chg hrow6 x6 (by simp)
            have hrow8 := own_chg hrow7 hch7 (fun g hg hi => by (obtain ⟨cs, hb⟩ := own_cells hrow7 g (by simp [hg]); simp at hi; subst hi; exact Blk.type_ne hb hQ6 (by decide) rfl))
            have hc8 := (hc7.trans x6 (by simp)).trans hch7 (by intro i hi hm; simp at hm; omega)
            have hm8 := Nat.le_trans (Nat.le_trans hm7 x6.size) hch7.size
            clear hrow7 hch7 hQ6 x6 y6 hQ5 x5 y5 p0_ p1_ p2_ p3_ p4_ p5_ p6_ f0_ f1_ f2_ f3_ f4_ f5_ f6_ hHeld hrow6 hP7 hE7 hR7 hc7 hm7 c3_ hM hOf
            generalize ((u6.setCell ⟨pb, 2, none⟩ (.bool (prw && ew))).setCell ⟨pb, 3, none⟩ (.bool (pru && eu))).setCell ⟨pb, 4, none⟩ (.bool (prx && !en)) = W8 at *
            obtain ⟨e0_, e1_, e2_, e3_, e4_, e5_, e6_, e7_, e8_⟩ := blk9 hE8
            obtain ⟨p0_, p1_, p2_, p3_, p4_, p5_, p6_, f0_, f1_, f2_, f3_, f4_, f5_, f6_⟩ := blk7 hP8
            have hP9 := hP8.set_ 6 (.bool ed)
            simp only [List.setIfInBounds_toArray, List.set_cons_zero, List.set_cons_succ] at hP9
            have hch9 := (Chg.refl [pb] W8).setCell (p := ⟨pb, 6, none⟩) (by simp) (.bool ed)
            have hE9 := hE8.chg_ hch9 (by simpa using hne5)
            have hR9 := hR8.chg_ hch9 (by simpa using hne)
            have hrow9 := own_chg hrow8 hch9 (fun g hg hi => by (obtain ⟨cs, hb⟩ := own_cells hrow8 g (by simp [hg]); simp at hi; subst hi; exact Blk.type_ne hb hP8 (by decide) rfl))
            have hc9 := hc8.trans hch9 (by intro i hi hm; simp at hm; omega)
            have hm9 := Nat.le_trans hm8 hch9.size
            have f5b := e5_
            replace e5_ := hE9.cell 5
            simp only [List.getElem?_toArray, List.getElem?_cons_zero, List.getElem?_cons_succ] at e5_
            go_wp2_with fail
            go_roundw
            case rel =>
              refine ⟨lv, ef, pats ++ [(g, ix)], ⟨prw && ew, pru && eu, prx && !en⟩, ed, _, by omega, rfl, by rw [HK.out]; congr 1; omega, by rw [hplen]; omega, hc9, hR9, hP9, hplen ▸ hrow9, hm9, ?_⟩
              by_cases hlz : lv = 0
              · exact .inr ⟨hlz, HR2.out (by simp) hlz, hfr.1, hfr.2⟩
              · exact .inl ⟨by omega, HR3.out (by simp) hlz⟩
            case measure => simp [intOf]; omega
          · go_simp
            (go_at_call 97; refine (hOf _).mono ?_; rintro e u5 ⟨rfl, y5⟩; have x5 : Chg [] W3 u5 := Chg.trans c3_ y5 (by simp); have hQ5 := hP7.chg_ x5 (by simp); clear p0_ p1_ p2_ p3_ p4_ p5_ p6_ f0_ f1_ f2_ f3_ f4_ f5_ f6_; obtain ⟨p0_, p1_, p2_, p3_, p4_, p5_, p6_, f0_, f1_, f2_, f3_, f4_, f5_, f6_⟩ := blk7 hQ5)
            refine hK.out _ _ (by (try dsimp only); exact hE7.chg_ x5 (by simp)) (fun hHeld => ?_)
            clear hK K
            (try simp only [Act.put, List.setIfInBounds_toArray, List.set_cons_zero, List.set_cons_succ])
            refine wpAnyH_ready (rs := [1]) (by kernel_rfl) (by simp) ?_; refine AllReadyH.cons (o := _) rfl (fun K hK => ?_) AllReadyH.nil
            go_simp
            skip
            refine hK.out _ _ (by (try dsimp only); exact hHeld) (fun hHeld => ?_)
            clear hK K
            (try simp only [Act.put, List.setIfInBounds_toArray, List.set_cons_zero, List.set_cons_succ])
            refine wpAnyH_ready (rs := [4]) (by kernel_rfl) (by simp) ?_; refine AllReadyH.cons (o := _) rfl (fun K hK => ?_) AllReadyH.nil
            go_simp
            skip
            refine hK.out _ _ (by (try dsimp only); exact Blk.alloc hHeld _) (fun hHeld => ?_)
            clear hK K
            (try simp only [Act.put, List.setIfInBounds_toArray, List.set_cons_zero, List.set_cons_succ])
            refine wpAnyH_ready (rs := [5]) (by kernel_rfl) (by simp) ?_; refine AllReadyH.cons (o := _) rfl (fun K hK => ?_) AllReadyH.nil
            go_simp
            (go_at_call 96; refine (hM _ _ (Blk.new u5 60 _)).mono ?_; rintro e u6 ⟨rfl, y6⟩; have x6 : Chg [] W3 u6 := Chg.trans (Chg.alloc x5 (.cells #[.bool prw, .bool pru, .bool prx, .bool ew, .bool eu, .bool !en] 60)) y6 (by simp); have hQ6 := hP7.chg_ x6 (by simp); clear p0_ p1_ p2_ p3_ p4_ p5_ p6_ f0_ f1_ f2_ f3_ f4_ f5_ f6_; obtain ⟨p0_, p1_, p2_, p3_, p4_, p5_, p6_, f0_, f1_, f2_, f3_, f4_, f5_, f6_⟩ := blk7 hQ6)
            refine hK.out _ _ (by (try dsimp only); exact hE7.chg_ x6 (by simp)) (fun hHeld => ?_)
            clear hK K
            (try simp only [Act.put, List.setIfInBounds_toArray, List.set_cons_zero, List.set_cons_succ])
            refine wpAnyH_ready (rs := [6]) (by kernel_rfl) (by simp) ?_; refine AllReadyH.cons (o := _) rfl (fun K hK => ?_) AllReadyH.nil
            go_simp
            skip
            refine hK.out _ _ (by (try dsimp only); exact hHeld) (fun hHeld => ?_)
            clear hK K
            (try simp only [Act.put, List.setIfInBounds_toArray, List.set_cons_zero, List.set_cons_succ])
            refine wpAnyH_ready (rs := [7]) (by kernel_rfl) (by simp) ?_; refine AllReadyH.cons (o := _) rfl (fun K hK => ?_) AllReadyH.nil
            go_simp
            skip
            refine hK.out _ _ (by (try dsimp only); exact ((hHeld.far hne5 _).far hne5 _).far hne5 _) (fun hHeld => ?_)
            clear hK K
            (try simp only [Act.put, List.setIfInBounds_toArray, List.set_cons_zero, List.set_cons_succ])
            refine wpAnyH_done (by kernel_rfl) ?_ _
            refine NoPanic.normal ?_
            have hch7 := (((Chg.refl [pb] u6).setCell (p := ⟨pb, 2, none⟩) (by simp) (.bool (prw && ew))).setCell (p := ⟨pb, 3, none⟩) (by simp) (.bool (pru && eu))).setCell (p := ⟨pb, 4, none⟩) (by simp) (.bool (prx && !en))
            have hP8 := ((hQ6.set_ 2 (.bool (prw && ew))).set_ 3 (.bool (pru && eu))).set_ 4 (.bool (prx && !en))
            simp only [List.setIfInBounds_toArray, List.set_cons_zero, List.set_cons_succ] at hP8
            have hE8 := (hE7.chg_ x6 (by simp)).chg_ hch7 (by simpa using hne5)
            have hR8 := (hR7.chg_ x6 (by simp)).chg_ hch7 (by simpa using hne)
            have hrow7 := own_chg hrow6 x6 (by simp)
            have hrow8 := own_chg hrow7 hch7 (fun g hg hi => by (obtain ⟨cs, hb⟩ := own_cells hrow7 g (by simp [hg]); simp at hi; subst hi; exact Blk.type_ne hb hQ6 (by decide) rfl))
            have hc8 := (hc7.trans x6 (by simp)).trans hch7 (by intro i hi hm; simp at hm; omega)
            have hm8 := Nat.le_trans (Nat.le_trans hm7 x6.size) hch7.size
            clear hrow7 hch7 hQ6 x6 y6 hQ5 x5 y5 p0_ p1_ p2_ p3_ p4_ p5_ p6_ f0_ f1_ f2_ f3_ f4_ f5_ f6_ hHeld hrow6 hP7 hE7 hR7 hc7 hm7 c3_ hM hOf
            generalize ((u6.setCell ⟨pb, 2, none⟩ (.bool (prw && ew))).setCell ⟨pb, 3, none⟩ (.bool (pru && eu))).setCell ⟨pb, 4, none⟩ (.bool (prx && !en)) = W8 at *
            obtain ⟨e0_, e1_, e2_, e3_, e4_, e5_, e6_, e7_, e8_⟩ := blk9 hE8
            obtain ⟨p0_, p1_, p2_, p3_, p4_, p5_, p6_, f0_, f1_, f2_, f3_, f4_, f5_, f6_⟩ := blk7 hP8
            have hP9 := hP8.set_ 6 (.bool ed)
            simp only [List.setIfInBounds_toArray, List.set_cons_zero, List.set_cons_succ] at hP9
            have hch9 := (Chg.refl [pb] W8).setCell (p := ⟨pb, 6, none⟩) (by simp) (.bool ed)
            have hE9 := hE8.chg_ hch9 (by simpa using hne5)
            have hR9 := hR8.chg_ hch9 (by simpa using hne)
            have hrow9 := own_chg hrow8 hch9 (fun g hg hi => by (obtain ⟨cs, hb⟩ := own_cells hrow8 g (by simp [hg]); simp at hi; subst hi; exact Blk.type_ne hb hP8 (by decide) rfl))
            have hc9 := hc8.trans hch9 (by intro i hi hm; simp at hm; omega)
            have hm9 := Nat.le_trans hm8 hch9.size
            have f5b := e5_
            replace e5_ := hE9.cell 5
            simp only [List.getElem?_toArray, List.getElem?_cons_zero, List.getElem?_cons_succ] at e5_
            go_wp2_with fail
            go_roundw
            case rel =>
              refine ⟨lv, ef, pats ++ [(g, ix)], ⟨prw && ew, pru && eu, prx && !en⟩, ed, _, by omega, rfl, by rw [HK.out]; congr 1; omega, by rw [hplen]; omega, hc9, hR9, hP9, hplen ▸ hrow9, hm9, ?_⟩
              by_cases hlz : lv = 0
              · exact .inr ⟨hlz, HR2.out (by simp) hlz, hfr.1, hfr.2⟩
              · exact .inl ⟨by omega, HR3.out (by simp) hlz⟩
            case measure => simp [intOf]; omega
        case true =>
          cases l2 <;> cases t8 <;> first | (exact absurd hb (by decide)) | skip
          clear hb
          go_wp2_with fail
          refine hget.mono ?_; rintro e w4 ⟨rfl, rfl⟩
          go_wp2_with fail
          refine (hGet _).mono ?_; rintro e w5 ⟨rfl, k5⟩
          have hE5 := Blk.new w5 154 #[.bool true, .bool ew, .bool eu, .bool ea, .bool ed, .bool true, .bool en, .bool false, .int .i64 ef]
          have al5 := (Chg.refl [] w5).alloc (.cells #[.bool true, .bool ew, .bool eu, .bool ea, .bool ed, .bool true, .bool en, .bool false, .int .i64 ef] 154)
          have hR5 := (hR3.chg_ k5 (by simp)).chg_ al5 (by simp); have hP5 := (hP3.chg_ k5 (by simp)).chg_ al5 (by simp); have hc5 := (hc3.trans k5 (by simp)).trans al5 (by simp); have hrow5 := own_chg (own_chg hrow3 k5 (by simp)) al5 (by simp)
          have hpl5 : pb < w5.heap.size := (hP3.chg_ k5 (by simp)).lt
          clear hR3 hP3 hc3 hrow3 k5 al5 g3
          have hge : pb ≠ w5.heap.size := (by omega); obtain ⟨e0_, e1_, e2_, e3_, e4_, e5_, e6_, e7_, e8_⟩ := blk9 hE5
          have hAt := Blk.new (w5.alloc (.cells #[.bool true, .bool ew, .bool eu, .bool ea, .bool ed, .bool true, .bool en, .bool false, .int .i64 ef] 154)) 158 #[.int .i64 g, .int .i64 ix]
          rw [World.size_alloc] at hAt
          obtain ⟨p0_, p1_, p2_, p3_, p4_, p5_, p6_, f0_, f1_, f2_, f3_, f4_, f5_, f6_⟩ := blk7 hP5
          have hm5 := hc5.size
          rw [hmm] at hm5
          go_wp2_with (at_builtin; refine wpList_append_src rfl _ _ 106 rfl m 158 i0 (.agg #[.int .i64 0, .int .i64 0]) 2 16 Tryz.underlying106 hi0 hz0 hz1 hz2 rfl (by decide) v _ _ rfl (World.ownsRow.alloc hrow5 _) (some ⟨w5.heap.size + 1, 0, none⟩) 1 1 [.int .i64 g, .int .i64 ix] rfl ⟨rfl, by simp [Value.oneCell'], by simp, fun a ha j u hu => by injection ha with ha; subst ha; rw [add_at, Nat.zero_add, hAt.cell]; simpa using hu⟩ (by simp [maxLen]; omega) (by omega) (by simp at hm5 ⊢; omega) ?_; intro v3 u3 hown3 hcg _; obtain ⟨g', c', rfl⟩ := ownsRow_succ hown3; replace hcg := (((Chg.refl [] (w5.alloc (.cells #[.bool true, .bool ew, .bool eu, .bool ea, .bool ed, .bool true, .bool en, .bool false, .int .i64 ef] 154))).alloc (.cells #[.int .i64 g, .int .i64 ix] 158)).weak (T := v.ownBlock.toList) (by simp)).trans hcg (fun i _ hi => hi); clear p0_ p1_ p2_ p3_ p4_ p5_ p6_ f0_ f1_ f2_ f3_ f4_ f5_ f6_; have hP6 := hP5.chg_ hcg (fun hi => by (obtain ⟨cs, hb⟩ := own_cells hrow5 _ hi; exact Blk.type_ne hb hP5 (by decide) rfl)); obtain ⟨p0_, p1_, p2_, p3_, p4_, p5_, p6_, f0_, f1_, f2_, f3_, f4_, f5_, f6_⟩ := blk7 hP6)
          have hE6 := hE5.chg_ hcg (fun hi => by (obtain ⟨cs, hb⟩ := own_cells hrow5 _ hi; exact Blk.type_ne hb hE5 (by decide) rfl))
          have hR6 := hR5.chg_ hcg (fun hi => by (obtain ⟨cs, hb⟩ := own_cells hrow5 _ hi; exact Blk.type_ne hb hR5 (by decide) rfl))
          have hc6 := hc5.trans hcg (fun i hi hm => by (obtain ⟨g2, hg2, hlo⟩ : ∃ g2, g2 = i ∧ m ≤ g2 := ⟨i, rfl, own_low hrow5 _ hm⟩; omega))
          have hch := (Chg.refl [pb] u3).setCell (p := ⟨pb, 0, none⟩) (by simp) (.slice (some ⟨g', 0, none⟩) (pats.length + 1) c')
          have hP7 := hP6.set_ 0 (.slice (some ⟨g', 0, none⟩) (pats.length + 1) c')
          simp only [List.setIfInBounds_toArray, List.set_cons_zero] at hP7
          have hE7 := hE6.chg_ hch (by simpa using fun h => hge h.symm)
          have hR7 := hR6.chg_ hch (by simpa using hne)
          have hrow6 := own_chg hown3 hch (fun g hg hi => by (obtain ⟨cs, hb⟩ := own_cells hown3 g (by simp [hg]); simp at hi; subst hi; exact Blk.type_ne hb hP6 (by decide) rfl))
          have hc7 := hc6.trans hch (by intro i hi hm; simp at hm; omega)
          have hm7 := hc7.size
          rw [hmm] at hm7
          clear hP5 hE5 hR5 hc5 hrow5 hAt hown3 hcg hP6 hE6 hR6 hc6 hch p0_ p1_ p2_ p3_ p4_ p5_ p6_ f0_ f1_ f2_ f3_ f4_ f5_ f6_ e0_ e1_ e2_ e3_ e4_ e5_ e6_ e7_ e8_ hm5
          generalize u3.setCell ⟨pb, 0, none⟩ (.slice (some ⟨g', 0, none⟩) (pats.length + 1) c') = W3 at *
          have hne5 := fun h => hge (Eq.symm h)
          generalize w5.heap.size = ge at *
          rw [← flatA_snoc] at hrow6
          have hplen : (pats ++ [(g, ix)]).length = pats.length + 1 := by simp
          obtain ⟨p0_, p1_, p2_, p3_, p4_, p5_, p6_, f0_, f1_, f2_, f3_, f4_, f5_, f6_⟩ := blk7 hP7
          have hM : ∀ (g : Nat) (w0 : World), Blk w0 g 60 #[.bool prw, .bool pru, .bool prx, .bool ew, .bool eu, .bool !en] → Calls Tryz.prog 96 #[.slice (some ⟨g, 0, none⟩) 2 2] w0 fun e w' => e = .returned (.agg #[.bool (prw && ew), .bool (pru && eu), .bool (prx && !en)]) ∧ Chg [] w0 w' := fun g w0 hb => by
              have := RMeet_any (some ⟨g, 0, none⟩) 2 2 [⟨prw, pru, prx⟩, ⟨ew, eu, !en⟩] w0 (SlR.made2 _ _ hb) (by decide)
              rwa [meet2] at this
          have c3_ : Chg [] W3 W3.drew := (Chg.refl [] W3).drew
          refine wp_region_noPanic ?_
          refine wp_region_held_drew (S := (fun w' => Blk w' ge 154 #[.bool true, .bool ew, .bool eu, .bool ea, .bool ed, .bool true, .bool en, .bool false, .int .i64 ef])) (by kernel_rfl) ?_ (fun hHeld => ?_)
          · exact hE7
          (refine take_on 0 (some 77) (v := ?_) rfl rfl (by kernel_rfl) (by kernel_rfl) (by kernel_rfl) (fun _ _ _ h => h) (by rfl) (by assumption) ?_ ?_; rotate_left; · (intro w hSw; (try dsimp only at hSw); go_simp; (try with_reducible rfl)))
          (try simp only [Act.put, List.setIfInBounds_toArray, List.set_cons_zero, List.set_cons_succ])
          (refine take_on 2 (some 79) (v := ?_) rfl rfl (by kernel_rfl) (by kernel_rfl) (by kernel_rfl) (fun _ _ _ h => h) (by rfl) (by assumption) ?_ ?_; rotate_left; · (intro w hSw; (try dsimp only at hSw); obtain ⟨e0_, e1_, e2_, e3_, e4_, e5_, e6_, e7_, e8_⟩ := blk9 hSw; go_simp; (try with_reducible rfl)))
          (try simp only [Act.put, List.setIfInBounds_toArray, List.set_cons_zero, List.set_cons_succ])
          refine wpAnyH_ready (rs := [1, 3]) (by kernel_rfl) (by simp) ?_; refine AllReadyH.cons (o := _) rfl (fun K hK => ?_) (AllReadyH.cons (o := _) rfl (fun K hK => ?_) AllReadyH.nil)
          · go_simp
            skip
            refine hK.out _ _ (by (try dsimp only); exact hHeld) (fun hHeld => ?_)
            clear hK K
            (try simp only [Act.put, List.setIfInBounds_toArray, List.set_cons_zero, List.set_cons_succ])
            refine wpAnyH_ready (rs := [3]) (by kernel_rfl) (by simp) ?_; refine AllReadyH.cons (o := _) rfl (fun K hK => ?_) AllReadyH.nil
            go_simp
            (go_at_call 97; refine (hOf _).mono ?_; rintro e u5 ⟨rfl, y5⟩; have x5 : Chg [] W3 u5 := Chg.trans c3_ y5 (by simp); have hQ5 := hP7.chg_ x5 (by simp); clear p0_ p1_ p2_ p3_ p4_ p5_ p6_ f0_ f1_ f2_ f3_ f4_ f5_ f6_; obtain ⟨p0_, p1_, p2_, p3_, p4_, p5_, p6_, f0_, f1_, f2_, f3_, f4_, f5_, f6_⟩ := blk7 hQ5)
            refine hK.out _ _ (by (try dsimp only); exact hE7.chg_ x5 (by simp)) (fun hHeld => ?_)
            clear hK K
            (try simp only [Act.put, List.setIfInBounds_toArray, List.set_cons_zero, List.set_cons_succ])
            refine wpAnyH_ready (rs := [4]) (by kernel_rfl) (by simp) ?_; refine AllReadyH.cons (o := _) rfl (fun K hK => ?_) AllReadyH.nil
            go_simp
            skip
            refine hK.out _ _ (by (try dsimp only); exact Blk.alloc hHeld _) (fun hHeld => ?_)
            clear hK K
            (try simp only [Act.put, List.setIfInBounds_toArray, List.set_cons_zero, List.set_cons_succ])
            refine wpAnyH_ready (rs := [5]) (by kernel_rfl) (by simp) ?_; refine AllReadyH.cons (o := _) rfl (fun K hK => ?_) AllReadyH.nil
            go_simp
            (go_at_call 96; refine (hM _ _ (Blk.new u5 60 _)).mono ?_; rintro e u6 ⟨rfl, y6⟩; have x6 : Chg [] W3 u6 := Chg.trans (Chg.alloc x5 (.cells #[.bool prw, .bool pru, .bool prx, .bool ew, .bool eu, .bool !en] 60)) y6 (by simp); have hQ6 := hP7.chg_ x6 (by simp); clear p0_ p1_ p2_ p3_ p4_ p5_ p6_ f0_ f1_ f2_ f3_ f4_ f5_ f6_; obtain ⟨p0_, p1_, p2_, p3_, p4_, p5_, p6_, f0_, f1_, f2_, f3_, f4_, f5_, f6_⟩ := blk7 hQ6)
            refine hK.out _ _ (by (try dsimp only); exact hE7.chg_ x6 (by simp)) (fun hHeld => ?_)
            clear hK K
            (try simp only [Act.put, List.setIfInBounds_toArray, List.set_cons_zero, List.set_cons_succ])
            refine wpAnyH_ready (rs := [6]) (by kernel_rfl) (by simp) ?_; refine AllReadyH.cons (o := _) rfl (fun K hK => ?_) AllReadyH.nil
            go_simp
            skip
            refine hK.out _ _ (by (try dsimp only); exact hHeld) (fun hHeld => ?_)
            clear hK K
            (try simp only [Act.put, List.setIfInBounds_toArray, List.set_cons_zero, List.set_cons_succ])
            refine wpAnyH_ready (rs := [7]) (by kernel_rfl) (by simp) ?_; refine AllReadyH.cons (o := _) rfl (fun K hK => ?_) AllReadyH.nil
            go_simp
            skip
            refine hK.out _ _ (by (try dsimp only); exact ((hHeld.far hne5 _).far hne5 _).far hne5 _) (fun hHeld => ?_)
            clear hK K
            (try simp only [Act.put, List.setIfInBounds_toArray, List.set_cons_zero, List.set_cons_succ])
            refine wpAnyH_done (by kernel_rfl) ?_ _
            refine NoPanic.normal ?_
            have hch7 := (((Chg.refl [pb] u6).setCell (p := ⟨pb, 2, none⟩) (by simp) (.bool (prw && ew))).setCell (p := ⟨pb, 3, none⟩) (by simp) (.bool (pru && eu))).setCell (p := ⟨pb, 4, none⟩) (by simp) (.bool (prx && !en))
            have hP8 := ((hQ6.set_ 2 (.bool (prw && ew))).set_ 3 (.bool (pru && eu))).set_ 4 (.bool (prx && !en))
            simp only [List.setIfInBounds_toArray, List.set_cons_zero, List.set_cons_succ] at hP8
            have hE8 := (hE7.chg_ x6 (by simp)).chg_ hch7 (by simpa using hne5)
            have hR8 := (hR7.chg_ x6 (by simp)).chg_ hch7 (by simpa using hne)
            have hrow7 := own_chg hrow6 x6 (by simp)
            have hrow8 := own_chg hrow7 hch7 (fun g hg hi => by (obtain ⟨cs, hb⟩ := own_cells hrow7 g (by simp [hg]); simp at hi; subst hi; exact Blk.type_ne hb hQ6 (by decide) rfl))
            have hc8 := (hc7.trans x6 (by simp)).trans hch7 (by intro i hi hm; simp at hm; omega)
            have hm8 := Nat.le_trans (Nat.le_trans hm7 x6.size) hch7.size
            clear hrow7 hch7 hQ6 x6 y6 hQ5 x5 y5 p0_ p1_ p2_ p3_ p4_ p5_ p6_ f0_ f1_ f2_ f3_ f4_ f5_ f6_ hHeld hrow6 hP7 hE7 hR7 hc7 hm7 c3_ hM hOf
            generalize ((u6.setCell ⟨pb, 2, none⟩ (.bool (prw && ew))).setCell ⟨pb, 3, none⟩ (.bool (pru && eu))).setCell ⟨pb, 4, none⟩ (.bool (prx && !en)) = W8 at *
            obtain ⟨e0_, e1_, e2_, e3_, e4_, e5_, e6_, e7_, e8_⟩ := blk9 hE8
            obtain ⟨p0_, p1_, p2_, p3_, p4_, p5_, p6_, f0_, f1_, f2_, f3_, f4_, f5_, f6_⟩ := blk7 hP8
            have hP9 := hP8.set_ 6 (.bool ed)
            simp only [List.setIfInBounds_toArray, List.set_cons_zero, List.set_cons_succ] at hP9
            have hch9 := (Chg.refl [pb] W8).setCell (p := ⟨pb, 6, none⟩) (by simp) (.bool ed)
            have hE9 := hE8.chg_ hch9 (by simpa using hne5)
            have hR9 := hR8.chg_ hch9 (by simpa using hne)
            have hrow9 := own_chg hrow8 hch9 (fun g hg hi => by (obtain ⟨cs, hb⟩ := own_cells hrow8 g (by simp [hg]); simp at hi; subst hi; exact Blk.type_ne hb hP8 (by decide) rfl))
            have hc9 := hc8.trans hch9 (by intro i hi hm; simp at hm; omega)
            have hm9 := Nat.le_trans hm8 hch9.size
            have f5b := e5_
            replace e5_ := hE9.cell 5
            simp only [List.getElem?_toArray, List.getElem?_cons_zero, List.getElem?_cons_succ] at e5_
            go_wp2_with fail
            refine (hId1 _).mono ?_; rintro e v8 ⟨rfl, k8⟩
            have hP10 := (hP9.chg_ k8 (by simp)).set_ 5 (.bool true)
            simp only [List.setIfInBounds_toArray, List.set_cons_zero, List.set_cons_succ] at hP10
            have hPa := hP9.chg_ k8 (by simp)
            have hc8_ : Chg [] w v8 := hc9.trans k8 (by simp)
            have hch10 := (Chg.refl [pb] v8).setCell (p := ⟨pb, 5, none⟩) (by simp) (.bool true)
            have hRb := (hR9.chg_ k8 (by simp)).chg_ hch10 (by simpa using hne)
            have hr8 := own_chg hrow9 k8 (by simp)
            have hrow := own_chg hr8 hch10 (fun g hg hi => by (obtain ⟨cs, hb⟩ := own_cells hr8 g (by simp [hg]); simp at hi; subst hi; exact Blk.type_ne hb hPa (by decide) rfl))
            have hc := hc8_.trans hch10 (by intro i hi hm; simp at hm; omega)
            have hRk := HR1.out trivial
            have hi1 := idxI_range page 1
            have hgv : wrap64 (ef + idxI page 1) = ef + idxI page 1 := (by unfold wrap64; omega)
            have hg0 : 0 ≤ wrap64 (ef + idxI page 1) := by rw [hgv]; omega
            clear hgv
            generalize hgw : wrap64 (ef + idxI page 1) = gv at *
            clear hi1 HR1 HR2 HR3 hR9 hc9 hm9 hrow9 hE9 hch9 hP9 k8 hc8_ hch10 hr8 e0_ e1_ e2_ e3_ e4_ e5_ e6_ e7_ e8_ f5b p0_ p1_ p2_ p3_ p4_ p5_ p6_ f0_ f1_ f2_ f3_ f4_ f5_ f6_ hR8 hP8 hE8 hrow8 hc8 hm8
            obtain ⟨p0_, p1_, p2_, p3_, p4_, p5_, p6_, f0_, f1_, f2_, f3_, f4_, f5_, f6_⟩ := blk7 hPa
            have hPb := hP10
            clear hP10
            generalize Value.slice (some ⟨g', 0, none⟩) (pats.length + 1) c' = v9 at *
            rw [← hplen] at hrow
            generalize pats ++ [(g, ix)] = PP at *
            clear hplen
            have hMay := fun w0 => RMay_any ⟨prw && ew, pru && eu, prx && !en⟩ kind user w0
            simp only [Rg.cs] at hMay
            have hG : grantP L.length kind user R = if mayB ⟨prw && ew, pru && eu, prx && !en⟩ kind user then (if gv ≥ (L.length : Int) then .error 0 else R) else .error 3 := by rw [hRk]; rfl
            generalize mayB ⟨prw && ew, pru && eu, prx && !en⟩ kind user = tb at *
            have HGG := Lib.hid hG
            have HRK := Lib.hid hRk
            clear hG hRk
            obtain ⟨p0_, p1_, p2_, p3_, p4_, p5_, p6_, f0_, f1_, f2_, f3_, f4_, f5_, f6_⟩ := blk7 hPb
            go_wp2_with fail
            refine (hMay _).mono ?_; rintro e u1 ⟨rfl, y1⟩
            have hR1 := hRb.chg_ y1 (by simp); have hP1 := hPb.chg_ y1 (by simp); have hc1 := hc.trans y1 (by simp); have hrow1 := own_chg hrow y1 (by simp); have g1 := gu.self hc1
            clear hRb hPb hc hrow y1 p0_ p1_ p2_ p3_ p4_ p5_ p6_ f0_ f1_ f2_ f3_ f4_ f5_ f6_ hMay
            cases tb with
            | false =>
              have HW : Hid (walkP n W L root page kind user = (Pa.zero, 1, codeN kind user true false)) := Lib.hid (by rw [HWP.out, HGG.out]; rfl)
              obtain ⟨r0, r1, r2, r3, r4, r5, r6, q0, q1, q2, q3, q4, q5, q6⟩ := blk7 hR1
              go_wp2_with fail
              refine (RCode_any kind user true false _).mono ?_; rintro e u2 ⟨rfl, rfl⟩
              go_wp2_with fail
              refine bodyPost_ret (cell_tmps_ret rfl (set7 hR1) rfl Tryz.underlying108 rfl (by kernel_rfl)) rfl ?_
              rw [HW.out]
              exact ⟨none, 0, rfl, World.ownsRow_nil _ _ _ _, chg7 hc1 (by omega)⟩
            | true =>
              have hFr := RGuFrames_at q S p L h b n W _ g1
              have hgn : ¬ gv < 0 := by omega
              by_cases hge : gv ≥ (L.length : Int)
              · have HW : Hid (walkP n W L root page kind user = (Pa.zero, 3, 0)) := Lib.hid (by rw [HWP.out, HGG.out, if_pos rfl, if_pos hge]; rfl)
                obtain ⟨r0, r1, r2, r3, r4, r5, r6, q0, q1, q2, q3, q4, q5, q6⟩ := blk7 hR1
                go_wp2_with fail
                refine hFr.mono ?_; rintro e u2 ⟨rfl, rfl⟩
                go_wp2_with fail
                refine bodyPost_ret (cell_tmps_ret rfl (set7 hR1) rfl Tryz.underlying108 rfl (by kernel_rfl)) rfl ?_
                rw [HW.out]
                exact ⟨none, 0, rfl, World.ownsRow_nil _ _ _ _, chg7 hc1 (by omega)⟩
              · have HW : Hid (walkP n W L root page kind user = (⟨PP, gv, ⟨prw && ew, pru && eu, prx && !en⟩, true, ed⟩, 0, 0)) := Lib.hid (by rw [HWP.out, HGG.out, if_pos rfl, if_neg hge, HRK.out]; rfl)
                obtain ⟨r0, r1, r2, r3, r4, r5, r6, q0, q1, q2, q3, q4, q5, q6⟩ := blk7 hR1
                obtain ⟨p0_, p1_, p2_, p3_, p4_, p5_, p6_, f0_, f1_, f2_, f3_, f4_, f5_, f6_⟩ := blk7 hP1
                obtain ⟨A1, c1, rfl, _, _⟩ := own_form hrow1
                go_wp2_with fail
                refine hFr.mono ?_; rintro e u2 ⟨rfl, rfl⟩
                clear p0_ p1_ p2_ p3_ p4_ p5_ p6_ f0_ f1_ f2_ f3_ f4_ f5_ f6_
                have hP2 := hP1.set_ 1 (.int .i64 (gv))
                have hR2 := hR1.far (p := ⟨pb, 1, none⟩) hne (.int .i64 (gv))
                simp only [List.setIfInBounds_toArray, List.set_cons_zero, List.set_cons_succ] at hP2
                have f1_ := hP1.frozen 1
                have p1_ := hP1.cell 1
                simp only [List.getElem?_toArray, List.getElem?_cons_zero, List.getElem?_cons_succ] at p1_
                clear r0 r1 r2 r3 r4 r5 r6 q0 q1 q2 q3 q4 q5 q6
                obtain ⟨r0, r1, r2, r3, r4, r5, r6, q0, q1, q2, q3, q4, q5, q6⟩ := blk7 hR2
                obtain ⟨p0_, p1b_, p2_, p3_, p4_, p5_, p6_, f0_, f1b_, f2_, f3_, f4_, f5_, f6_⟩ := blk7 hP2
                go_wp2_with fail
                refine bodyPost_ret (cell_tmps_ret rfl (set7 hR2) rfl Tryz.underlying108 rfl (by kernel_rfl)) rfl ?_
                rw [HW.out]
                have hcc := (Chg.refl [m, pb] u1).setCell (p := ⟨pb, 1, none⟩) (by simp) (.int .i64 (gv))
                refine ⟨A1, c1, rfl, ?_, chg7 ((hc1.weak (T := []) (by simp)).setCell (p := ⟨pb, 1, none⟩) (by intro hh; simp only at hh; omega) (.int .i64 (gv))) (by omega)⟩
                rw [hmm]
                refine own_chg hrow1 (chg7 hcc (by simp)) (fun gg hg hi => ?_)
                obtain ⟨cs, hb⟩ := own_cells hrow1 gg (by simp [hg])
                simp at hi
                rcases hi with rfl | rfl
                · exact Blk.type_ne hb hR1 (by decide) rfl
                · exact Blk.type_ne hb hP1 (by decide) rfl
          · go_simp
            (go_at_call 97; refine (hOf _).mono ?_; rintro e u5 ⟨rfl, y5⟩; have x5 : Chg [] W3 u5 := Chg.trans c3_ y5 (by simp); have hQ5 := hP7.chg_ x5 (by simp); clear p0_ p1_ p2_ p3_ p4_ p5_ p6_ f0_ f1_ f2_ f3_ f4_ f5_ f6_; obtain ⟨p0_, p1_, p2_, p3_, p4_, p5_, p6_, f0_, f1_, f2_, f3_, f4_, f5_, f6_⟩ := blk7 hQ5)
            refine hK.out _ _ (by (try dsimp only); exact hE7.chg_ x5 (by simp)) (fun hHeld => ?_)
            clear hK K
            (try simp only [Act.put, List.setIfInBounds_toArray, List.set_cons_zero, List.set_cons_succ])
            refine wpAnyH_ready (rs := [1]) (by kernel_rfl) (by simp) ?_; refine AllReadyH.cons (o := _) rfl (fun K hK => ?_) AllReadyH.nil
            go_simp
            skip
            refine hK.out _ _ (by (try dsimp only); exact hHeld) (fun hHeld => ?_)
            clear hK K
            (try simp only [Act.put, List.setIfInBounds_toArray, List.set_cons_zero, List.set_cons_succ])
            refine wpAnyH_ready (rs := [4]) (by kernel_rfl) (by simp) ?_; refine AllReadyH.cons (o := _) rfl (fun K hK => ?_) AllReadyH.nil
            go_simp
            skip
            refine hK.out _ _ (by (try dsimp only); exact Blk.alloc hHeld _) (fun hHeld => ?_)
            clear hK K
            (try simp only [Act.put, List.setIfInBounds_toArray, List.set_cons_zero, List.set_cons_succ])
            refine wpAnyH_ready (rs := [5]) (by kernel_rfl) (by simp) ?_; refine AllReadyH.cons (o := _) rfl (fun K hK => ?_) AllReadyH.nil
            go_simp
            (go_at_call 96; refine (hM _ _ (Blk.new u5 60 _)).mono ?_; rintro e u6 ⟨rfl, y6⟩; have x6 : Chg [] W3 u6 := Chg.trans (Chg.alloc x5 (.cells #[.bool prw, .bool pru, .bool prx, .bool ew, .bool eu, .bool !en] 60)) y6 (by simp); have hQ6 := hP7.chg_ x6 (by simp); clear p0_ p1_ p2_ p3_ p4_ p5_ p6_ f0_ f1_ f2_ f3_ f4_ f5_ f6_; obtain ⟨p0_, p1_, p2_, p3_, p4_, p5_, p6_, f0_, f1_, f2_, f3_, f4_, f5_, f6_⟩ := blk7 hQ6)
            refine hK.out _ _ (by (try dsimp only); exact hE7.chg_ x6 (by simp)) (fun hHeld => ?_)
            clear hK K
            (try simp only [Act.put, List.setIfInBounds_toArray, List.set_cons_zero, List.set_cons_succ])
            refine wpAnyH_ready (rs := [6]) (by kernel_rfl) (by simp) ?_; refine AllReadyH.cons (o := _) rfl (fun K hK => ?_) AllReadyH.nil
            go_simp
            skip
            refine hK.out _ _ (by (try dsimp only); exact hHeld) (fun hHeld => ?_)
            clear hK K
            (try simp only [Act.put, List.setIfInBounds_toArray, List.set_cons_zero, List.set_cons_succ])
            refine wpAnyH_ready (rs := [7]) (by kernel_rfl) (by simp) ?_; refine AllReadyH.cons (o := _) rfl (fun K hK => ?_) AllReadyH.nil
            go_simp
            skip
            refine hK.out _ _ (by (try dsimp only); exact ((hHeld.far hne5 _).far hne5 _).far hne5 _) (fun hHeld => ?_)
            clear hK K
            (try simp only [Act.put, List.setIfInBounds_toArray, List.set_cons_zero, List.set_cons_succ])
            refine wpAnyH_done (by kernel_rfl) ?_ _
            refine NoPanic.normal ?_
            have hch7 := (((Chg.refl [pb] u6).setCell (p := ⟨pb, 2, none⟩) (by simp) (.bool (prw && ew))).setCell (p := ⟨pb, 3, none⟩) (by simp) (.bool (pru && eu))).setCell (p := ⟨pb, 4, none⟩) (by simp) (.bool (prx && !en))
            have hP8 := ((hQ6.set_ 2 (.bool (prw && ew))).set_ 3 (.bool (pru && eu))).set_ 4 (.bool (prx && !en))
            simp only [List.setIfInBounds_toArray, List.set_cons_zero, List.set_cons_succ] at hP8
            have hE8 := (hE7.chg_ x6 (by simp)).chg_ hch7 (by simpa using hne5)
            have hR8 := (hR7.chg_ x6 (by simp)).chg_ hch7 (by simpa using hne)
            have hrow7 := own_chg hrow6 x6 (by simp)
            have hrow8 := own_chg hrow7 hch7 (fun g hg hi => by (obtain ⟨cs, hb⟩ := own_cells hrow7 g (by simp [hg]); simp at hi; subst hi; exact Blk.type_ne hb hQ6 (by decide) rfl))
            have hc8 := (hc7.trans x6 (by simp)).trans hch7 (by intro i hi hm; simp at hm; omega)
            have hm8 := Nat.le_trans (Nat.le_trans hm7 x6.size) hch7.size
            clear hrow7 hch7 hQ6 x6 y6 hQ5 x5 y5 p0_ p1_ p2_ p3_ p4_ p5_ p6_ f0_ f1_ f2_ f3_ f4_ f5_ f6_ hHeld hrow6 hP7 hE7 hR7 hc7 hm7 c3_ hM hOf
            generalize ((u6.setCell ⟨pb, 2, none⟩ (.bool (prw && ew))).setCell ⟨pb, 3, none⟩ (.bool (pru && eu))).setCell ⟨pb, 4, none⟩ (.bool (prx && !en)) = W8 at *
            obtain ⟨e0_, e1_, e2_, e3_, e4_, e5_, e6_, e7_, e8_⟩ := blk9 hE8
            obtain ⟨p0_, p1_, p2_, p3_, p4_, p5_, p6_, f0_, f1_, f2_, f3_, f4_, f5_, f6_⟩ := blk7 hP8
            have hP9 := hP8.set_ 6 (.bool ed)
            simp only [List.setIfInBounds_toArray, List.set_cons_zero, List.set_cons_succ] at hP9
            have hch9 := (Chg.refl [pb] W8).setCell (p := ⟨pb, 6, none⟩) (by simp) (.bool ed)
            have hE9 := hE8.chg_ hch9 (by simpa using hne5)
            have hR9 := hR8.chg_ hch9 (by simpa using hne)
            have hrow9 := own_chg hrow8 hch9 (fun g hg hi => by (obtain ⟨cs, hb⟩ := own_cells hrow8 g (by simp [hg]); simp at hi; subst hi; exact Blk.type_ne hb hP8 (by decide) rfl))
            have hc9 := hc8.trans hch9 (by intro i hi hm; simp at hm; omega)
            have hm9 := Nat.le_trans hm8 hch9.size
            have f5b := e5_
            replace e5_ := hE9.cell 5
            simp only [List.getElem?_toArray, List.getElem?_cons_zero, List.getElem?_cons_succ] at e5_
            go_wp2_with fail
            refine (hId1 _).mono ?_; rintro e v8 ⟨rfl, k8⟩
            have hP10 := (hP9.chg_ k8 (by simp)).set_ 5 (.bool true)
            simp only [List.setIfInBounds_toArray, List.set_cons_zero, List.set_cons_succ] at hP10
            have hPa := hP9.chg_ k8 (by simp)
            have hc8_ : Chg [] w v8 := hc9.trans k8 (by simp)
            have hch10 := (Chg.refl [pb] v8).setCell (p := ⟨pb, 5, none⟩) (by simp) (.bool true)
            have hRb := (hR9.chg_ k8 (by simp)).chg_ hch10 (by simpa using hne)
            have hr8 := own_chg hrow9 k8 (by simp)
            have hrow := own_chg hr8 hch10 (fun g hg hi => by (obtain ⟨cs, hb⟩ := own_cells hr8 g (by simp [hg]); simp at hi; subst hi; exact Blk.type_ne hb hPa (by decide) rfl))
            have hc := hc8_.trans hch10 (by intro i hi hm; simp at hm; omega)
            have hRk := HR1.out trivial
            have hi1 := idxI_range page 1
            have hgv : wrap64 (ef + idxI page 1) = ef + idxI page 1 := (by unfold wrap64; omega)
            have hg0 : 0 ≤ wrap64 (ef + idxI page 1) := by rw [hgv]; omega
            clear hgv
            generalize hgw : wrap64 (ef + idxI page 1) = gv at *
            clear hi1 HR1 HR2 HR3 hR9 hc9 hm9 hrow9 hE9 hch9 hP9 k8 hc8_ hch10 hr8 e0_ e1_ e2_ e3_ e4_ e5_ e6_ e7_ e8_ f5b p0_ p1_ p2_ p3_ p4_ p5_ p6_ f0_ f1_ f2_ f3_ f4_ f5_ f6_ hR8 hP8 hE8 hrow8 hc8 hm8
            obtain ⟨p0_, p1_, p2_, p3_, p4_, p5_, p6_, f0_, f1_, f2_, f3_, f4_, f5_, f6_⟩ := blk7 hPa
            have hPb := hP10
            clear hP10
            generalize Value.slice (some ⟨g', 0, none⟩) (pats.length + 1) c' = v9 at *
            rw [← hplen] at hrow
            generalize pats ++ [(g, ix)] = PP at *
            clear hplen
            have hMay := fun w0 => RMay_any ⟨prw && ew, pru && eu, prx && !en⟩ kind user w0
            simp only [Rg.cs] at hMay
            have hG : grantP L.length kind user R = if mayB ⟨prw && ew, pru && eu, prx && !en⟩ kind user then (if gv ≥ (L.length : Int) then .error 0 else R) else .error 3 := by rw [hRk]; rfl
            generalize mayB ⟨prw && ew, pru && eu, prx && !en⟩ kind user = tb at *
            have HGG := Lib.hid hG
            have HRK := Lib.hid hRk
            clear hG hRk
            obtain ⟨p0_, p1_, p2_, p3_, p4_, p5_, p6_, f0_, f1_, f2_, f3_, f4_, f5_, f6_⟩ := blk7 hPb
            go_wp2_with fail
            refine (hMay _).mono ?_; rintro e u1 ⟨rfl, y1⟩
            have hR1 := hRb.chg_ y1 (by simp); have hP1 := hPb.chg_ y1 (by simp); have hc1 := hc.trans y1 (by simp); have hrow1 := own_chg hrow y1 (by simp); have g1 := gu.self hc1
            clear hRb hPb hc hrow y1 p0_ p1_ p2_ p3_ p4_ p5_ p6_ f0_ f1_ f2_ f3_ f4_ f5_ f6_ hMay
            cases tb with
            | false =>
              have HW : Hid (walkP n W L root page kind user = (Pa.zero, 1, codeN kind user true false)) := Lib.hid (by rw [HWP.out, HGG.out]; rfl)
              obtain ⟨r0, r1, r2, r3, r4, r5, r6, q0, q1, q2, q3, q4, q5, q6⟩ := blk7 hR1
              go_wp2_with fail
              refine (RCode_any kind user true false _).mono ?_; rintro e u2 ⟨rfl, rfl⟩
              go_wp2_with fail
              refine bodyPost_ret (cell_tmps_ret rfl (set7 hR1) rfl Tryz.underlying108 rfl (by kernel_rfl)) rfl ?_
              rw [HW.out]
              exact ⟨none, 0, rfl, World.ownsRow_nil _ _ _ _, chg7 hc1 (by omega)⟩
            | true =>
              have hFr := RGuFrames_at q S p L h b n W _ g1
              have hgn : ¬ gv < 0 := by omega
              by_cases hge : gv ≥ (L.length : Int)
              · have HW : Hid (walkP n W L root page kind user = (Pa.zero, 3, 0)) := Lib.hid (by rw [HWP.out, HGG.out, if_pos rfl, if_pos hge]; rfl)
                obtain ⟨r0, r1, r2, r3, r4, r5, r6, q0, q1, q2, q3, q4, q5, q6⟩ := blk7 hR1
                go_wp2_with fail
                refine hFr.mono ?_; rintro e u2 ⟨rfl, rfl⟩
                go_wp2_with fail
                refine bodyPost_ret (cell_tmps_ret rfl (set7 hR1) rfl Tryz.underlying108 rfl (by kernel_rfl)) rfl ?_
                rw [HW.out]
                exact ⟨none, 0, rfl, World.ownsRow_nil _ _ _ _, chg7 hc1 (by omega)⟩
              · have HW : Hid (walkP n W L root page kind user = (⟨PP, gv, ⟨prw && ew, pru && eu, prx && !en⟩, true, ed⟩, 0, 0)) := Lib.hid (by rw [HWP.out, HGG.out, if_pos rfl, if_neg hge, HRK.out]; rfl)
                obtain ⟨r0, r1, r2, r3, r4, r5, r6, q0, q1, q2, q3, q4, q5, q6⟩ := blk7 hR1
                obtain ⟨p0_, p1_, p2_, p3_, p4_, p5_, p6_, f0_, f1_, f2_, f3_, f4_, f5_, f6_⟩ := blk7 hP1
                obtain ⟨A1, c1, rfl, _, _⟩ := own_form hrow1
                go_wp2_with fail
                refine hFr.mono ?_; rintro e u2 ⟨rfl, rfl⟩
                clear p0_ p1_ p2_ p3_ p4_ p5_ p6_ f0_ f1_ f2_ f3_ f4_ f5_ f6_
                have hP2 := hP1.set_ 1 (.int .i64 (gv))
                have hR2 := hR1.far (p := ⟨pb, 1, none⟩) hne (.int .i64 (gv))
                simp only [List.setIfInBounds_toArray, List.set_cons_zero, List.set_cons_succ] at hP2
                have f1_ := hP1.frozen 1
                have p1_ := hP1.cell 1
                simp only [List.getElem?_toArray, List.getElem?_cons_zero, List.getElem?_cons_succ] at p1_
                clear r0 r1 r2 r3 r4 r5 r6 q0 q1 q2 q3 q4 q5 q6
                obtain ⟨r0, r1, r2, r3, r4, r5, r6, q0, q1, q2, q3, q4, q5, q6⟩ := blk7 hR2
                obtain ⟨p0_, p1b_, p2_, p3_, p4_, p5_, p6_, f0_, f1b_, f2_, f3_, f4_, f5_, f6_⟩ := blk7 hP2
                go_wp2_with fail
                refine bodyPost_ret (cell_tmps_ret rfl (set7 hR2) rfl Tryz.underlying108 rfl (by kernel_rfl)) rfl ?_
                rw [HW.out]
                have hcc := (Chg.refl [m, pb] u1).setCell (p := ⟨pb, 1, none⟩) (by simp) (.int .i64 (gv))
                refine ⟨A1, c1, rfl, ?_, chg7 ((hc1.weak (T := []) (by simp)).setCell (p := ⟨pb, 1, none⟩) (by intro hh; simp only at hh; omega) (.int .i64 (gv))) (by omega)⟩
                rw [hmm]
                refine own_chg hrow1 (chg7 hcc (by simp)) (fun gg hg hi => ?_)
                obtain ⟨cs, hb⟩ := own_cells hrow1 gg (by simp [hg])
                simp at hi
                rcases hi with rfl | rfl
                · exact Blk.type_ne hb hR1 (by decide) rfl
                · exact Blk.type_ne hb hP1 (by decide) rfl
end Go.Proofs.YtgebfagiomcmbaaGreatDoor

namespace Go.Proofs.YtgebfagiomcmbaaGreatDoor
open Go.RowKit Go.Maps

theorem rgu_get (q : Nat) (S : List Nat) (p : Nat) (L : List Int) (h b n : Nat) (W : List Int) (f i : Int) (x : Int) (t : Bool) (w : World) (g : RGuIn w q S p L h b n W) (hx : getG n W L f i = x) (ht : hasG n L f i = t) :
    Calls Tryz.prog 63 #[.pointer (some ⟨q, 0, none⟩), .int .i64 f, .int .i64 i] w fun e w' => e = .returned (.tuple #[.int .u64 x, .bool t]) ∧ w = w' := hx ▸ ht ▸ RGuGet_at q S p L h b n W f i w g
theorem rgu_set (q : Nat) (S : List Nat) (p : Nat) (L : List Int) (h b n : Nat) (W : List Int) (f i v : Int) (t : Bool) (W' : List Int) (w : World) (g : RGuIn w q S p L h b n W) (ht : hasG n L f i = t) (hW : setG n W L f i v = W') :
    Calls Tryz.prog 40 #[.pointer (some ⟨q, 0, none⟩), .int .i64 f, .int .i64 i, .int .u64 v] w fun e w' => e = .returned (.bool t) ∧ Chg [b] w w' ∧ RGuIn w' q S p L h b n W' := ht ▸ hW ▸ RGuSet_at q S p L h b n W f i v w g
theorem usedT_eq (v : Nat) (t : Bool) : usedT v t = usedN v t := rfl

set_option maxRecDepth 100000 in
set_option maxHeartbeats 8000000 in
theorem RMarked_at (q : Nat) (S : List Nat) (p : Nat) (L : List Int) (h b n : Nat) (W : List Int) (A : Option Addr) (c : Nat) (P : Pa) (w : World) (gu : RGuIn w q S p L h b n W) (hW : WdW W) (hs : SlA w A P.ats.length P.ats) (hN : P.ats.length ≤ 9223372036854775807) :
    Calls Tryz.prog 101 #[.pointer (some ⟨q, 0, none⟩), .agg (pathV A c P)] w fun e w' => e = .returned (.bool (usedAts n W L P.ats)) ∧ Chg [] w w' := by
  obtain ⟨ats, pg, ⟨rw, ru, rx⟩, lg, dy⟩ := P
  simp only [pathV, usedAts] at *
  have hc0 := (Chg.refl [] w).alloc (.cells #[.slice A ats.length c, .int .i64 pg, .bool rw, .bool ru, .bool rx, .bool lg, .bool dy] 108)
  have hP0 := Blk.new w 108 #[.slice A ats.length c, .int .i64 pg, .bool rw, .bool ru, .bool rx, .bool lg, .bool dy]
  have gu0 := gu.self hc0
  have hs0 := hs.self hc0
  obtain ⟨p0_, p1_, p2_, p3_, p4_, p5_, p6_, _, _, _, _, _, _, _⟩ := blk7 hP0
  go_enter Tryz.func101, Tryz.ntmps101
  go_wp2_with fail
  generalize w.alloc (.cells #[.slice A ats.length c, .int .i64 pg, .bool rw, .bool ru, .bool rx, .bool lg, .bool dy] 108) = w0 at *
  generalize w.heap.size = pb at *
  clear p0_ p1_ p2_ p3_ p4_ p5_ p6_
  go_loopw [5] (fun i w' => ∃ k : Nat, k ≤ ats.length ∧ i = .int .i64 k ∧ Chg [] w0 w' ∧ (ats.take k).all (fun a => hasG n L a.1 a.2 && (getE (getG n W L a.1 a.2).toNat).a) = true) (fun i _ => ats.length - (intOf i).toNat)
  case atStart => exact ⟨0, by omega, rfl, Chg.refl [] w0, rfl⟩
  case round =>
    obtain ⟨k, hk, rfl, hc, hall⟩ := hrel
    have hPk := hP0.chg_ hc (by simp)
    have p0_ := hPk.cell 0
    simp only [List.getElem?_toArray, List.getElem?_cons_zero] at p0_
    have hcw := hc0.trans hc (by simp)
    by_cases hlt : k < ats.length
    · obtain ⟨ab, off, rfl, hb, hx, c0, c1⟩ := (hs0.self hc).get hlt
      have guk := gu0.self hc
      have hel : ((hasG n L (ats.getD k (0, 0)).1 (ats.getD k (0, 0)).2 && (getE (getG n W L (ats.getD k (0, 0)).1 (ats.getD k (0, 0)).2).toNat).a) = true → (ats.take (k + 1)).all (fun a => hasG n L a.1 a.2 && (getE (getG n W L a.1 a.2).toNat).a) = true) ∧ ((hasG n L (ats.getD k (0, 0)).1 (ats.getD k (0, 0)).2 && (getE (getG n W L (ats.getD k (0, 0)).1 (ats.getD k (0, 0)).2).toNat).a) = false → ats.all (fun a => hasG n L a.1 a.2 && (getE (getG n W L a.1 a.2).toNat).a) = false) := by
        cases ho : (hasG n L (ats.getD k (0, 0)).1 (ats.getD k (0, 0)).2 && (getE (getG n W L (ats.getD k (0, 0)).1 (ats.getD k (0, 0)).2).toNat).a) with
        | true =>
          refine ⟨fun _ => ?_, fun h => by cases h⟩
          have hkl := (List.getElem?_eq_some_iff.1 hx).1
          rw [List.take_succ_eq_append_getElem hkl, (List.getElem?_eq_some_iff.1 hx).2, List.all_append, hall]
          simp only [List.all_cons, List.all_nil, Bool.and_true, Bool.true_and]
          exact ho
        | false =>
          refine ⟨(fun h => by cases h), fun _ => ?_⟩
          rw [List.all_eq_false]
          exact ⟨_, List.mem_of_getElem? hx, by rw [ho]; simp⟩
      generalize hgi : ats.getD k (0, 0) = gi at *
      obtain ⟨g, i⟩ := gi
      simp only at c0 c1 hel hx
      clear hgi hx hall
      by_cases hh : hasG n L g i = true
      · obtain ⟨_, r2, r3⟩ := rd_word hW hh
        rw [hh] at hel
        have hcs : (getE (getG n W L g i).toNat).cs = #[.bool (getE (getG n W L g i).toNat).p, .bool (getE (getG n W L g i).toNat).w, .bool (getE (getG n W L g i).toNat).u, .bool (getE (getG n W L g i).toNat).a, .bool (getE (getG n W L g i).toNat).d, .bool (getE (getG n W L g i).toNat).s, .bool (getE (getG n W L g i).toNat).n, .bool (getE (getG n W L g i).toNat).bad, .int .i64 (getE (getG n W L g i).toNat).f] := rfl
        have hGet := fun w0 : World => RGet_any (getG n W L g i).toNat w0 r3
        rw [hcs] at hGet
        clear hcs
        generalize (getE (getG n W L g i).toNat).p = e0 at *
        generalize (getE (getG n W L g i).toNat).w = e1 at *
        generalize (getE (getG n W L g i).toNat).u = e2 at *
        generalize (getE (getG n W L g i).toNat).a = e3 at *
        generalize (getE (getG n W L g i).toNat).d = e4 at *
        generalize (getE (getG n W L g i).toNat).s = e5 at *
        generalize (getE (getG n W L g i).toNat).n = e6 at *
        generalize (getE (getG n W L g i).toNat).bad = e7 at *
        generalize (getE (getG n W L g i).toNat).f = e8 at *
        have HEL := Lib.hid hel
        clear hel
        generalize hv : (getG n W L g i).toNat = v at *
        have hfd : ∀ w0 : World, (Instr.field 154 (.agg #[.bool e0, .bool e1, .bool e2, .bool e3, .bool e4, .bool e5, .bool e6, .bool e7, .int .i64 e8]) 3).run Tryz.prog w0 = .ok (.bool e3) w0 := fun w0 => by kernel_rfl
        have HG := fun m : Cls wr => (rgu_get q S p L h b n W g i v true m.val (guk.self m.ok) r2 hh).mono fun e w' (hh : _ ∧ m.val = w') => (⟨hh.1, hh.2 ▸ Chg.refl [] m.val⟩ : _ ∧ Chg [] m.val w')
        have K0 := fun nq : Cls wr => nq.cell p0_
        have K1 := fun nq : Cls wr => nq.cell c0
        have K2 := fun nq : Cls wr => nq.cell c1
        go_wp2_with fail
        refine wp_region_cls (by kernel_rfl) (by kernel_rfl) ?_
        repeat (go_big_quiet_step ((go_at_call 63; with_reducible exact Calls.cls (HG _))))
        refine wpQuiet_nil ?_
        rintro _ ⟨nq, rfl⟩
        clear HG r2 hh hv K0 K1 K2
        cases e3
        case true =>
          go_wp2_with fail
          refine (hGet _).mono ?_; rintro e w3 ⟨rfl, k3⟩
          go_wp2_with fail
          go_roundw
          case rel => exact ⟨k + 1, by omega, by go_num, (hc.trans nq.ok (by simp)).trans k3 (by simp), HEL.out.1 (by simp)⟩
          case measure => simp [intOf]; omega
        case false =>
          go_wp2_with fail
          refine (hGet _).mono ?_; rintro e w3 ⟨rfl, k3⟩
          go_wp2_with fail
          go_ret
          exact ⟨ret_bool (HEL.out.2 (by simp)).symm, (hcw.trans nq.ok (by simp)).trans k3 (by simp)⟩
      · have hh' : hasG n L g i = false := by simpa using hh
        rw [hh'] at hel
        have HEL : Hid (ats.all (fun a => hasG n L a.1 a.2 && (getE (getG n W L a.1 a.2).toNat).a) = false) := Lib.hid (hel.2 (by simp))
        clear hel
        have HG := fun m : Cls wr => (rgu_get q S p L h b n W g i _ false m.val (guk.self m.ok) rfl hh').mono fun e w' (hh : _ ∧ m.val = w') => (⟨hh.1, hh.2 ▸ Chg.refl [] m.val⟩ : _ ∧ Chg [] m.val w')
        have K0 := fun nq : Cls wr => nq.cell p0_
        have K1 := fun nq : Cls wr => nq.cell c0
        have K2 := fun nq : Cls wr => nq.cell c1
        go_wp2_with fail
        refine wp_region_cls (by kernel_rfl) (by kernel_rfl) ?_
        repeat (go_big_quiet_step ((go_at_call 63; with_reducible exact Calls.cls (HG _))))
        refine wpQuiet_nil ?_
        rintro _ ⟨nq, rfl⟩
        clear HG hh hh'
        go_wp2_with fail
        go_ret
        exact ⟨ret_bool HEL.out.symm, hcw.trans nq.ok (by simp)⟩
    · obtain rfl : k = ats.length := by omega
      have HALL : Hid (ats.all (fun a => hasG n L a.1 a.2 && (getE (getG n W L a.1 a.2).toNat).a) = true) := Lib.hid (by rw [List.take_length] at hall; exact hall)
      clear hall
      go_wp2_with fail
      go_ret
      exact ⟨ret_bool HALL.out.symm, hcw⟩

set_option maxRecDepth 100000 in
set_option maxHeartbeats 16000000 in
theorem RMark_at (q : Nat) (S : List Nat) (p : Nat) (L : List Int) (h b n : Nat) (W : List Int) (A : Option Addr) (c : Nat) (P : Pa) (written : Bool) (w : World) (gu : RGuIn w q S p L h b n W) (hW : WdW W) (hs : SlA w A P.ats.length P.ats) (hN : P.ats.length ≤ 9223372036854775807) (hap : ∀ g o, A = some ⟨g, o, none⟩ → g ≠ b) :
    Calls Tryz.prog 60 #[.pointer (some ⟨q, 0, none⟩), .agg (pathV A c P), .bool written] w fun e w' => e = .returned (.bool (allAts n L P.ats)) ∧ Chg [b] w w' ∧ RGuIn w' q S p L h b n (markP n L P.ats written W) := by
  obtain ⟨ats, pg, ⟨rw, ru, rx⟩, lg, dy⟩ := P
  simp only [pathV] at *
  have hc0 := (Chg.refl [] w).alloc (.cells #[.slice A ats.length c, .int .i64 pg, .bool rw, .bool ru, .bool rx, .bool lg, .bool dy] 108)
  have hP0 := Blk.new w 108 #[.slice A ats.length c, .int .i64 pg, .bool rw, .bool ru, .bool rx, .bool lg, .bool dy]
  have gu0 := gu.self hc0
  have hs0 := hs.self hc0
  have hbw := gu.hm.ws.lt
  have HMP : Hid (markP n L ats written W = if allAts n L ats then markTo n L ats written W ats.length else W) := Lib.hid rfl
  unfold allAts at HMP ⊢
  obtain ⟨p0_, p1_, p2_, p3_, p4_, p5_, p6_, _, _, _, _, _, _, _⟩ := blk7 hP0
  go_enter Tryz.func60, Tryz.ntmps60
  go_wp2_with fail
  generalize w.alloc (.cells #[.slice A ats.length c, .int .i64 pg, .bool rw, .bool ru, .bool rx, .bool lg, .bool dy] 108) = w0 at *
  generalize hpb : w.heap.size = pb at *
  clear p0_ p1_ p2_ p3_ p4_ p5_ p6_ gu hs
  go_loopw [7] (fun i w' => ∃ k : Nat, k ≤ ats.length ∧ i = .int .i64 k ∧ Chg [] w0 w' ∧ (ats.take k).all (fun a => hasG n L a.1 a.2) = true) (fun i _ => ats.length - (intOf i).toNat)
  case atStart => exact ⟨0, by omega, rfl, Chg.refl [] w0, rfl⟩
  case round =>
    obtain ⟨k, hk, rfl, hc, hall⟩ := hrel
    have hPk := hP0.chg_ hc (by simp)
    have p0_ := hPk.cell 0
    simp only [List.getElem?_toArray, List.getElem?_cons_zero] at p0_
    have hcw := hc0.trans hc (by simp)
    by_cases hlt : k < ats.length
    · obtain ⟨ab, off, rfl, hb, hx, c0, c1⟩ := (hs0.self hc).get hlt
      have guk := gu0.self hc
      have hel : ((hasG n L (ats.getD k (0, 0)).1 (ats.getD k (0, 0)).2) = true → (ats.take (k + 1)).all (fun a => hasG n L a.1 a.2) = true) ∧ ((hasG n L (ats.getD k (0, 0)).1 (ats.getD k (0, 0)).2) = false → ats.all (fun a => hasG n L a.1 a.2) = false) := by
        cases ho : (hasG n L (ats.getD k (0, 0)).1 (ats.getD k (0, 0)).2) with
        | true =>
          refine ⟨fun _ => ?_, fun h => by cases h⟩
          have hkl := (List.getElem?_eq_some_iff.1 hx).1
          rw [List.take_succ_eq_append_getElem hkl, (List.getElem?_eq_some_iff.1 hx).2, List.all_append, hall]
          simp only [List.all_cons, List.all_nil, Bool.and_true, Bool.true_and]
          exact ho
        | false =>
          refine ⟨(fun h => by cases h), fun _ => ?_⟩
          rw [List.all_eq_false]
          exact ⟨_, List.mem_of_getElem? hx, by rw [ho]; simp⟩
      generalize hgi : ats.getD k (0, 0) = gi at *
      obtain ⟨g, i⟩ := gi
      simp only at c0 c1 hel hx
      clear hgi hx hall
      by_cases hh : hasG n L g i = true
      · rw [hh] at hel
        have HEL := Lib.hid hel
        clear hel
        have HG := fun m : Cls wr => (rgu_get q S p L h b n W g i _ true m.val (guk.self m.ok) rfl hh).mono fun e w' (hh : _ ∧ m.val = w') => (⟨hh.1, hh.2 ▸ Chg.refl [] m.val⟩ : _ ∧ Chg [] m.val w')
        have K0 := fun nq : Cls wr => nq.cell p0_
        have K1 := fun nq : Cls wr => nq.cell c0
        have K2 := fun nq : Cls wr => nq.cell c1
        go_wp2_with fail
        refine wp_region_cls (by kernel_rfl) (by kernel_rfl) ?_
        repeat (go_big_quiet_step ((go_at_call 63; with_reducible exact Calls.cls (HG _))))
        refine wpQuiet_nil ?_
        rintro _ ⟨nq, rfl⟩
        clear HG hh K0 K1 K2
        go_wp2_with fail
        go_roundw
        case rel => exact ⟨k + 1, by omega, by go_num, hc.trans nq.ok (by simp), HEL.out.1 (by simp)⟩
        case measure => simp [intOf]; omega
      · have hh' : hasG n L g i = false := by simpa using hh
        rw [hh'] at hel
        have HEL : Hid (ats.all (fun a => hasG n L a.1 a.2) = false) := Lib.hid (hel.2 (by simp))
        clear hel
        have HG := fun m : Cls wr => (rgu_get q S p L h b n W g i _ false m.val (guk.self m.ok) rfl hh').mono fun e w' (hh : _ ∧ m.val = w') => (⟨hh.1, hh.2 ▸ Chg.refl [] m.val⟩ : _ ∧ Chg [] m.val w')
        have K0 := fun nq : Cls wr => nq.cell p0_
        have K1 := fun nq : Cls wr => nq.cell c0
        have K2 := fun nq : Cls wr => nq.cell c1
        go_wp2_with fail
        refine wp_region_cls (by kernel_rfl) (by kernel_rfl) ?_
        repeat (go_big_quiet_step ((go_at_call 63; with_reducible exact Calls.cls (HG _))))
        refine wpQuiet_nil ?_
        rintro _ ⟨nq, rfl⟩
        clear HG hh hh'
        go_wp2_with fail
        go_ret
        exact ⟨ret_bool HEL.out.symm, (hcw.trans nq.ok (by simp)).weak (by simp), by rw [HMP.out, if_neg (by rw [show ats.all (fun a => hasG n L a.1 a.2) = false from HEL.out]; decide)]; exact (gu0.self hc).self nq.ok⟩
    · obtain rfl : k = ats.length := by omega
      have HALL : Hid (allAts n L ats = true) := Lib.hid (by rw [List.take_length] at hall; exact hall)
      clear hall
      have gu1 := gu0.self hc
      have hs1 := hs0.self hc
      clear gu0 hs0 hP0
      go_wp2_with fail
      clear p0_
      go_loopw [10] (fun i w' => ∃ k : Nat, k ≤ ats.length ∧ i = .int .i64 k ∧ Chg [b] wr w' ∧ RGuIn w' q S p L h b n (markTo n L ats written W k)) (fun i _ => ats.length - (intOf i).toNat)
      case atStart => exact ⟨0, by omega, rfl, Chg.refl _ wr, gu1⟩
      case round =>
        obtain ⟨k, hk, rfl, hc2, guk⟩ := hrel
        clear gu1
        have hcw2 : Chg [b] w wr := (hcw.weak (T := [b]) (by simp)).trans hc2 (by intro i hi hm; exact hm)
        have hPk := hPk.chg_ hc2 (by simp; omega)
        have p0_ := hPk.cell 0
        simp only [List.getElem?_toArray, List.getElem?_cons_zero] at p0_
        by_cases hlt : k < ats.length
        · have hsk := hs1.chg hc2 (fun g o e => by have := hap g o e; simp; exact this)
          obtain ⟨ab, off, hAe, hb, hx, c0, c1⟩ := hsk.get hlt
          have hapb : ab ≠ b := hap _ _ hAe
          subst hAe
          have hWk := hW.mark_to n L ats written k
          have hh := allAts_get HALL.out hlt
          have HST : Hid (markTo n L ats written W (k + 1) = setG n (markTo n L ats written W k) L (ats.getD k (0, 0)).1 (ats.getD k (0, 0)).2 (usedN (getG n (markTo n L ats written W k) L (ats.getD k (0, 0)).1 (ats.getD k (0, 0)).2).toNat (written && decide (k + 1 = ats.length)))) := Lib.hid rfl
          generalize hgi : ats.getD k (0, 0) = gi at *
          obtain ⟨g, i⟩ := gi
          simp only at c0 c1 hx hh HST
          have HX := Lib.hid hx
          clear hgi hx
          generalize markTo n L ats written W k = Wk at *
          obtain ⟨_, r2, r3⟩ := rd_word hWk hh
          have hdec : decide ((k : Int) = (ats.length : Int) - 1) = decide (k + 1 = ats.length) := by rw [decide_eq_decide]; omega
          have hdec2 : ((k : Int) == (ats.length : Int) - 1) = decide (k + 1 = ats.length) := by rw [Bool.eq_iff_iff]; simp; omega
          generalize hv : (getG n Wk L g i).toNat = v at *
          generalize decide (k + 1 = ats.length) = tl at *
          have hwr64 : wrap64 ((ats.length : Int) - 1) = (ats.length : Int) - 1 := by unfold wrap64; omega
          have hwr65 : IntKind.i64.wrap ((ats.length : Int) - 1) = (ats.length : Int) - 1 := by rw [IntKind.wrap_i64]; omega
          have hUs := fun (t : Bool) (w0 : World) => RUsed_any v t w0 r3
          simp only [usedT_eq] at hUs
          have hbt := guk.hm.ws.lt
          have HG := fun m : Cls wr => (rgu_get q S p L h b n Wk g i v true m.val (guk.self m.ok) r2 hh).mono fun e w' (hh : _ ∧ m.val = w') => (⟨hh.1, hh.2 ▸ Chg.refl [] m.val⟩ : _ ∧ Chg [] m.val w')
          have K0 := fun nq : Cls wr => nq.cell p0_
          have K1 := fun nq : Cls wr => nq.cell c0
          have K2 := fun nq : Cls wr => nq.cell c1
          go_wp2_with fail
          refine wp_region_cls (by kernel_rfl) (by kernel_rfl) ?_
          repeat (go_big_quiet_step ((go_at_call 63; with_reducible exact Calls.cls (HG _))))
          refine wpQuiet_nil ?_
          rintro _ ⟨nq, rfl⟩
          clear HG r2 hv K0 K1 K2
          go_wp2_with fail
          have gua := guk.self nq.ok
          have hPq := hPk.chg_ nq.ok (by simp)
          have d0 := nq.cell c0
          have d1 := nq.cell c1
          have hpq : pb ≠ b := by omega
          have HS : Hid (Chg [b] wr nq.val) := Lib.hid (nq.ok.weak (by simp))
          generalize nq.val = w2 at *
          clear guk hPk c0 c1 p0_
          cases written with
          | true =>
            refine wp_region_noPanic ?_
            refine wp_region_held_drew (S := (fun w' => Blk w' pb 108 #[.slice (some ⟨ab, off, none⟩) ats.length c, .int .i64 pg, .bool rw, .bool ru, .bool rx, .bool lg, .bool dy] ∧ w'.cell? ⟨ab, off + k * 2, none⟩ = some (.int .i64 g) ∧ w'.cell? ⟨ab, off + k * 2 + 1, none⟩ = some (.int .i64 i))) (by kernel_rfl) ?_ (fun hHeld => ?_)
            · exact ⟨hPq, d0, d1⟩
            (refine take_on 0 (some 63) (v := ?_) rfl rfl (by kernel_rfl) (by kernel_rfl) (by kernel_rfl) (fun _ _ _ h => h) (by rfl) (by assumption) ?_ ?_; rotate_left; · (intro w hSw; skip; go_simp; (try with_reducible rfl)))
            (try simp only [Act.put, List.setIfInBounds_toArray, List.set_cons_zero, List.set_cons_succ])
            (refine take_on 1 (some 64) (v := ?_) rfl rfl (by kernel_rfl) (by kernel_rfl) (by kernel_rfl) (fun _ _ _ h => h) (by rfl) (by assumption) ?_ ?_; rotate_left; · (intro w hSw; skip; go_simp; (try with_reducible rfl)))
            (try simp only [Act.put, List.setIfInBounds_toArray, List.set_cons_zero, List.set_cons_succ])
            (refine take_on 2 (some 65) (v := ?_) rfl rfl (by kernel_rfl) (by kernel_rfl) (by kernel_rfl) (fun _ _ _ h => h) (by rfl) (by assumption) ?_ ?_; rotate_left; · (intro w hSw; have p0_ := hSw.1.cell 0; have c0 := hSw.2.1; have c1 := hSw.2.2; simp only [List.getElem?_toArray, List.getElem?_cons_zero] at p0_; go_simp; (try with_reducible rfl)))
            (try simp only [Act.put, List.setIfInBounds_toArray, List.set_cons_zero, List.set_cons_succ])
            (refine take_on 3 (some 66) (v := ?_) rfl rfl (by kernel_rfl) (by kernel_rfl) (by kernel_rfl) (fun _ _ _ h => h) (by rfl) (by assumption) ?_ ?_; rotate_left; · (intro w hSw; skip; go_simp; (try with_reducible rfl)))
            (try simp only [Act.put, List.setIfInBounds_toArray, List.set_cons_zero, List.set_cons_succ])
            (refine take_on 4 (some 67) (v := ?_) rfl rfl (by kernel_rfl) (by kernel_rfl) (by kernel_rfl) (fun _ _ _ h => h) (by rfl) (by assumption) ?_ ?_; rotate_left; · (intro w hSw; skip; go_simp; (try with_reducible rfl)))
            (try simp only [Act.put, List.setIfInBounds_toArray, List.set_cons_zero, List.set_cons_succ])
            (refine take_on 5 (some 68) (v := ?_) rfl rfl (by kernel_rfl) (by kernel_rfl) (by kernel_rfl) (fun _ _ _ h => h) (by rfl) (by assumption) ?_ ?_; rotate_left; · (intro w hSw; skip; go_simp; (try with_reducible rfl)))
            (try simp only [Act.put, List.setIfInBounds_toArray, List.set_cons_zero, List.set_cons_succ])
            (refine take_on 6 (some 69) (v := ?_) rfl rfl (by kernel_rfl) (by kernel_rfl) (by kernel_rfl) (fun _ _ _ h => h) (by rfl) (by assumption) ?_ ?_; rotate_left; · (intro w hSw; have p0_ := hSw.1.cell 0; have c0 := hSw.2.1; have c1 := hSw.2.2; simp only [List.getElem?_toArray, List.getElem?_cons_zero] at p0_; go_simp; (try with_reducible rfl)))
            (try simp only [Act.put, List.setIfInBounds_toArray, List.set_cons_zero, List.set_cons_succ])
            (refine take_on 7 (some 70) (v := ?_) rfl rfl (by kernel_rfl) (by kernel_rfl) (by kernel_rfl) (fun _ _ _ h => h) (by rfl) (by assumption) ?_ ?_; rotate_left; · (intro w hSw; skip; go_simp; (try with_reducible rfl)))
            (try simp only [Act.put, List.setIfInBounds_toArray, List.set_cons_zero, List.set_cons_succ])
            (refine take_on 8 (some 71) (v := ?_) rfl rfl (by kernel_rfl) (by kernel_rfl) (by kernel_rfl) (fun _ _ _ h => h) (by rfl) (by assumption) ?_ ?_; rotate_left; · (intro w hSw; have p0_ := hSw.1.cell 0; have c0 := hSw.2.1; have c1 := hSw.2.2; simp only [List.getElem?_toArray, List.getElem?_cons_zero] at p0_; go_simp; (try with_reducible rfl)))
            (try simp only [Act.put, List.setIfInBounds_toArray, List.set_cons_zero, List.set_cons_succ])
            (refine take_on 9 (some 72) (v := ?_) rfl rfl (by kernel_rfl) (by kernel_rfl) (by kernel_rfl) (fun _ _ _ h => h) (by rfl) (by assumption) ?_ ?_; rotate_left; · (intro w hSw; skip; go_simp; (try with_reducible rfl)))
            (try simp only [Act.put, List.setIfInBounds_toArray, List.set_cons_zero, List.set_cons_succ])
            (refine take_on 10 (some 73) (v := ?_) rfl rfl (by kernel_rfl) (by kernel_rfl) (by kernel_rfl) (fun _ _ _ h => h) (by rfl) (by assumption) ?_ ?_; rotate_left; · (intro w hSw; skip; go_simp; (try with_reducible rfl)))
            (try simp only [Act.put, List.setIfInBounds_toArray, List.set_cons_zero, List.set_cons_succ])
            (refine take_on 11 (some 74) (v := ?_) rfl rfl (by kernel_rfl) (by kernel_rfl) (by kernel_rfl) (fun _ _ _ h => h) (by rfl) (by assumption) ?_ ?_; rotate_left; · (intro w hSw; skip; go_simp; (try with_reducible rfl)))
            (try simp only [Act.put, List.setIfInBounds_toArray, List.set_cons_zero, List.set_cons_succ])
            (refine take_on 12 (some 75) (v := ?_) rfl rfl (by kernel_rfl) (by kernel_rfl) (by kernel_rfl) (fun _ _ _ h => h) (by rfl) (by assumption) ?_ ?_; rotate_left; · (intro w hSw; have p0_ := hSw.1.cell 0; have c0 := hSw.2.1; have c1 := hSw.2.2; simp only [List.getElem?_toArray, List.getElem?_cons_zero] at p0_; go_simp; (try with_reducible rfl)))
            (try simp only [Act.put, List.setIfInBounds_toArray, List.set_cons_zero, List.set_cons_succ])
            (refine take_on 13 (some 76) (v := ?_) rfl rfl (by kernel_rfl) (by kernel_rfl) (by kernel_rfl) (fun _ _ _ h => h) (by rfl) (by assumption) ?_ ?_; rotate_left; · (intro w hSw; skip; go_simp; (try with_reducible rfl)))
            (try simp only [Act.put, List.setIfInBounds_toArray, List.set_cons_zero, List.set_cons_succ])
            (refine take_on 14 (some 77) (v := ?_) rfl rfl (by kernel_rfl) (by kernel_rfl) (by kernel_rfl) (fun _ _ _ h => h) (by rfl) (by assumption) ?_ ?_; rotate_left; · (intro w hSw; skip; go_simp; (try with_reducible rfl)))
            (try simp only [Act.put, List.setIfInBounds_toArray, List.set_cons_zero, List.set_cons_succ])
            (refine take_on 15 (some 78) (v := ?_) rfl rfl (by kernel_rfl) (by kernel_rfl) (by kernel_rfl) (fun _ _ _ h => h) (by rfl) (by assumption) ?_ ?_; rotate_left; · (intro w hSw; skip; go_simp; (try with_reducible rfl)))
            (try simp only [Act.put, List.setIfInBounds_toArray, List.set_cons_zero, List.set_cons_succ])
            (refine take_on 16 (some 79) (v := ?_) rfl rfl (by kernel_rfl) (by kernel_rfl) (by kernel_rfl) (fun _ _ _ h => h) (by rfl) (by assumption) ?_ ?_; rotate_left; · (intro w hSw; skip; go_simp; (try with_reducible rfl)))
            (try simp only [Act.put, List.setIfInBounds_toArray, List.set_cons_zero, List.set_cons_succ])
            (refine take_on 17 (some 80) (v := ?_) rfl rfl (by kernel_rfl) (by kernel_rfl) (by kernel_rfl) (fun _ _ _ h => h) (by rfl) (by assumption) ?_ ?_; rotate_left; · (intro w hSw; skip; go_simp; (try with_reducible rfl)))
            (try simp only [Act.put, List.setIfInBounds_toArray, List.set_cons_zero, List.set_cons_succ])
            (refine take_on 18 (some 81) (v := ?_) rfl rfl (by kernel_rfl) (by kernel_rfl) (by kernel_rfl) (fun _ _ _ h => h) (by rfl) (by assumption) ?_ ?_; rotate_left; · (intro w hSw; have p0_ := hSw.1.cell 0; have c0 := hSw.2.1; have c1 := hSw.2.2; simp only [List.getElem?_toArray, List.getElem?_cons_zero] at p0_; go_simp; (try with_reducible rfl)))
            (try simp only [Act.put, List.setIfInBounds_toArray, List.set_cons_zero, List.set_cons_succ])
            (refine take_on 19 (some 82) (v := ?_) rfl rfl (by kernel_rfl) (by kernel_rfl) (by kernel_rfl) (fun _ _ _ h => h) (by rfl) (by assumption) ?_ ?_; rotate_left; · (intro w hSw; skip; go_simp; (try with_reducible rfl)))
            (try simp only [Act.put, List.setIfInBounds_toArray, List.set_cons_zero, List.set_cons_succ])
            (refine take_on 20 (some 83) (v := ?_) rfl rfl (by kernel_rfl) (by kernel_rfl) (by kernel_rfl) (fun _ _ _ h => h) (by rfl) (by assumption) ?_ ?_; rotate_left; · (intro w hSw; skip; go_simp; (try with_reducible rfl)))
            (try simp only [Act.put, List.setIfInBounds_toArray, List.set_cons_zero, List.set_cons_succ])
            (refine take_on 21 (some 84) (v := ?_) rfl rfl (by kernel_rfl) (by kernel_rfl) (by kernel_rfl) (fun _ _ _ h => h) (by rfl) (by assumption) ?_ ?_; rotate_left; · (intro w hSw; skip; go_simp; (try with_reducible rfl)))
            (try simp only [Act.put, List.setIfInBounds_toArray, List.set_cons_zero, List.set_cons_succ])
            (refine take_on 22 (some 85) (v := ?_) rfl rfl (by kernel_rfl) (by kernel_rfl) (by kernel_rfl) (fun _ _ _ h => h) (by rfl) (by assumption) ?_ ?_; rotate_left; · (intro w hSw; skip; go_simp; (try with_reducible rfl)))
            (try simp only [Act.put, List.setIfInBounds_toArray, List.set_cons_zero, List.set_cons_succ])
            refine wpAnyH_ready (rs := [23]) (by kernel_rfl) (by simp) ?_; refine AllReadyH.cons (o := _) rfl (fun K hK => ?_) AllReadyH.nil
            go_simp
            (go_at_call 98; refine (hUs tl _).mono ?_; rintro e w3 ⟨rfl, rfl⟩)
            refine hK.out _ _ (by (try dsimp only); exact hHeld) (fun hHeld => ?_)
            clear hK K
            (try simp only [Act.put, List.setIfInBounds_toArray, List.set_cons_zero, List.set_cons_succ])
            refine wpAnyH_ready (rs := [24]) (by kernel_rfl) (by simp) ?_; refine AllReadyH.cons (o := _) rfl (fun K hK => ?_) AllReadyH.nil
            go_simp
            (go_at_call 40; refine (rgu_set q S p L h b n Wk g i _ true _ _ (gua.self (Chg.refl [] w2).drew) hh rfl).mono ?_; rintro e w4 ⟨rfl, k4, gu4⟩)
            refine hK.out _ _ (by (try dsimp only); exact ⟨hHeld.1.chg_ k4 (by rw [List.mem_singleton]; exact hpq), (k4.cell (World.block_lt_of_cell? _ _ hHeld.2.1) (by rw [List.mem_singleton]; exact hapb)).trans hHeld.2.1, (k4.cell (World.block_lt_of_cell? _ _ hHeld.2.2) (by rw [List.mem_singleton]; exact hapb)).trans hHeld.2.2⟩) (fun hHeld => ?_)
            clear hK K
            (try simp only [Act.put, List.setIfInBounds_toArray, List.set_cons_zero, List.set_cons_succ])
            refine wpAnyH_done (by kernel_rfl) ?_ _
            refine NoPanic.normal ?_
            go_wp2_with fail
            go_roundw
            case rel => exact ⟨k + 1, by omega, by go_num, (hc2.trans HS.out (by intro i hi hm; exact hm)).trans (Chg.trans (Chg.drew (Chg.refl [b] w2)) k4 (by simp)) (by simp), by rw [HST.out]; exact gu4⟩
            case measure => simp [intOf]; omega
          | false =>
            refine wp_region_noPanic ?_
            refine wp_region_held_drew (S := (fun w' => Blk w' pb 108 #[.slice (some ⟨ab, off, none⟩) ats.length c, .int .i64 pg, .bool rw, .bool ru, .bool rx, .bool lg, .bool dy] ∧ w'.cell? ⟨ab, off + k * 2, none⟩ = some (.int .i64 g) ∧ w'.cell? ⟨ab, off + k * 2 + 1, none⟩ = some (.int .i64 i))) (by kernel_rfl) ?_ (fun hHeld => ?_)
            · exact ⟨hPq, d0, d1⟩
            (refine take_on 0 (some 63) (v := ?_) rfl rfl (by kernel_rfl) (by kernel_rfl) (by kernel_rfl) (fun _ _ _ h => h) (by rfl) (by assumption) ?_ ?_; rotate_left; · (intro w hSw; skip; go_simp; (try with_reducible rfl)))
            (try simp only [Act.put, List.setIfInBounds_toArray, List.set_cons_zero, List.set_cons_succ])
            (refine take_on 1 (some 64) (v := ?_) rfl rfl (by kernel_rfl) (by kernel_rfl) (by kernel_rfl) (fun _ _ _ h => h) (by rfl) (by assumption) ?_ ?_; rotate_left; · (intro w hSw; skip; go_simp; (try with_reducible rfl)))
            (try simp only [Act.put, List.setIfInBounds_toArray, List.set_cons_zero, List.set_cons_succ])
            (refine take_on 2 (some 65) (v := ?_) rfl rfl (by kernel_rfl) (by kernel_rfl) (by kernel_rfl) (fun _ _ _ h => h) (by rfl) (by assumption) ?_ ?_; rotate_left; · (intro w hSw; have p0_ := hSw.1.cell 0; have c0 := hSw.2.1; have c1 := hSw.2.2; simp only [List.getElem?_toArray, List.getElem?_cons_zero] at p0_; go_simp; (try with_reducible rfl)))
            (try simp only [Act.put, List.setIfInBounds_toArray, List.set_cons_zero, List.set_cons_succ])
            (refine take_on 3 (some 66) (v := ?_) rfl rfl (by kernel_rfl) (by kernel_rfl) (by kernel_rfl) (fun _ _ _ h => h) (by rfl) (by assumption) ?_ ?_; rotate_left; · (intro w hSw; skip; go_simp; (try with_reducible rfl)))
            (try simp only [Act.put, List.setIfInBounds_toArray, List.set_cons_zero, List.set_cons_succ])
            (refine take_on 4 (some 67) (v := ?_) rfl rfl (by kernel_rfl) (by kernel_rfl) (by kernel_rfl) (fun _ _ _ h => h) (by rfl) (by assumption) ?_ ?_; rotate_left; · (intro w hSw; skip; go_simp; (try with_reducible rfl)))
            (try simp only [Act.put, List.setIfInBounds_toArray, List.set_cons_zero, List.set_cons_succ])
            (refine take_on 5 (some 68) (v := ?_) rfl rfl (by kernel_rfl) (by kernel_rfl) (by kernel_rfl) (fun _ _ _ h => h) (by rfl) (by assumption) ?_ ?_; rotate_left; · (intro w hSw; skip; go_simp; (try with_reducible rfl)))
            (try simp only [Act.put, List.setIfInBounds_toArray, List.set_cons_zero, List.set_cons_succ])
            (refine take_on 6 (some 69) (v := ?_) rfl rfl (by kernel_rfl) (by kernel_rfl) (by kernel_rfl) (fun _ _ _ h => h) (by rfl) (by assumption) ?_ ?_; rotate_left; · (intro w hSw; have p0_ := hSw.1.cell 0; have c0 := hSw.2.1; have c1 := hSw.2.2; simp only [List.getElem?_toArray, List.getElem?_cons_zero] at p0_; go_simp; (try with_reducible rfl)))
            (try simp only [Act.put, List.setIfInBounds_toArray, List.set_cons_zero, List.set_cons_succ])
            (refine take_on 7 (some 70) (v := ?_) rfl rfl (by kernel_rfl) (by kernel_rfl) (by kernel_rfl) (fun _ _ _ h => h) (by rfl) (by assumption) ?_ ?_; rotate_left; · (intro w hSw; skip; go_simp; (try with_reducible rfl)))
            (try simp only [Act.put, List.setIfInBounds_toArray, List.set_cons_zero, List.set_cons_succ])
            (refine take_on 8 (some 71) (v := ?_) rfl rfl (by kernel_rfl) (by kernel_rfl) (by kernel_rfl) (fun _ _ _ h => h) (by rfl) (by assumption) ?_ ?_; rotate_left; · (intro w hSw; have p0_ := hSw.1.cell 0; have c0 := hSw.2.1; have c1 := hSw.2.2; simp only [List.getElem?_toArray, List.getElem?_cons_zero] at p0_; go_simp; (try with_reducible rfl)))
            (try simp only [Act.put, List.setIfInBounds_toArray, List.set_cons_zero, List.set_cons_succ])
            (refine take_on 9 (some 72) (v := ?_) rfl rfl (by kernel_rfl) (by kernel_rfl) (by kernel_rfl) (fun _ _ _ h => h) (by rfl) (by assumption) ?_ ?_; rotate_left; · (intro w hSw; skip; go_simp; (try with_reducible rfl)))
            (try simp only [Act.put, List.setIfInBounds_toArray, List.set_cons_zero, List.set_cons_succ])
            (refine take_on 10 (some 73) (v := ?_) rfl rfl (by kernel_rfl) (by kernel_rfl) (by kernel_rfl) (fun _ _ _ h => h) (by rfl) (by assumption) ?_ ?_; rotate_left; · (intro w hSw; skip; go_simp; (try with_reducible rfl)))
            (try simp only [Act.put, List.setIfInBounds_toArray, List.set_cons_zero, List.set_cons_succ])
            (refine take_on 11 (some 74) (v := ?_) rfl rfl (by kernel_rfl) (by kernel_rfl) (by kernel_rfl) (fun _ _ _ h => h) (by rfl) (by assumption) ?_ ?_; rotate_left; · (intro w hSw; skip; go_simp; (try with_reducible rfl)))
            (try simp only [Act.put, List.setIfInBounds_toArray, List.set_cons_zero, List.set_cons_succ])
            (refine take_on 12 (some 75) (v := ?_) rfl rfl (by kernel_rfl) (by kernel_rfl) (by kernel_rfl) (fun _ _ _ h => h) (by rfl) (by assumption) ?_ ?_; rotate_left; · (intro w hSw; have p0_ := hSw.1.cell 0; have c0 := hSw.2.1; have c1 := hSw.2.2; simp only [List.getElem?_toArray, List.getElem?_cons_zero] at p0_; go_simp; (try with_reducible rfl)))
            (try simp only [Act.put, List.setIfInBounds_toArray, List.set_cons_zero, List.set_cons_succ])
            (refine take_on 13 (some 76) (v := ?_) rfl rfl (by kernel_rfl) (by kernel_rfl) (by kernel_rfl) (fun _ _ _ h => h) (by rfl) (by assumption) ?_ ?_; rotate_left; · (intro w hSw; skip; go_simp; (try with_reducible rfl)))
            (try simp only [Act.put, List.setIfInBounds_toArray, List.set_cons_zero, List.set_cons_succ])
            (refine take_on 14 (some 77) (v := ?_) rfl rfl (by kernel_rfl) (by kernel_rfl) (by kernel_rfl) (fun _ _ _ h => h) (by rfl) (by assumption) ?_ ?_; rotate_left; · (intro w hSw; skip; go_simp; (try with_reducible rfl)))
            (try simp only [Act.put, List.setIfInBounds_toArray, List.set_cons_zero, List.set_cons_succ])
            (refine take_on 15 (some 78) (v := ?_) rfl rfl (by kernel_rfl) (by kernel_rfl) (by kernel_rfl) (fun _ _ _ h => h) (by rfl) (by assumption) ?_ ?_; rotate_left; · (intro w hSw; skip; go_simp; (try with_reducible rfl)))
            (try simp only [Act.put, List.setIfInBounds_toArray, List.set_cons_zero, List.set_cons_succ])
            (refine take_off 16 (some 79) rfl rfl (by kernel_rfl) (by kernel_rfl) (by kernel_rfl) (fun _ _ _ h => h) (by rfl) (by assumption) ?_)
            (try simp only [Act.put, List.setIfInBounds_toArray, List.set_cons_zero, List.set_cons_succ])
            (refine take_off 17 (some 80) rfl rfl (by kernel_rfl) (by kernel_rfl) (by kernel_rfl) (fun _ _ _ h => h) (by rfl) (by assumption) ?_)
            (try simp only [Act.put, List.setIfInBounds_toArray, List.set_cons_zero, List.set_cons_succ])
            (refine take_off 18 (some 81) rfl rfl (by kernel_rfl) (by kernel_rfl) (by kernel_rfl) (fun _ _ _ h => h) (by rfl) (by assumption) ?_)
            (try simp only [Act.put, List.setIfInBounds_toArray, List.set_cons_zero, List.set_cons_succ])
            (refine take_off 19 (some 82) rfl rfl (by kernel_rfl) (by kernel_rfl) (by kernel_rfl) (fun _ _ _ h => h) (by rfl) (by assumption) ?_)
            (try simp only [Act.put, List.setIfInBounds_toArray, List.set_cons_zero, List.set_cons_succ])
            (refine take_off 20 (some 83) rfl rfl (by kernel_rfl) (by kernel_rfl) (by kernel_rfl) (fun _ _ _ h => h) (by rfl) (by assumption) ?_)
            (try simp only [Act.put, List.setIfInBounds_toArray, List.set_cons_zero, List.set_cons_succ])
            (refine take_off 21 (some 84) rfl rfl (by kernel_rfl) (by kernel_rfl) (by kernel_rfl) (fun _ _ _ h => h) (by rfl) (by assumption) ?_)
            (try simp only [Act.put, List.setIfInBounds_toArray, List.set_cons_zero, List.set_cons_succ])
            (refine take_on 22 (some 85) (v := ?_) rfl rfl (by kernel_rfl) (by kernel_rfl) (by kernel_rfl) (fun _ _ _ h => h) (by rfl) (by assumption) ?_ ?_; rotate_left; · (intro w hSw; skip; go_simp; (try with_reducible rfl)))
            (try simp only [Act.put, List.setIfInBounds_toArray, List.set_cons_zero, List.set_cons_succ])
            refine wpAnyH_ready (rs := [23]) (by kernel_rfl) (by simp) ?_; refine AllReadyH.cons (o := _) rfl (fun K hK => ?_) AllReadyH.nil
            go_simp
            (go_at_call 98; refine (hUs false _).mono ?_; rintro e w3 ⟨rfl, rfl⟩)
            refine hK.out _ _ (by (try dsimp only); exact hHeld) (fun hHeld => ?_)
            clear hK K
            (try simp only [Act.put, List.setIfInBounds_toArray, List.set_cons_zero, List.set_cons_succ])
            refine wpAnyH_ready (rs := [24]) (by kernel_rfl) (by simp) ?_; refine AllReadyH.cons (o := _) rfl (fun K hK => ?_) AllReadyH.nil
            go_simp
            (go_at_call 40; refine (rgu_set q S p L h b n Wk g i _ true _ _ (gua.self (Chg.refl [] w2).drew) hh rfl).mono ?_; rintro e w4 ⟨rfl, k4, gu4⟩)
            refine hK.out _ _ (by (try dsimp only); exact ⟨hHeld.1.chg_ k4 (by rw [List.mem_singleton]; exact hpq), (k4.cell (World.block_lt_of_cell? _ _ hHeld.2.1) (by rw [List.mem_singleton]; exact hapb)).trans hHeld.2.1, (k4.cell (World.block_lt_of_cell? _ _ hHeld.2.2) (by rw [List.mem_singleton]; exact hapb)).trans hHeld.2.2⟩) (fun hHeld => ?_)
            clear hK K
            (try simp only [Act.put, List.setIfInBounds_toArray, List.set_cons_zero, List.set_cons_succ])
            refine wpAnyH_done (by kernel_rfl) ?_ _
            refine NoPanic.normal ?_
            go_wp2_with fail
            go_roundw
            case rel => exact ⟨k + 1, by omega, by go_num, (hc2.trans HS.out (by intro i hi hm; exact hm)).trans (Chg.trans (Chg.drew (Chg.refl [b] w2)) k4 (by simp)) (by simp), by rw [HST.out]; exact gu4⟩
            case measure => simp [intOf]; omega
        · obtain rfl : k = ats.length := by omega
          clear hs1
          go_wp2_with fail
          go_ret
          exact ⟨ret_bool (show true = allAts n L ats from HALL.out.symm), hcw2, by rw [HMP.out, if_pos (show (ats.all fun a => hasG n L a.1 a.2) = true from HALL.out)]; exact guk⟩

end Go.Proofs.YtgebfagiomcmbaaGreatDoor

namespace Go.Proofs.YtgebfagiomcmbaaGreatDoor
open Go.RowKit Go.Maps

theorem RGAt.apartW {w : World} {S : List Nat} {p b : Nat} {L W : List Int} (h : RGAt w S p L) (hb : Blk w b 166 (u64s W)) : b ∉ S := by
  obtain ⟨v, h1, h2, rfl, _⟩ := h
  simp only [List.mem_cons, not_or]
  refine ⟨hb.type_ne h1 (by decide), fun hm => ?_⟩
  obtain ⟨cur, hc⟩ := h2.blk hm
  exact hc.type_ne hb (by decide) rfl
theorem one_nin {a x : Nat} (h : a ≠ x) : a ∉ [x] := by rw [List.mem_singleton]; exact h
/-- the document's memory has turned: the guest has not -/
theorem GuIn.far {w w' : World} {q p h b n x : Nat} {S : List Nat} {L W V : List Int} (g : GuIn w q S p L h b n W) (hx : Blk w x 35 (u64s V)) (hc : Chg [x] w w') : GuIn w' q S p L h b n W :=
  g.other hc (one_nin (g.st.type_ne hx (by decide))) (fun i hi hm => by rw [List.mem_singleton] at hm; subst hm; exact g.mp.apartR hx hi) (one_nin (g.hm.st.type_ne hx (by decide))) (one_nin (g.hm.ws.type_ne hx (by decide)))
theorem RGuIn.far {w w' : World} {q p h b n x : Nat} {S : List Nat} {L W V : List Int} (g : RGuIn w q S p L h b n W) (hx : Blk w x 166 (u64s V)) (hc : Chg [x] w w') : RGuIn w' q S p L h b n W :=
  g.other hc (one_nin (g.st.type_ne hx (by decide))) (fun i hi hm => by rw [List.mem_singleton] at hm; subst hm; exact g.mp.apartW hx hi) (one_nin (g.hm.st.type_ne hx (by decide))) (one_nin (g.hm.ws.type_ne hx (by decide)))
theorem RWalk_is (q : Nat) (S : List Nat) (p : Nat) (L : List Int) (h b n : Nat) (W : List Int) (root page kind : Int) (user : Bool) (P : Pa) (how code : Int) (w : World) (gu : RGuIn w q S p L h b n W) (hW : WdW W) (hr : walkP n W L root page kind user = (P, how, code)) :
    Calls Tryz.prog 59 #[.pointer (some ⟨q, 0, none⟩), .int .i64 root, .int .i64 page, .int .i64 kind, .bool user] w fun e w' =>
      ∃ A c, e = .returned (.tuple #[.agg (pathV A c P), .int .i64 how, .int .i64 code]) ∧ OwnA w' 158 (.slice A P.ats.length c) P.ats ∧ (∀ g ∈ (Value.slice A P.ats.length c).ownBlock.toList, w.heap.size ≤ g) ∧ Chg [] w w' :=
  (RWalk_at q S p L h b n W root page kind user w gu hW).mono fun e w' hh => by
    rw [hr] at hh
    obtain ⟨A, c, h1, h2, h3⟩ := hh
    exact ⟨A, c, h1, own_weak h2 (Nat.zero_le _), own_low h2, h3⟩

section
variable (q : Nat) (S : List Nat) (p : Nat) (L : List Int) (h b n : Nat) (W : List Int) (A B : Option Addr) (c d : Nat) (P : Pa) (cs ds : Array Value)
end

end Go.Proofs.YtgebfagiomcmbaaGreatDoor
