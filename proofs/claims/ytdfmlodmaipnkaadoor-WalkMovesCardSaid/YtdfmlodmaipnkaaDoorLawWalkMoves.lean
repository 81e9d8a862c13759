/-
  WalkMoves: the walk.
-/
import Derived.Test.YtdfmlodmaipnkaaDoorWalkHead
import Derived.Test.YtdfmlodmaipnkaaDoorWalkK
import Derived.Test.YtdfmlodmaipnkaaDoorTwice
namespace Go.Proofs.YtdfmlodmaipnkaaDoor
open Go.RowKit Go.Maps

set_option maxRecDepth 100000 in
set_option maxHeartbeats 16000000 in
theorem WalkMoves_walk (A : Option Addr) (m c : Nat) (l : List Pu) (root page kind : Int) (user : Bool) (to : Int) (w : World) (h : SlP w A m l) (hr0 : 0 ≤ root ∧ root ≤ 255) (hp0 : 0 ≤ page ∧ page ≤ 65535) (hk0 : 0 ≤ kind ∧ kind ≤ 255) (ht0 : 0 ≤ to ∧ to ≤ 255) (hE : ErrIn w) :
    Calls Tryd.prog 9 #[.slice A m c, .int .u8 root, .int .u16 page, .int .u8 kind, .bool user, .int .u8 to] w fun e w' => e = .returned (.bool true) ∧ Chg [] w w' := by
  have hwd := made_wd l h.wf
  have hl := h.le
  go_enter Tryd.func9, Tryd.ntmps9
  go_wp2_with fail
  refine (Wahead_any _ hE).mono ?_; rintro e w1 ⟨rfl, hc1⟩
  go_wp2_with fail
  refine (Made_at A m c l _ (h.self hc1)).mono ?_; rintro e w2 ⟨q, S, p, hh, b, rfl, hc2, g2, hb⟩
  have hca : Chg [] w w2 := hc1.trans hc2 (by simp)
  have hbw : w.heap.size ≤ b := by have := hc1.size; omega
  have hE2 := hE.self hca
  have hpos : 0 < w.heap.size := World.block_lt_of_cell? _ _ hE
  generalize madeW l = W at *
  obtain ⟨hwd, hWl⟩ := hwd
  clear hc1 hc2 hb h hE
  by_cases hbig : (m : Int) > 600
  · go_wp2_with fail
    go_ret
    exact ⟨rfl, hca⟩
  · have hrm : Int.tmod root 16 = root % 16 := Int.tmod_eq_emod_of_nonneg hr0.1
    have hpm : Int.tmod page 512 = page % 512 := Int.tmod_eq_emod_of_nonneg hp0.1
    have hkm : Int.tmod kind 3 = kind % 3 := Int.tmod_eq_emod_of_nonneg hk0.1
    have htm : Int.tmod to 16 = to % 16 := Int.tmod_eq_emod_of_nonneg ht0.1
    have hpr : 0 ≤ page % 512 ∧ page % 512 < 512 := by omega
    have hrr : 0 ≤ root % 16 ∧ root % 16 < 16 := by omega
    have hkr : 0 ≤ kind % 3 ∧ kind % 3 < 3 := by omega
    have htr : 0 ≤ to % 16 ∧ to % 16 < 16 := by omega
    generalize hpd : page % 512 = pn at *
    generalize hkd : kind % 3 = kn at *
    generalize hrd : root % 16 = rn at *
    generalize htd : to % 16 = tn at *
    obtain ⟨t, rfl⟩ := Int.eq_ofNat_of_zero_le htr.1
    have ht16 : t < 16 := by omega
    cases hr : walkP 16 W L16 rn pn kn user with
    | mk P hc =>
      obtain ⟨how, code⟩ := hc
      by_cases hz : how = 0
      · subst hz
        obtain ⟨rfl, hpath, hmay, hgl⟩ := done_of hr
        have hsh := path_len hpath
        have hg0 := path_g0 hpath
        have hnd := path_has hpath
        have hidx := idxI_range pn 1
        have hi1 : idxI pn 1 = pn % 8 := rfl
        rcases hsh with ⟨hlg, hlen⟩ | ⟨hlg, hlen⟩
        · obtain ⟨pats, pg, ⟨prw, pru, prx⟩, plg, pdy⟩ := P
          simp only at hlg hlen hmay hgl hg0 hnd
          subst hlg
          obtain ⟨x0, x1, rfl⟩ : ∃ x0 x1, pats = [x0, x1] := by
            match pats, hlen with
            | [x0, x1], _ => exact ⟨x0, x1, rfl⟩
          have hlast : lastP ⟨[x0, x1], pg, ⟨prw, pru, prx⟩, true, pdy⟩ = x1 := rfl
          obtain ⟨g, i⟩ := x1
          have hhas : hasG 16 L16 g i = true := by simp only [allAts, List.all_cons, Bool.and_eq_true] at hnd; exact hnd.2.1
          obtain ⟨rs, rv, rl⟩ := rd_word hwd hhas
          generalize hv : (getG 16 W L16 g i).toNat = v at *
          have hq := fun w0 => run_eqR ⟨prw, pru, prx⟩ ⟨prw, pru, prx⟩ w0
          simp only [Rg.cs, Rg.eqb_self] at hq
          have hml : moveN v (t / 8 * 8) < 18446744073709551616 := move_lt (by omega)
          have hwd' := hwd.set_ 16 L16 g i (moveN v (t / 8 * 8) : Nat) ⟨by omega, by omega⟩
          have hrdn : ∀ g' i', rdG 16 (setG 16 W L16 g i (moveN v (t / 8 * 8) : Nat)) L16 g' i' = if g = g' ∧ i = i' then some (moveN v (t / 8 * 8)) else rdG 16 W L16 g' i' := fun g' i' => by rw [rd_set L16_ok.inh (by decide) hWl hhas]; rfl
          have hmv : ∀ (hnt : ([x0, (g, i)] : List (Int × Int)).Nodup), walkP 16 (setG 16 W L16 g i (moveN v (t / 8 * 8) : Nat)) L16 rn pn kn user = (⟨[x0, (g, i)], (t : Int) / 8 * 8 + pn % 8, ⟨prw, pru, prx⟩, true, pdy⟩, 0, 0) := fun hnt => by
            rw [show (t : Int) / 8 * 8 + pn % 8 = ((t / 8 * 8 : Nat) : Int) + pn % 8 by omega]
            refine walk_of (path_move (f := (t / 8 * 8)) (v := v) hpath (fun j hj => ?_) (fun g' i' hne => ?_) rs ?_ (by omega) (by intro _; omega)) hmay ?_
            rotate_right
            · show (((t / 8 * 8) : Nat) : Int) + pn % 8 < _; rw [L16_len]; omega
            · simp only [List.length_cons, List.length_nil] at hj
              have : j = 0 := by omega
              simp only [List.nodup_cons, List.mem_cons, List.not_mem_nil, or_false, not_or] at hnt
              rcases this with rfl
              · exact hnt.1
            · rw [hrdn, if_neg]; rintro ⟨rfl, rfl⟩; exact hne rfl
            · rw [hrdn]; simp [lastP]
          go_wp2_with fail
          refine (Walk_is q S p L16 hh b 16 W rn pn kn user ⟨[x0, (g, i)], pg, ⟨prw, pru, prx⟩, true, pdy⟩ 0 0 _ hE2 g2 hwd hr).mono ?_; rintro e v1 ⟨A1, c1, rfl, r1, l1, k1⟩
          rw [show pathV A1 c1 ⟨[x0, (g, i)], pg, ⟨prw, pru, prx⟩, true, pdy⟩ = #[.slice A1 2 c1, .int .i64 pg, .bool prw, .bool pru, .bool prx, .bool true, .bool pdy] from rfl]
          have x1 : Chg [] w2 (v1.alloc (.cells #[.slice A1 2 c1, .int .i64 pg, .bool prw, .bool pru, .bool prx, .bool true, .bool pdy] 34)) := k1.alloc _
          have cc1 := hca.trans x1 (by simp)
          have gg1 := g2.self x1
          have EE1 := hE2.self x1
          have b1_ := Blk.new v1 34 #[.slice A1 2 c1, .int .i64 pg, .bool prw, .bool pru, .bool prx, .bool true, .bool pdy]
          have s1_ := (OwnA.sla r1).self ((Chg.refl [] v1).alloc (.cells #[.slice A1 2 c1, .int .i64 pg, .bool prw, .bool pru, .bool prx, .bool true, .bool pdy] 34))
          have n1_ : ∀ g o, A1 = some ⟨g, o, none⟩ → g ≠ b := fun g o e => by have := l1 g (by rw [e]; simp [Value.ownBlock]); have := g2.hm.ws.lt; omega
          clear hca g2 hE2 r1 l1 k1 x1
          obtain ⟨q0, q1, q2, q3, q4, q5, q6, _, _, _, _, _, _, _⟩ := blk7 b1_
          have htw := twice_at A1 2 c1 [x0, (g, i)] _ s1_ (by decide)
          go_wp2_with fail
          refine htw.mono ?_; rintro e u1 ⟨rfl, k1⟩
          have c2 := cc1.trans k1 (by simp)
          have g3 := gg1.self k1
          have E3 := EE1.self k1
          have b1_ := b1_.chg_ k1 (by simp)
          have s1_ := s1_.self k1
          clear cc1 gg1 EE1 k1 htw q0 q1 q2 q3 q4 q5 q6
          by_cases hnt : ([x0, (g, i)] : List (Int × Int)).Nodup
          · have hdt : (!decide ([x0, (g, i)] : List (Int × Int)).Nodup) = false := by simp [hnt]
            rw [hdt]
            have hw2 := hmv hnt
            clear hmv hnt hdt
            obtain ⟨q0, q1, q2, q3, q4, q5, q6, _, _, _, _, _, _, _⟩ := blk7 b1_
            obtain ⟨ab, off, rfl, _, _, y0, y1⟩ := s1_.get (k := 1) (by simp)
            simp only [List.getD_cons_succ, List.getD_cons_zero, Nat.reduceMul] at y0 y1
            have al := (Chg.refl [] u1).alloc (.cells #[.int .i64 g, .int .i64 i] 40)
            have g4 := g3.self al
            have hat := Blk.new u1 40 #[.int .i64 g, .int .i64 i]
            have t0 := hat.cell 0; have t1 := hat.cell 1
            simp only [List.getElem?_toArray, List.getElem?_cons_zero, List.getElem?_cons_succ] at t0 t1
            have hget := gu_get q S p L16 hh b 16 W g i v true _ g4 rv hhas
            have hb1 : bits .andNot .u64 (v : Int) 4294963200 = ((v &&& 18446744069414588415 : Nat) : Int) := u64_andNot_nat v 4294963200 rl (by decide)
            go_wp2_with fail
            refine hget.mono ?_; rintro e w' ⟨rfl, rfl⟩
            have hor : bits .or .u64 ((v &&& 18446744069414588415 : Nat) : Int) ((t : Int) / 8 * 8 * 4096) = ((moveN v (t / 8 * 8) : Nat) : Int) := by
              rw [show (t : Int) / 8 * 8 * 4096 = (((t / 8 * 8) * 4096 : Nat) : Int) by omega]
              exact u64_or_nat _ _ (Nat.lt_of_le_of_lt Nat.and_le_left rl) (by omega)
            have hset := gu_set q S p L16 hh b 16 W g i (bits .or .u64 ((v &&& 18446744069414588415 : Nat) : Int) ((t : Int) / 8 * 8 * 4096)) true (setG 16 W L16 g i (moveN v (t / 8 * 8) : Nat)) _ g4 hhas (by rw [hor])
            clear hor
            go_wp2_with fail
            refine hset.mono ?_; rintro e w5 ⟨rfl, k5, g5⟩
            have E5 := (E3.self al).chg k5 (by rw [List.mem_singleton]; omega)
            have b1a := b1_.chg_ al (by simp)
            have b1_ := b1a.chg_ k5 (by rw [List.mem_singleton]; exact fun e => Blk.type_ne b1a (e ▸ g4.hm.ws) (by decide) rfl)
            have s1_ := (s1_.self al).chg k5 (fun g o e => by rw [List.mem_singleton]; exact n1_ g o e)
            have c5 : Chg [] w w5 := (c2.trans al (by simp)).trans k5 (by intro i hi hm; rw [List.mem_singleton] at hm; omega)
            clear hset hget hb1 al g4 g3 E3 c2 k5 b1a q0 q1 q2 q3 q4 q5 q6 hat t0 t1 y0 y1 rs rv rl hhas hrdn
            generalize setG 16 W L16 g i (moveN v (t / 8 * 8) : Nat) = W5 at *
            have hpm8 : Int.tmod pn 8 = pn % 8 := Int.tmod_eq_emod_of_nonneg hpr.1
            go_wp2_with fail
            refine (Walk_is q S p L16 hh b 16 W5 rn pn kn user ⟨[x0, (g, i)], (t : Int) / 8 * 8 + pn % 8, ⟨prw, pru, prx⟩, true, pdy⟩ 0 0 _ E5 g5 hwd' hw2).mono ?_; rintro e v2 ⟨A2, c2, rfl, r2, l2, k2⟩
            rw [show pathV A2 c2 ⟨[x0, (g, i)], (t : Int) / 8 * 8 + pn % 8, ⟨prw, pru, prx⟩, true, pdy⟩ = #[.slice A2 2 c2, .int .i64 ((t : Int) / 8 * 8 + pn % 8), .bool prw, .bool pru, .bool prx, .bool true, .bool pdy] from rfl]
            have x2 : Chg [] w5 (v2.alloc (.cells #[.slice A2 2 c2, .int .i64 ((t : Int) / 8 * 8 + pn % 8), .bool prw, .bool pru, .bool prx, .bool true, .bool pdy] 34)) := k2.alloc _
            have cc2 := c5.trans x2 (by simp)
            have gg2 := g5.self x2
            have EE2 := E5.self x2
            have b2_ := Blk.new v2 34 #[.slice A2 2 c2, .int .i64 ((t : Int) / 8 * 8 + pn % 8), .bool prw, .bool pru, .bool prx, .bool true, .bool pdy]
            have s2_ := (OwnA.sla r2).self ((Chg.refl [] v2).alloc (.cells #[.slice A2 2 c2, .int .i64 ((t : Int) / 8 * 8 + pn % 8), .bool prw, .bool pru, .bool prx, .bool true, .bool pdy] 34))
            have n2_ : ∀ g o, A2 = some ⟨g, o, none⟩ → g ≠ b := fun g o e => by have := l2 g (by rw [e]; simp [Value.ownBlock]); have := g5.hm.ws.lt; omega
            have b1_ := b1_.chg_ x2 (by simp); have s1_ := s1_.self x2
            clear c5 g5 E5 r2 l2 k2 x2
            obtain ⟨q0, q1, q2, q3, q4, q5, q6, _, _, _, _, _, _, _⟩ := blk7 b1_
            obtain ⟨r0, r1, r2, r3, r4, r5, r6, _, _, _, _, _, _, _⟩ := blk7 b2_
            go_wp2_with fail
            go_ret
            exact ⟨rfl, cc2⟩
          · have hdt : (!decide ([x0, (g, i)] : List (Int × Int)).Nodup) = true := by simp [hnt]
            rw [hdt]
            go_wp2_with fail
            go_ret
            exact ⟨rfl, c2⟩
        · obtain ⟨pats, pg, ⟨prw, pru, prx⟩, plg, pdy⟩ := P
          simp only at hlg hlen hmay hgl hg0 hnd
          subst hlg
          obtain ⟨x0, x1, x2, rfl⟩ : ∃ x0 x1 x2, pats = [x0, x1, x2] := by
            match pats, hlen with
            | [x0, x1, x2], _ => exact ⟨x0, x1, x2, rfl⟩
          have hlast : lastP ⟨[x0, x1, x2], pg, ⟨prw, pru, prx⟩, false, pdy⟩ = x2 := rfl
          obtain ⟨g, i⟩ := x2
          have hhas : hasG 16 L16 g i = true := by simp only [allAts, List.all_cons, Bool.and_eq_true] at hnd; exact hnd.2.2.1
          obtain ⟨rs, rv, rl⟩ := rd_word hwd hhas
          generalize hv : (getG 16 W L16 g i).toNat = v at *
          have hq := fun w0 => run_eqR ⟨prw, pru, prx⟩ ⟨prw, pru, prx⟩ w0
          simp only [Rg.cs, Rg.eqb_self] at hq
          have hml : moveN v t < 18446744073709551616 := move_lt (by omega)
          have hwd' := hwd.set_ 16 L16 g i (moveN v t : Nat) ⟨by omega, by omega⟩
          have hrdn : ∀ g' i', rdG 16 (setG 16 W L16 g i (moveN v t : Nat)) L16 g' i' = if g = g' ∧ i = i' then some (moveN v t) else rdG 16 W L16 g' i' := fun g' i' => by rw [rd_set L16_ok.inh (by decide) hWl hhas]; rfl
          have hmv : ∀ (hnt : ([x0, x1, (g, i)] : List (Int × Int)).Nodup), walkP 16 (setG 16 W L16 g i (moveN v t : Nat)) L16 rn pn kn user = (⟨[x0, x1, (g, i)], (t : Int), ⟨prw, pru, prx⟩, false, pdy⟩, 0, 0) := fun hnt => by
            skip
            refine walk_of (path_move (f := t) (v := v) hpath (fun j hj => ?_) (fun g' i' hne => ?_) rs ?_ (by omega) (by intro h; cases h)) hmay ?_
            rotate_right
            · show ((t : Nat) : Int) < _; rw [L16_len]; omega
            · simp only [List.length_cons, List.length_nil] at hj
              have : j = 0 ∨ j = 1 := by omega
              simp only [List.nodup_cons, List.mem_cons, List.not_mem_nil, or_false, not_or] at hnt
              rcases this with rfl | rfl
              · exact hnt.1.2
              · exact hnt.2.1
            · rw [hrdn, if_neg]; rintro ⟨rfl, rfl⟩; exact hne rfl
            · rw [hrdn]; simp [lastP]
          go_wp2_with fail
          refine (Walk_is q S p L16 hh b 16 W rn pn kn user ⟨[x0, x1, (g, i)], pg, ⟨prw, pru, prx⟩, false, pdy⟩ 0 0 _ hE2 g2 hwd hr).mono ?_; rintro e v1 ⟨A1, c1, rfl, r1, l1, k1⟩
          rw [show pathV A1 c1 ⟨[x0, x1, (g, i)], pg, ⟨prw, pru, prx⟩, false, pdy⟩ = #[.slice A1 3 c1, .int .i64 pg, .bool prw, .bool pru, .bool prx, .bool false, .bool pdy] from rfl]
          have x1 : Chg [] w2 (v1.alloc (.cells #[.slice A1 3 c1, .int .i64 pg, .bool prw, .bool pru, .bool prx, .bool false, .bool pdy] 34)) := k1.alloc _
          have cc1 := hca.trans x1 (by simp)
          have gg1 := g2.self x1
          have EE1 := hE2.self x1
          have b1_ := Blk.new v1 34 #[.slice A1 3 c1, .int .i64 pg, .bool prw, .bool pru, .bool prx, .bool false, .bool pdy]
          have s1_ := (OwnA.sla r1).self ((Chg.refl [] v1).alloc (.cells #[.slice A1 3 c1, .int .i64 pg, .bool prw, .bool pru, .bool prx, .bool false, .bool pdy] 34))
          have n1_ : ∀ g o, A1 = some ⟨g, o, none⟩ → g ≠ b := fun g o e => by have := l1 g (by rw [e]; simp [Value.ownBlock]); have := g2.hm.ws.lt; omega
          clear hca g2 hE2 r1 l1 k1 x1
          obtain ⟨q0, q1, q2, q3, q4, q5, q6, _, _, _, _, _, _, _⟩ := blk7 b1_
          have htw := twice_at A1 3 c1 [x0, x1, (g, i)] _ s1_ (by decide)
          go_wp2_with fail
          refine htw.mono ?_; rintro e u1 ⟨rfl, k1⟩
          have c2 := cc1.trans k1 (by simp)
          have g3 := gg1.self k1
          have E3 := EE1.self k1
          have b1_ := b1_.chg_ k1 (by simp)
          have s1_ := s1_.self k1
          clear cc1 gg1 EE1 k1 htw q0 q1 q2 q3 q4 q5 q6
          by_cases hnt : ([x0, x1, (g, i)] : List (Int × Int)).Nodup
          · have hdt : (!decide ([x0, x1, (g, i)] : List (Int × Int)).Nodup) = false := by simp [hnt]
            rw [hdt]
            have hw2 := hmv hnt
            clear hmv hnt hdt
            obtain ⟨q0, q1, q2, q3, q4, q5, q6, _, _, _, _, _, _, _⟩ := blk7 b1_
            obtain ⟨ab, off, rfl, _, _, y0, y1⟩ := s1_.get (k := 2) (by simp)
            simp only [List.getD_cons_succ, List.getD_cons_zero, Nat.reduceMul] at y0 y1
            have al := (Chg.refl [] u1).alloc (.cells #[.int .i64 g, .int .i64 i] 40)
            have g4 := g3.self al
            have hat := Blk.new u1 40 #[.int .i64 g, .int .i64 i]
            have t0 := hat.cell 0; have t1 := hat.cell 1
            simp only [List.getElem?_toArray, List.getElem?_cons_zero, List.getElem?_cons_succ] at t0 t1
            have hget := gu_get q S p L16 hh b 16 W g i v true _ g4 rv hhas
            have hb1 : bits .andNot .u64 (v : Int) 4294963200 = ((v &&& 18446744069414588415 : Nat) : Int) := u64_andNot_nat v 4294963200 rl (by decide)
            go_wp2_with fail
            refine hget.mono ?_; rintro e w' ⟨rfl, rfl⟩
            have hor : bits .or .u64 ((v &&& 18446744069414588415 : Nat) : Int) ((t : Int) * 4096) = ((moveN v t : Nat) : Int) := by
              rw [show (t : Int) * 4096 = ((t * 4096 : Nat) : Int) by omega]
              exact u64_or_nat _ _ (Nat.lt_of_le_of_lt Nat.and_le_left rl) (by omega)
            have hset := gu_set q S p L16 hh b 16 W g i (bits .or .u64 ((v &&& 18446744069414588415 : Nat) : Int) ((t : Int) * 4096)) true (setG 16 W L16 g i (moveN v t : Nat)) _ g4 hhas (by rw [hor])
            clear hor
            go_wp2_with fail
            refine hset.mono ?_; rintro e w5 ⟨rfl, k5, g5⟩
            have E5 := (E3.self al).chg k5 (by rw [List.mem_singleton]; omega)
            have b1a := b1_.chg_ al (by simp)
            have b1_ := b1a.chg_ k5 (by rw [List.mem_singleton]; exact fun e => Blk.type_ne b1a (e ▸ g4.hm.ws) (by decide) rfl)
            have s1_ := (s1_.self al).chg k5 (fun g o e => by rw [List.mem_singleton]; exact n1_ g o e)
            have c5 : Chg [] w w5 := (c2.trans al (by simp)).trans k5 (by intro i hi hm; rw [List.mem_singleton] at hm; omega)
            clear hset hget hb1 al g4 g3 E3 c2 k5 b1a q0 q1 q2 q3 q4 q5 q6 hat t0 t1 y0 y1 rs rv rl hhas hrdn
            generalize setG 16 W L16 g i (moveN v t : Nat) = W5 at *
            have hpm8 : Int.tmod pn 8 = pn % 8 := Int.tmod_eq_emod_of_nonneg hpr.1
            go_wp2_with fail
            refine (Walk_is q S p L16 hh b 16 W5 rn pn kn user ⟨[x0, x1, (g, i)], (t : Int), ⟨prw, pru, prx⟩, false, pdy⟩ 0 0 _ E5 g5 hwd' hw2).mono ?_; rintro e v2 ⟨A2, c2, rfl, r2, l2, k2⟩
            rw [show pathV A2 c2 ⟨[x0, x1, (g, i)], (t : Int), ⟨prw, pru, prx⟩, false, pdy⟩ = #[.slice A2 3 c2, .int .i64 ((t : Int)), .bool prw, .bool pru, .bool prx, .bool false, .bool pdy] from rfl]
            have x2 : Chg [] w5 (v2.alloc (.cells #[.slice A2 3 c2, .int .i64 ((t : Int)), .bool prw, .bool pru, .bool prx, .bool false, .bool pdy] 34)) := k2.alloc _
            have cc2 := c5.trans x2 (by simp)
            have gg2 := g5.self x2
            have EE2 := E5.self x2
            have b2_ := Blk.new v2 34 #[.slice A2 3 c2, .int .i64 ((t : Int)), .bool prw, .bool pru, .bool prx, .bool false, .bool pdy]
            have s2_ := (OwnA.sla r2).self ((Chg.refl [] v2).alloc (.cells #[.slice A2 3 c2, .int .i64 ((t : Int)), .bool prw, .bool pru, .bool prx, .bool false, .bool pdy] 34))
            have n2_ : ∀ g o, A2 = some ⟨g, o, none⟩ → g ≠ b := fun g o e => by have := l2 g (by rw [e]; simp [Value.ownBlock]); have := g5.hm.ws.lt; omega
            have b1_ := b1_.chg_ x2 (by simp); have s1_ := s1_.self x2
            clear c5 g5 E5 r2 l2 k2 x2
            obtain ⟨q0, q1, q2, q3, q4, q5, q6, _, _, _, _, _, _, _⟩ := blk7 b1_
            obtain ⟨r0, r1, r2, r3, r4, r5, r6, _, _, _, _, _, _, _⟩ := blk7 b2_
            go_wp2_with fail
            go_ret
            exact ⟨rfl, cc2⟩
          · have hdt : (!decide ([x0, x1, (g, i)] : List (Int × Int)).Nodup) = true := by simp [hnt]
            rw [hdt]
            go_wp2_with fail
            go_ret
            exact ⟨rfl, c2⟩
      · obtain ⟨rfl, _⟩ := walk_zero hr hz
        go_wp2_with fail
        refine (Walk_is q S p L16 hh b 16 W rn pn kn user Pa.zero how code _ hE2 g2 hwd hr).mono ?_; rintro e v1 ⟨A1, c1, rfl, r1, l1, k1⟩
        rw [show pathV A1 c1 Pa.zero = #[.slice A1 0 c1, .int .i64 0, .bool false, .bool false, .bool false, .bool false, .bool false] from rfl]
        have x1 : Chg [] w2 (v1.alloc (.cells #[.slice A1 0 c1, .int .i64 0, .bool false, .bool false, .bool false, .bool false, .bool false] 34)) := k1.alloc _
        have cc1 := hca.trans x1 (by simp)
        have gg1 := g2.self x1
        have EE1 := hE2.self x1
        have b1_ := Blk.new v1 34 #[.slice A1 0 c1, .int .i64 0, .bool false, .bool false, .bool false, .bool false, .bool false]
        have s1_ := (OwnA.sla r1).self ((Chg.refl [] v1).alloc (.cells #[.slice A1 0 c1, .int .i64 0, .bool false, .bool false, .bool false, .bool false, .bool false] 34))
        have n1_ : ∀ g o, A1 = some ⟨g, o, none⟩ → g ≠ b := fun g o e => by have := l1 g (by rw [e]; simp [Value.ownBlock]); have := g2.hm.ws.lt; omega
        clear hca g2 hE2 r1 l1 k1 x1
        obtain ⟨q0, q1, q2, q3, q4, q5, q6, _, _, _, _, _, _, _⟩ := blk7 b1_
        go_wp2_with fail
        go_ret
        exact ⟨rfl, cc1⟩

end Go.Proofs.YtdfmlodmaipnkaaDoor
