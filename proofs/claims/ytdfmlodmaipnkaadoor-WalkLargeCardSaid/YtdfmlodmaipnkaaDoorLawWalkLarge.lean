/-
  WalkLarge: the walk.
-/
import Derived.Test.YtdfmlodmaipnkaaDoorWalkHead
import Derived.Test.YtdfmlodmaipnkaaDoorWalkK
namespace Go.Proofs.YtdfmlodmaipnkaaDoor
open Go.RowKit Go.Maps

set_option maxRecDepth 100000 in
theorem run_neR (a : Rg) (w : World) : (binOp .neq 32 (.agg a.cs) (.agg a.cs)).run Tryd.prog w = .ok (.bool false) w := by
  have h := run_eqR a a w
  rw [run_eql_struct] at h
  rw [run_neq_struct]
  cases hh : (Op.equalIn 10000 32 (.agg a.cs) (.agg a.cs)).run Tryd.prog w with
  | ok b w' =>
    rw [hh] at h
    simp only [Result.andThen, Rg.eqb_self] at h ⊢
    injection h with h1 h2
    injection h1 with h1
    subst h1; subst h2; rfl
  | halt x w' => rw [hh] at h; cases h

set_option maxRecDepth 100000 in
set_option maxHeartbeats 16000000 in
theorem WalkLarge_walk (A : Option Addr) (m c : Nat) (l : List Pu) (root page : Int) (w : World) (h : SlP w A m l) (hr0 : 0 ≤ root ∧ root ≤ 255) (hp0 : 0 ≤ page ∧ page ≤ 65535) (hE : ErrIn w) :
    Calls Tryd.prog 7 #[.slice A m c, .int .u8 root, .int .u16 page] w fun e w' => e = .returned (.bool true) ∧ Chg [] w w' := by
  have hwd := made_wd l h.wf
  have hl := h.le
  go_enter Tryd.func7, Tryd.ntmps7
  go_wp2_with fail
  refine (Wahead_any _ hE).mono ?_; rintro e w1 ⟨rfl, hc1⟩
  go_wp2_with fail
  refine (Made_at A m c l _ (h.self hc1)).mono ?_; rintro e w2 ⟨q, S, p, hh, b, rfl, hc2, g2, hb⟩
  have hca : Chg [] w w2 := hc1.trans hc2 (by simp)
  have hbw : w.heap.size ≤ b := by have := hc1.size; omega
  have hE2 := hE.self hca
  have hpos : 0 < w.heap.size := World.block_lt_of_cell? _ _ hE
  generalize madeW l = W at *
  obtain ⟨hwd, hWl⟩ := hwd
  clear hc1 hc2 hb h hE
  by_cases hbig : (m : Int) > 600
  · go_wp2_with fail
    go_ret
    exact ⟨rfl, hca⟩
  · have hrm : Int.tmod root 16 = root % 16 := Int.tmod_eq_emod_of_nonneg hr0.1
    have hpm : Int.tmod page 512 = page % 512 := Int.tmod_eq_emod_of_nonneg hp0.1
    have hpr : 0 ≤ page % 512 ∧ page % 512 < 512 := by omega
    have hrr : 0 ≤ root % 16 ∧ root % 16 < 16 := by omega
    generalize hpd : page % 512 = pn at *
    generalize hrd : root % 16 = rn at *
    obtain ⟨t, rfl⟩ := Int.eq_ofNat_of_zero_le hpr.1
    have ht5 : t < 512 := by omega
    cases hr : walkP 16 W L16 rn t 0 false with
    | mk P hc =>
      obtain ⟨how, code⟩ := hc
      by_cases hz : how = 0
      · subst hz
        obtain ⟨rfl, hpath, hmay, hgl⟩ := done_of hr
        have hg0 := path_g0 hpath
        rcases path_len hpath with ⟨hlg, hlen⟩ | ⟨hlg, hlen⟩
        · obtain ⟨pats, pg, ⟨prw, pru, prx⟩, plg, pdy⟩ := P
          simp only at hlg hlen hmay hgl hg0
          subst hlg
          obtain ⟨x0, x1, rfl⟩ : ∃ x0 x1, pats = [x0, x1] := by
            match pats, hlen with
            | [x0, x1], _ => exact ⟨x0, x1, rfl⟩
          have hi1 : ∀ z : Int, idxI z 1 = z % 8 := fun _ => rfl
          have hlow := (path_large hpath rfl (page' := (t : Int)) rfl rfl).2
          simp only [hi1] at hlow
          have hgl' : pg < 16 := hgl
          have hg0' : 0 ≤ pg := hg0
          have hall : ∀ k : Nat, k < 8 → walkP 16 W L16 rn ((t : Int) / 8 * 8 + k) 0 false = (⟨[x0, x1], pg - (t : Int) % 8 + k, ⟨prw, pru, prx⟩, true, pdy⟩, 0, 0) := fun k hk => by
            have h3 : idxI ((t : Int) / 8 * 8 + k) 3 = idxI t 3 := by simp only [idxI, if_true]; omega
            have h2 : idxI ((t : Int) / 8 * 8 + k) 2 = idxI t 2 := by simp [idxI]; omega
            have hh := (path_large hpath rfl h3 h2).1
            simp only [hi1] at hh
            rw [show ((t : Int) / 8 * 8 + k) % 8 = k by omega] at hh
            refine walk_of hh hmay ?_
            show pg - (t : Int) % 8 + k < _
            rw [L16_len]; omega
          go_wp2_with fail
          refine (Walk_is q S p L16 hh b 16 W rn t 0 false ⟨[x0, x1], pg, ⟨prw, pru, prx⟩, true, pdy⟩ 0 0 _ hE2 g2 hwd hr).mono ?_; rintro e v1 ⟨A1, c1, rfl, r1, l1, k1⟩
          rw [show pathV A1 c1 ⟨[x0, x1], pg, ⟨prw, pru, prx⟩, true, pdy⟩ = #[.slice A1 2 c1, .int .i64 pg, .bool prw, .bool pru, .bool prx, .bool true, .bool pdy] from rfl]
          have x1 : Chg [] w2 (v1.alloc (.cells #[.slice A1 2 c1, .int .i64 pg, .bool prw, .bool pru, .bool prx, .bool true, .bool pdy] 34)) := k1.alloc _
          have cc1 := hca.trans x1 (by simp)
          have gg1 := g2.self x1
          have EE1 := hE2.self x1
          have b1_ := Blk.new v1 34 #[.slice A1 2 c1, .int .i64 pg, .bool prw, .bool pru, .bool prx, .bool true, .bool pdy]
          have s1_ := (OwnA.sla r1).self ((Chg.refl [] v1).alloc (.cells #[.slice A1 2 c1, .int .i64 pg, .bool prw, .bool pru, .bool prx, .bool true, .bool pdy] 34))
          have n1_ : ∀ g o, A1 = some ⟨g, o, none⟩ → g ≠ b := fun g o e => by have := l1 g (by rw [e]; simp [Value.ownBlock]); have := g2.hm.ws.lt; omega
          clear hca g2 hE2 r1 l1 k1 x1
          obtain ⟨q0, q1, q2, q3, q4, q5, q6, _, _, _, _, _, _, _⟩ := blk7 b1_
          obtain ⟨x0g, x0i⟩ := x0
          obtain ⟨x1g, x1i⟩ := x1
          have hq := fun w0 => run_neA x1g x1i w0
          have hqr : ∀ w0 : World, (binOp .neq 32 (.agg #[.bool prw, .bool pru, .bool prx]) (.agg #[.bool prw, .bool pru, .bool prx])).run Tryd.prog w0 = .ok (.bool false) w0 := fun w0 => run_neR ⟨prw, pru, prx⟩ w0
          have hB1 : Int.tmod (pg - (t : Int) % 8) 8 = 0 := by
            rw [Int.tmod_eq_emod_of_nonneg (by omega)]; omega
          have HB := Lib.hid hlow
          clear hlow
          go_wp2_with fail
          generalize hz1 : v1.alloc (.cells #[.slice A1 2 c1, .int .i64 pg, .bool prw, .bool pru, .bool prx, .bool true, .bool pdy] 34) = z1 at *
          generalize v1.heap.size = pb at *
          clear q0 q1 q2 q3 q4 q5 q6
          go_loopw [14] (fun i w' => ∃ k : Nat, k ≤ 8 ∧ i = .int .i64 k ∧ Chg [] z1 w') (fun i _ => 8 - (intOf i).toNat)
          case atStart => exact ⟨0, by omega, rfl, Chg.refl [] z1⟩
          case round =>
            obtain ⟨k, hk, rfl, hc⟩ := hrel
            have ccr := cc1.trans hc (by simp)
            have ggr := gg1.self hc
            have EEr := EE1.self hc
            have b1_ := b1_.chg_ hc (by simp)
            have s1_ := s1_.self hc
            by_cases hlt : k < 8
            · have hw := hall k hlt
              have hB2 : pg - (t : Int) % 8 + (k : Int) < 16 := by have := HB.out; omega
              have hpk : (t : Int) / 8 * 8 + (k : Int) = (t : Int) / 8 * 8 + k := rfl
              go_wp2_with fail
              refine (Walk_is q S p L16 hh b 16 W rn ((t : Int) / 8 * 8 + k) 0 false ⟨[(x0g, x0i), (x1g, x1i)], pg - (t : Int) % 8 + k, ⟨prw, pru, prx⟩, true, pdy⟩ 0 0 _ EEr ggr hwd hw).mono ?_; rintro e v2 ⟨A2, c2, rfl, r2, l2, k2⟩
              rw [show pathV A2 c2 ⟨[(x0g, x0i), (x1g, x1i)], pg - (t : Int) % 8 + k, ⟨prw, pru, prx⟩, true, pdy⟩ = #[.slice A2 2 c2, .int .i64 (pg - (t : Int) % 8 + k), .bool prw, .bool pru, .bool prx, .bool true, .bool pdy] from rfl]
              have K2_ : Chg [] wr (v2.alloc (.cells #[.slice A2 2 c2, .int .i64 (pg - (t : Int) % 8 + k), .bool prw, .bool pru, .bool prx, .bool true, .bool pdy] 34)) := k2.alloc _
              have x2 : Chg [] wr (v2.alloc (.cells #[.slice A2 2 c2, .int .i64 (pg - (t : Int) % 8 + k), .bool prw, .bool pru, .bool prx, .bool true, .bool pdy] 34)) := k2.alloc _
              have cc2 := ccr.trans x2 (by simp)
              have gg2 := ggr.self x2
              have EE2 := EEr.self x2
              have b2_ := Blk.new v2 34 #[.slice A2 2 c2, .int .i64 (pg - (t : Int) % 8 + k), .bool prw, .bool pru, .bool prx, .bool true, .bool pdy]
              have s2_ := (OwnA.sla r2).self ((Chg.refl [] v2).alloc (.cells #[.slice A2 2 c2, .int .i64 (pg - (t : Int) % 8 + k), .bool prw, .bool pru, .bool prx, .bool true, .bool pdy] 34))
              have n2_ : ∀ g o, A2 = some ⟨g, o, none⟩ → g ≠ b := fun g o e => by have := l2 g (by rw [e]; simp [Value.ownBlock]); have := ggr.hm.ws.lt; omega
              have b1_ := b1_.chg_ x2 (by simp); have s1_ := s1_.self x2
              clear ccr ggr EEr r2 l2 k2 x2
              have sb1 : SlA (v2.alloc (.cells #[.slice A2 2 c2, .int .i64 (pg - (t : Int) % 8 + k), .bool prw, .bool pru, .bool prx, .bool true, .bool pdy] 34)) A1 2 [(x0g, x0i), (x1g, x1i)] := s1_
              have sb2 : SlA (v2.alloc (.cells #[.slice A2 2 c2, .int .i64 (pg - (t : Int) % 8 + k), .bool prw, .bool pru, .bool prx, .bool true, .bool pdy] 34)) A2 2 [(x0g, x0i), (x1g, x1i)] := s2_
              clear s1_ s2_ n1_ n2_
              obtain ⟨q0, q1, q2, q3, q4, q5, q6, _, _, _, _, _, _, _⟩ := blk7 b1_
              obtain ⟨r0, r1, r2, r3, r4, r5, r6, _, _, _, _, _, _, _⟩ := blk7 b2_
              go_wp2_with fail
              generalize hzz : (v2.alloc (.cells #[.slice A2 2 c2, .int .i64 (pg - (t : Int) % 8 + k), .bool prw, .bool pru, .bool prx, .bool true, .bool pdy] 34)) = zz at *
              generalize v2.heap.size = pb2 at *
              obtain ⟨ab, off, hA1, _, _, y0, y1⟩ := sb1.get (k := 1) (by simp)
              obtain ⟨ab2, off2, hA2, _, _, z0, z1_⟩ := sb2.get (k := 1) (by simp)
              subst hA1; subst hA2
              simp only [List.getD_cons_succ, List.getD_cons_zero, Nat.one_mul] at y0 y1 z0 z1_
              have Kq0 := fun nq : Cls zz => nq.cell q0
              have Kq1 := fun nq : Cls zz => nq.cell q1
              have Kq2 := fun nq : Cls zz => nq.cell q2
              have Kq3 := fun nq : Cls zz => nq.cell q3
              have Kq4 := fun nq : Cls zz => nq.cell q4
              have Kq5 := fun nq : Cls zz => nq.cell q5
              have Kq6 := fun nq : Cls zz => nq.cell q6
              have Kr0 := fun nq : Cls zz => nq.cell r0
              have Kr1 := fun nq : Cls zz => nq.cell r1
              have Kr2 := fun nq : Cls zz => nq.cell r2
              have Kr3 := fun nq : Cls zz => nq.cell r3
              have Kr4 := fun nq : Cls zz => nq.cell r4
              have Kr5 := fun nq : Cls zz => nq.cell r5
              have Kr6 := fun nq : Cls zz => nq.cell r6
              have Ky0 := fun nq : Cls zz => nq.cell y0
              have Ky1 := fun nq : Cls zz => nq.cell y1
              have Kz0 := fun nq : Cls zz => nq.cell z0
              have Kz1_ := fun nq : Cls zz => nq.cell z1_
              refine wp_region_cls (by kernel_rfl) (by kernel_rfl) ?_
              repeat (go_big_quiet_step (fail "no call"))
              refine wpQuiet_nil ?_
              rintro _ ⟨nq, rfl⟩
              go_wp2_with fail
              go_roundw
              case rel => exact ⟨k + 1, by omega, by go_num, (hc.trans K2_ (by simp)).trans nq.ok (by simp)⟩
              case measure => simp [intOf]; omega
            · obtain rfl : k = 8 := by omega
              go_wp2_with fail
              go_ret
              exact ⟨rfl, ccr⟩
        · obtain ⟨pats, pg, ⟨prw, pru, prx⟩, plg, pdy⟩ := P
          simp only at hlg hlen
          subst hlg
          obtain ⟨x0, x1, x2, rfl⟩ : ∃ x0 x1 x2, pats = [x0, x1, x2] := by
            match pats, hlen with
            | [x0, x1, x2], _ => exact ⟨x0, x1, x2, rfl⟩
          go_wp2_with fail
          refine (Walk_is q S p L16 hh b 16 W rn t 0 false ⟨[x0, x1, x2], pg, ⟨prw, pru, prx⟩, false, pdy⟩ 0 0 _ hE2 g2 hwd hr).mono ?_; rintro e v1 ⟨A1, c1, rfl, r1, l1, k1⟩
          rw [show pathV A1 c1 ⟨[x0, x1, x2], pg, ⟨prw, pru, prx⟩, false, pdy⟩ = #[.slice A1 3 c1, .int .i64 pg, .bool prw, .bool pru, .bool prx, .bool false, .bool pdy] from rfl]
          have x1 : Chg [] w2 (v1.alloc (.cells #[.slice A1 3 c1, .int .i64 pg, .bool prw, .bool pru, .bool prx, .bool false, .bool pdy] 34)) := k1.alloc _
          have cc1 := hca.trans x1 (by simp)
          have gg1 := g2.self x1
          have EE1 := hE2.self x1
          have b1_ := Blk.new v1 34 #[.slice A1 3 c1, .int .i64 pg, .bool prw, .bool pru, .bool prx, .bool false, .bool pdy]
          have s1_ := (OwnA.sla r1).self ((Chg.refl [] v1).alloc (.cells #[.slice A1 3 c1, .int .i64 pg, .bool prw, .bool pru, .bool prx, .bool false, .bool pdy] 34))
          have n1_ : ∀ g o, A1 = some ⟨g, o, none⟩ → g ≠ b := fun g o e => by have := l1 g (by rw [e]; simp [Value.ownBlock]); have := g2.hm.ws.lt; omega
          clear hca g2 hE2 r1 l1 k1 x1
          obtain ⟨q0, q1, q2, q3, q4, q5, q6, _, _, _, _, _, _, _⟩ := blk7 b1_
          go_wp2_with fail
          go_ret
          exact ⟨rfl, cc1⟩
      · obtain ⟨rfl, _⟩ := walk_zero hr hz
        go_wp2_with fail
        refine (Walk_is q S p L16 hh b 16 W rn t 0 false Pa.zero how code _ hE2 g2 hwd hr).mono ?_; rintro e v1 ⟨A1, c1, rfl, r1, l1, k1⟩
        rw [show pathV A1 c1 Pa.zero = #[.slice A1 0 c1, .int .i64 0, .bool false, .bool false, .bool false, .bool false, .bool false] from rfl]
        have x1 : Chg [] w2 (v1.alloc (.cells #[.slice A1 0 c1, .int .i64 0, .bool false, .bool false, .bool false, .bool false, .bool false] 34)) := k1.alloc _
        have cc1 := hca.trans x1 (by simp)
        have gg1 := g2.self x1
        have EE1 := hE2.self x1
        have b1_ := Blk.new v1 34 #[.slice A1 0 c1, .int .i64 0, .bool false, .bool false, .bool false, .bool false, .bool false]
        have s1_ := (OwnA.sla r1).self ((Chg.refl [] v1).alloc (.cells #[.slice A1 0 c1, .int .i64 0, .bool false, .bool false, .bool false, .bool false, .bool false] 34))
        have n1_ : ∀ g o, A1 = some ⟨g, o, none⟩ → g ≠ b := fun g o e => by have := l1 g (by rw [e]; simp [Value.ownBlock]); have := g2.hm.ws.lt; omega
        clear hca g2 hE2 r1 l1 k1 x1
        obtain ⟨q0, q1, q2, q3, q4, q5, q6, _, _, _, _, _, _, _⟩ := blk7 b1_
        go_wp2_with fail
        go_ret
        exact ⟨rfl, cc1⟩

end Go.Proofs.YtdfmlodmaipnkaaDoor
