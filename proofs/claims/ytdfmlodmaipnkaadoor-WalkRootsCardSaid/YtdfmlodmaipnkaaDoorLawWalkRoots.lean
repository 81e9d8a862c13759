/-
  WalkRoots: the walk.
-/
import Derived.Test.YtdfmlodmaipnkaaDoorWalkHead
import Derived.Test.YtdfmlodmaipnkaaDoorWalkK
namespace Go.Proofs.YtdfmlodmaipnkaaDoor
open Go.RowKit Go.Maps

set_option maxRecDepth 100000 in
set_option maxHeartbeats 16000000 in
theorem WalkRoots_walk (A : Option Addr) (m c : Nat) (l : List Pu) (root page kind : Int) (user : Bool) (w : World) (h : SlP w A m l) (hE : ErrIn w) :
    Calls Tryd.prog 8 #[.slice A m c, .int .i64 root, .int .i64 page, .int .i64 kind, .bool user] w fun e w' => e = .returned (.bool true) ∧ Chg [] w w' := by
  have hwd := made_wd l h.wf
  have hl := h.le
  go_enter Tryd.func8, Tryd.ntmps8
  go_wp2_with fail
  refine (Wahead_any _ hE).mono ?_; rintro e w1 ⟨rfl, hc1⟩
  go_wp2_with fail
  refine (Made_at A m c l _ (h.self hc1)).mono ?_; rintro e w2 ⟨q, S, p, hh, b, rfl, hc2, g2, hb⟩
  have hca : Chg [] w w2 := hc1.trans hc2 (by simp)
  have hbw : w.heap.size ≤ b := by have := hc1.size; omega
  have hE2 := hE.self hca
  generalize madeW l = W at *
  obtain ⟨hwd, hWl⟩ := hwd
  clear hc1 hc2 hb h hE
  by_cases hbig : (m : Int) > 600
  · go_wp2_with fail
    go_ret
    exact ⟨rfl, hca⟩
  · by_cases hin : 0 ≤ root ∧ root < 16
    · obtain ⟨hi0, hi1⟩ := hin
      cases hr : walkP 16 W L16 root page kind user with
      | mk P hc =>
        obtain ⟨how, code⟩ := hc
        have hlen := walk_len hr
        obtain ⟨pats, pg, ⟨prw, pru, prx⟩, plg, pdy⟩ := P
        have hlen' : pats.length ≤ 3 := hlen
        go_wp2_with fail
        refine (Walk_is q S p L16 hh b 16 W root page kind user ⟨pats, pg, ⟨prw, pru, prx⟩, plg, pdy⟩ how code _ hE2 g2 hwd hr).mono ?_; rintro e v1 ⟨A1, c1, rfl, r1, l1, k1⟩
        rw [show pathV A1 c1 ⟨pats, pg, ⟨prw, pru, prx⟩, plg, pdy⟩ = #[.slice A1 pats.length c1, .int .i64 pg, .bool prw, .bool pru, .bool prx, .bool plg, .bool pdy] from rfl]
        have x1 : Chg [] w2 (v1.alloc (.cells #[.slice A1 pats.length c1, .int .i64 pg, .bool prw, .bool pru, .bool prx, .bool plg, .bool pdy] 34)) := k1.alloc _
        have cc1 := hca.trans x1 (by simp)
        have gg1 := g2.self x1
        have EE1 := hE2.self x1
        have b1_ := Blk.new v1 34 #[.slice A1 pats.length c1, .int .i64 pg, .bool prw, .bool pru, .bool prx, .bool plg, .bool pdy]
        have s1_ := (OwnA.sla r1).self ((Chg.refl [] v1).alloc (.cells #[.slice A1 pats.length c1, .int .i64 pg, .bool prw, .bool pru, .bool prx, .bool plg, .bool pdy] 34))
        have n1_ : ∀ g o, A1 = some ⟨g, o, none⟩ → g ≠ b := fun g o e => by have := l1 g (by rw [e]; simp [Value.ownBlock]); have := g2.hm.ws.lt; omega
        clear hca g2 hE2 r1 l1 k1 x1
        go_wp2_with fail
        refine (Walk_is q S p L16 hh b 16 W root page kind user ⟨pats, pg, ⟨prw, pru, prx⟩, plg, pdy⟩ how code _ EE1 gg1 hwd hr).mono ?_; rintro e v2 ⟨A2, c2, rfl, r2, l2, k2⟩
        rw [show pathV A2 c2 ⟨pats, pg, ⟨prw, pru, prx⟩, plg, pdy⟩ = #[.slice A2 pats.length c2, .int .i64 pg, .bool prw, .bool pru, .bool prx, .bool plg, .bool pdy] from rfl]
        have x2 : Chg [] (v1.alloc (.cells #[.slice A1 pats.length c1, .int .i64 pg, .bool prw, .bool pru, .bool prx, .bool plg, .bool pdy] 34)) (v2.alloc (.cells #[.slice A2 pats.length c2, .int .i64 pg, .bool prw, .bool pru, .bool prx, .bool plg, .bool pdy] 34)) := k2.alloc _
        have cc2 := cc1.trans x2 (by simp)
        have gg2 := gg1.self x2
        have EE2 := EE1.self x2
        have b2_ := Blk.new v2 34 #[.slice A2 pats.length c2, .int .i64 pg, .bool prw, .bool pru, .bool prx, .bool plg, .bool pdy]
        have s2_ := (OwnA.sla r2).self ((Chg.refl [] v2).alloc (.cells #[.slice A2 pats.length c2, .int .i64 pg, .bool prw, .bool pru, .bool prx, .bool plg, .bool pdy] 34))
        have n2_ : ∀ g o, A2 = some ⟨g, o, none⟩ → g ≠ b := fun g o e => by have := l2 g (by rw [e]; simp [Value.ownBlock]); have := gg1.hm.ws.lt; omega
        have b1_ := b1_.chg_ x2 (by simp); have s1_ := s1_.self x2
        clear cc1 gg1 EE1 r2 l2 k2 x2
        obtain ⟨q0, q1, q2, q3, q4, q5, q6, _, _, _, _, _, _, _⟩ := blk7 b1_
        obtain ⟨r0, r1, r2, r3, r4, r5, r6, _, _, _, _, _, _, _⟩ := blk7 b2_
        have hNN : 3 ≤ 9223372036854775807 := by decide
        go_wp2_with fail
        refine (Same_eq A1 A2 c1 c2 ⟨pats, pg, ⟨prw, pru, prx⟩, plg, pdy⟩ _ s1_ s2_ (Nat.le_trans hlen' (by decide))).mono ?_; rintro e y1 ⟨rfl, t1⟩
        have b1_ := b1_.chg_ t1 (by simp)
        obtain ⟨u0, u1, u2, u3, u4, u5, u6, _, _, _, _, _, _, _⟩ := blk7 b1_
        go_wp2_with fail
        go_ret
        exact ⟨rfl, cc2.trans t1 (by simp)⟩
    · have hr := walk_out W page kind user hin
      have hlen : Pa.zero.ats.length ≤ 3 := by decide
      by_cases hi0 : 0 ≤ root
      · have hi1 : ¬ root < 16 := fun h => hin ⟨hi0, h⟩
        clear hin
        go_wp2_with fail
        refine (Walk_is q S p L16 hh b 16 W root page kind user Pa.zero 3 0 _ hE2 g2 hwd hr).mono ?_; rintro e v1 ⟨A1, c1, rfl, r1, l1, k1⟩
        rw [show pathV A1 c1 Pa.zero = #[.slice A1 0 c1, .int .i64 0, .bool false, .bool false, .bool false, .bool false, .bool false] from rfl]
        have x1 : Chg [] w2 (v1.alloc (.cells #[.slice A1 0 c1, .int .i64 0, .bool false, .bool false, .bool false, .bool false, .bool false] 34)) := k1.alloc _
        have cc1 := hca.trans x1 (by simp)
        have gg1 := g2.self x1
        have EE1 := hE2.self x1
        have b1_ := Blk.new v1 34 #[.slice A1 0 c1, .int .i64 0, .bool false, .bool false, .bool false, .bool false, .bool false]
        have s1_ := (OwnA.sla r1).self ((Chg.refl [] v1).alloc (.cells #[.slice A1 0 c1, .int .i64 0, .bool false, .bool false, .bool false, .bool false, .bool false] 34))
        have n1_ : ∀ g o, A1 = some ⟨g, o, none⟩ → g ≠ b := fun g o e => by have := l1 g (by rw [e]; simp [Value.ownBlock]); have := g2.hm.ws.lt; omega
        clear hca g2 hE2 r1 l1 k1 x1
        go_wp2_with fail
        refine (Walk_is q S p L16 hh b 16 W root page kind user Pa.zero 3 0 _ EE1 gg1 hwd hr).mono ?_; rintro e v2 ⟨A2, c2, rfl, r2, l2, k2⟩
        rw [show pathV A2 c2 Pa.zero = #[.slice A2 0 c2, .int .i64 0, .bool false, .bool false, .bool false, .bool false, .bool false] from rfl]
        have x2 : Chg [] (v1.alloc (.cells #[.slice A1 0 c1, .int .i64 0, .bool false, .bool false, .bool false, .bool false, .bool false] 34)) (v2.alloc (.cells #[.slice A2 0 c2, .int .i64 0, .bool false, .bool false, .bool false, .bool false, .bool false] 34)) := k2.alloc _
        have cc2 := cc1.trans x2 (by simp)
        have gg2 := gg1.self x2
        have EE2 := EE1.self x2
        have b2_ := Blk.new v2 34 #[.slice A2 0 c2, .int .i64 0, .bool false, .bool false, .bool false, .bool false, .bool false]
        have s2_ := (OwnA.sla r2).self ((Chg.refl [] v2).alloc (.cells #[.slice A2 0 c2, .int .i64 0, .bool false, .bool false, .bool false, .bool false, .bool false] 34))
        have n2_ : ∀ g o, A2 = some ⟨g, o, none⟩ → g ≠ b := fun g o e => by have := l2 g (by rw [e]; simp [Value.ownBlock]); have := gg1.hm.ws.lt; omega
        have b1_ := b1_.chg_ x2 (by simp); have s1_ := s1_.self x2
        clear cc1 gg1 EE1 r2 l2 k2 x2
        obtain ⟨q0, q1, q2, q3, q4, q5, q6, _, _, _, _, _, _, _⟩ := blk7 b1_
        obtain ⟨r0, r1, r2, r3, r4, r5, r6, _, _, _, _, _, _, _⟩ := blk7 b2_
        have hNN : 3 ≤ 9223372036854775807 := by decide
        go_wp2_with fail
        refine (Same_eq A1 A2 c1 c2 Pa.zero _ s1_ s2_ (by decide)).mono ?_; rintro e y1 ⟨rfl, t1⟩
        have b1_ := b1_.chg_ t1 (by simp)
        obtain ⟨u0, u1, u2, u3, u4, u5, u6, _, _, _, _, _, _, _⟩ := blk7 b1_
        go_wp2_with fail
        go_ret
        exact ⟨rfl, cc2.trans t1 (by simp)⟩
      · clear hin
        go_wp2_with fail
        refine (Walk_is q S p L16 hh b 16 W root page kind user Pa.zero 3 0 _ hE2 g2 hwd hr).mono ?_; rintro e v1 ⟨A1, c1, rfl, r1, l1, k1⟩
        rw [show pathV A1 c1 Pa.zero = #[.slice A1 0 c1, .int .i64 0, .bool false, .bool false, .bool false, .bool false, .bool false] from rfl]
        have x1 : Chg [] w2 (v1.alloc (.cells #[.slice A1 0 c1, .int .i64 0, .bool false, .bool false, .bool false, .bool false, .bool false] 34)) := k1.alloc _
        have cc1 := hca.trans x1 (by simp)
        have gg1 := g2.self x1
        have EE1 := hE2.self x1
        have b1_ := Blk.new v1 34 #[.slice A1 0 c1, .int .i64 0, .bool false, .bool false, .bool false, .bool false, .bool false]
        have s1_ := (OwnA.sla r1).self ((Chg.refl [] v1).alloc (.cells #[.slice A1 0 c1, .int .i64 0, .bool false, .bool false, .bool false, .bool false, .bool false] 34))
        have n1_ : ∀ g o, A1 = some ⟨g, o, none⟩ → g ≠ b := fun g o e => by have := l1 g (by rw [e]; simp [Value.ownBlock]); have := g2.hm.ws.lt; omega
        clear hca g2 hE2 r1 l1 k1 x1
        go_wp2_with fail
        refine (Walk_is q S p L16 hh b 16 W root page kind user Pa.zero 3 0 _ EE1 gg1 hwd hr).mono ?_; rintro e v2 ⟨A2, c2, rfl, r2, l2, k2⟩
        rw [show pathV A2 c2 Pa.zero = #[.slice A2 0 c2, .int .i64 0, .bool false, .bool false, .bool false, .bool false, .bool false] from rfl]
        have x2 : Chg [] (v1.alloc (.cells #[.slice A1 0 c1, .int .i64 0, .bool false, .bool false, .bool false, .bool false, .bool false] 34)) (v2.alloc (.cells #[.slice A2 0 c2, .int .i64 0, .bool false, .bool false, .bool false, .bool false, .bool false] 34)) := k2.alloc _
        have cc2 := cc1.trans x2 (by simp)
        have gg2 := gg1.self x2
        have EE2 := EE1.self x2
        have b2_ := Blk.new v2 34 #[.slice A2 0 c2, .int .i64 0, .bool false, .bool false, .bool false, .bool false, .bool false]
        have s2_ := (OwnA.sla r2).self ((Chg.refl [] v2).alloc (.cells #[.slice A2 0 c2, .int .i64 0, .bool false, .bool false, .bool false, .bool false, .bool false] 34))
        have n2_ : ∀ g o, A2 = some ⟨g, o, none⟩ → g ≠ b := fun g o e => by have := l2 g (by rw [e]; simp [Value.ownBlock]); have := gg1.hm.ws.lt; omega
        have b1_ := b1_.chg_ x2 (by simp); have s1_ := s1_.self x2
        clear cc1 gg1 EE1 r2 l2 k2 x2
        obtain ⟨q0, q1, q2, q3, q4, q5, q6, _, _, _, _, _, _, _⟩ := blk7 b1_
        obtain ⟨r0, r1, r2, r3, r4, r5, r6, _, _, _, _, _, _, _⟩ := blk7 b2_
        have hNN : 3 ≤ 9223372036854775807 := by decide
        go_wp2_with fail
        refine (Same_eq A1 A2 c1 c2 Pa.zero _ s1_ s2_ (by decide)).mono ?_; rintro e y1 ⟨rfl, t1⟩
        have b1_ := b1_.chg_ t1 (by simp)
        obtain ⟨u0, u1, u2, u3, u4, u5, u6, _, _, _, _, _, _, _⟩ := blk7 b1_
        go_wp2_with fail
        go_ret
        exact ⟨rfl, cc2.trans t1 (by simp)⟩

end Go.Proofs.YtdfmlodmaipnkaaDoor
