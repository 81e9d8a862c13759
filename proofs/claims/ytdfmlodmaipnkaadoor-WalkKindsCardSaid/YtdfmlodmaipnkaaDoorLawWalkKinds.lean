/-
  WalkKinds: the walk.
-/
import Derived.Test.YtdfmlodmaipnkaaDoorWalkHead
import Derived.Test.YtdfmlodmaipnkaaDoorWalkK
namespace Go.Proofs.YtdfmlodmaipnkaaDoor
open Go.RowKit Go.Maps

set_option maxRecDepth 100000 in
set_option maxHeartbeats 16000000 in
theorem WalkKinds_walk (A : Option Addr) (m c : Nat) (l : List Pu) (root page kind : Int) (w : World) (h : SlP w A m l) (hp0 : 0 ≤ page ∧ page ≤ 65535) (hk0 : 0 ≤ kind ∧ kind ≤ 255) (hE : ErrIn w) :
    Calls Tryd.prog 6 #[.slice A m c, .int .i64 root, .int .u16 page, .int .u8 kind] w fun e w' => e = .returned (.bool true) ∧ Chg [] w w' := by
  have hwd := made_wd l h.wf
  have hl := h.le
  go_enter Tryd.func6, Tryd.ntmps6
  go_wp2_with fail
  refine (Wahead_any _ hE).mono ?_; rintro e w1 ⟨rfl, hc1⟩
  go_wp2_with fail
  refine (Made_at A m c l _ (h.self hc1)).mono ?_; rintro e w2 ⟨q, S, p, hh, b, rfl, hc2, g2, hb⟩
  have hca : Chg [] w w2 := hc1.trans hc2 (by simp)
  have hbw : w.heap.size ≤ b := by have := hc1.size; omega
  have hE2 := hE.self hca
  generalize madeW l = W at *
  obtain ⟨hwd, hWl⟩ := hwd
  clear hc1 hc2 hb h hE
  by_cases hbig : (m : Int) > 600
  · go_wp2_with fail
    go_ret
    exact ⟨rfl, hca⟩
  · have hpm : Int.tmod page 512 = page % 512 := Int.tmod_eq_emod_of_nonneg hp0.1
    have hkm : Int.tmod kind 3 = kind % 3 := Int.tmod_eq_emod_of_nonneg hk0.1
    have hkk := kinds 16 W L16 root (page % 512) (kind % 3)
    have hpr : 0 ≤ page % 512 ∧ page % 512 < 512 := by omega
    have hkr : 0 ≤ kind % 3 ∧ kind % 3 < 3 := by omega
    generalize hpd : page % 512 = pn at *
    generalize hkd : kind % 3 = kn at *
    rcases hkk with ⟨P, h1, h2, h3, hlen⟩ | ⟨P, ha, ca, h1, hn1, h2, h3, hlen⟩ | ⟨P, ha, ca, hb', cb, h1, hn1, h2, hn2, h3⟩ | ⟨ha, ca, hb', cb, cd, h1, hn1, h2, hn2, h3 | ⟨h3, hd⟩⟩ | ⟨ca, cb, cd, h1, h2, h3, e1, e2, e3⟩
    · obtain ⟨pats, pg, ⟨prw, pru, prx⟩, plg, pdy⟩ := P
      have hlen' : pats.length ≤ 3 := hlen
      go_wp2_with fail
      refine (Walk_is q S p L16 hh b 16 W root pn kn true ⟨pats, pg, ⟨prw, pru, prx⟩, plg, pdy⟩ 0 0 _ hE2 g2 hwd h1).mono ?_; rintro e v1 ⟨A1, c1, rfl, r1, l1, k1⟩
      rw [show pathV A1 c1 ⟨pats, pg, ⟨prw, pru, prx⟩, plg, pdy⟩ = #[.slice A1 pats.length c1, .int .i64 pg, .bool prw, .bool pru, .bool prx, .bool plg, .bool pdy] from rfl]
      have x1 : Chg [] w2 (v1.alloc (.cells #[.slice A1 pats.length c1, .int .i64 pg, .bool prw, .bool pru, .bool prx, .bool plg, .bool pdy] 34)) := k1.alloc _
      have cc1 := hca.trans x1 (by simp)
      have gg1 := g2.self x1
      have EE1 := hE2.self x1
      have b1_ := Blk.new v1 34 #[.slice A1 pats.length c1, .int .i64 pg, .bool prw, .bool pru, .bool prx, .bool plg, .bool pdy]
      have s1_ := (OwnA.sla r1).self ((Chg.refl [] v1).alloc (.cells #[.slice A1 pats.length c1, .int .i64 pg, .bool prw, .bool pru, .bool prx, .bool plg, .bool pdy] 34))
      have n1_ : ∀ g o, A1 = some ⟨g, o, none⟩ → g ≠ b := fun g o e => by have := l1 g (by rw [e]; simp [Value.ownBlock]); have := g2.hm.ws.lt; omega
      clear hca g2 hE2 r1 l1 k1 x1
      go_wp2_with fail
      refine (Walk_is q S p L16 hh b 16 W root pn kn false ⟨pats, pg, ⟨prw, pru, prx⟩, plg, pdy⟩ 0 0 _ EE1 gg1 hwd h2).mono ?_; rintro e v2 ⟨A2, c2, rfl, r2, l2, k2⟩
      rw [show pathV A2 c2 ⟨pats, pg, ⟨prw, pru, prx⟩, plg, pdy⟩ = #[.slice A2 pats.length c2, .int .i64 pg, .bool prw, .bool pru, .bool prx, .bool plg, .bool pdy] from rfl]
      have x2 : Chg [] (v1.alloc (.cells #[.slice A1 pats.length c1, .int .i64 pg, .bool prw, .bool pru, .bool prx, .bool plg, .bool pdy] 34)) (v2.alloc (.cells #[.slice A2 pats.length c2, .int .i64 pg, .bool prw, .bool pru, .bool prx, .bool plg, .bool pdy] 34)) := k2.alloc _
      have cc2 := cc1.trans x2 (by simp)
      have gg2 := gg1.self x2
      have EE2 := EE1.self x2
      have b2_ := Blk.new v2 34 #[.slice A2 pats.length c2, .int .i64 pg, .bool prw, .bool pru, .bool prx, .bool plg, .bool pdy]
      have s2_ := (OwnA.sla r2).self ((Chg.refl [] v2).alloc (.cells #[.slice A2 pats.length c2, .int .i64 pg, .bool prw, .bool pru, .bool prx, .bool plg, .bool pdy] 34))
      have n2_ : ∀ g o, A2 = some ⟨g, o, none⟩ → g ≠ b := fun g o e => by have := l2 g (by rw [e]; simp [Value.ownBlock]); have := gg1.hm.ws.lt; omega
      have b1_ := b1_.chg_ x2 (by simp); have s1_ := s1_.self x2
      clear cc1 gg1 EE1 r2 l2 k2 x2
      go_wp2_with fail
      refine (Walk_is q S p L16 hh b 16 W root pn 0 false ⟨pats, pg, ⟨prw, pru, prx⟩, plg, pdy⟩ 0 0 _ EE2 gg2 hwd h3).mono ?_; rintro e v3 ⟨A3, c3, rfl, r3, l3, k3⟩
      rw [show pathV A3 c3 ⟨pats, pg, ⟨prw, pru, prx⟩, plg, pdy⟩ = #[.slice A3 pats.length c3, .int .i64 pg, .bool prw, .bool pru, .bool prx, .bool plg, .bool pdy] from rfl]
      have x3 : Chg [] (v2.alloc (.cells #[.slice A2 pats.length c2, .int .i64 pg, .bool prw, .bool pru, .bool prx, .bool plg, .bool pdy] 34)) (v3.alloc (.cells #[.slice A3 pats.length c3, .int .i64 pg, .bool prw, .bool pru, .bool prx, .bool plg, .bool pdy] 34)) := k3.alloc _
      have cc3 := cc2.trans x3 (by simp)
      have gg3 := gg2.self x3
      have EE3 := EE2.self x3
      have b3_ := Blk.new v3 34 #[.slice A3 pats.length c3, .int .i64 pg, .bool prw, .bool pru, .bool prx, .bool plg, .bool pdy]
      have s3_ := (OwnA.sla r3).self ((Chg.refl [] v3).alloc (.cells #[.slice A3 pats.length c3, .int .i64 pg, .bool prw, .bool pru, .bool prx, .bool plg, .bool pdy] 34))
      have n3_ : ∀ g o, A3 = some ⟨g, o, none⟩ → g ≠ b := fun g o e => by have := l3 g (by rw [e]; simp [Value.ownBlock]); have := gg2.hm.ws.lt; omega
      have b1_ := b1_.chg_ x3 (by simp); have s1_ := s1_.self x3
      have b2_ := b2_.chg_ x3 (by simp); have s2_ := s2_.self x3
      clear cc2 gg2 EE2 r3 l3 k3 x3
      obtain ⟨q0, q1, q2, q3, q4, q5, q6, _, _, _, _, _, _, _⟩ := blk7 b1_
      obtain ⟨r0, r1, r2, r3, r4, r5, r6, _, _, _, _, _, _, _⟩ := blk7 b2_
      obtain ⟨u0, u1, u2, u3, u4, u5, u6, _, _, _, _, _, _, _⟩ := blk7 b3_
      go_wp2_with fail
      refine (Same_eq A1 A2 c1 c2 ⟨pats, pg, ⟨prw, pru, prx⟩, plg, pdy⟩ _ s1_ s2_ (Nat.le_trans hlen' (by decide))).mono ?_; rintro e y1 ⟨rfl, t1⟩
      have d1 := cc3.trans t1 (by simp)
      have b1_ := b1_.chg_ t1 (by simp); have s1_ := s1_.self t1
      have b2_ := b2_.chg_ t1 (by simp); have s2_ := s2_.self t1
      have b3_ := b3_.chg_ t1 (by simp); have s3_ := s3_.self t1
      obtain ⟨q0, q1, q2, q3, q4, q5, q6, _, _, _, _, _, _, _⟩ := blk7 b1_
      obtain ⟨r0, r1, r2, r3, r4, r5, r6, _, _, _, _, _, _, _⟩ := blk7 b2_
      obtain ⟨u0, u1, u2, u3, u4, u5, u6, _, _, _, _, _, _, _⟩ := blk7 b3_
      go_wp2_with fail
      refine (Same_eq A2 A3 c2 c3 ⟨pats, pg, ⟨prw, pru, prx⟩, plg, pdy⟩ _ s2_ s3_ (Nat.le_trans hlen' (by decide))).mono ?_; rintro e y2 ⟨rfl, t2⟩
      have d2 := d1.trans t2 (by simp)
      have b1_ := b1_.chg_ t2 (by simp); have s1_ := s1_.self t2
      have b2_ := b2_.chg_ t2 (by simp); have s2_ := s2_.self t2
      have b3_ := b3_.chg_ t2 (by simp); have s3_ := s3_.self t2
      obtain ⟨q0, q1, q2, q3, q4, q5, q6, _, _, _, _, _, _, _⟩ := blk7 b1_
      obtain ⟨r0, r1, r2, r3, r4, r5, r6, _, _, _, _, _, _, _⟩ := blk7 b2_
      obtain ⟨u0, u1, u2, u3, u4, u5, u6, _, _, _, _, _, _, _⟩ := blk7 b3_
      go_wp2_with fail
      go_ret
      exact ⟨rfl, d2⟩
    · obtain ⟨pats, pg, ⟨prw, pru, prx⟩, plg, pdy⟩ := P
      have hlen' : pats.length ≤ 3 := hlen
      go_wp2_with fail
      refine (Walk_is q S p L16 hh b 16 W root pn kn true Pa.zero ha ca _ hE2 g2 hwd h1).mono ?_; rintro e v1 ⟨A1, c1, rfl, r1, l1, k1⟩
      rw [show pathV A1 c1 Pa.zero = #[.slice A1 0 c1, .int .i64 0, .bool false, .bool false, .bool false, .bool false, .bool false] from rfl]
      have x1 : Chg [] w2 (v1.alloc (.cells #[.slice A1 0 c1, .int .i64 0, .bool false, .bool false, .bool false, .bool false, .bool false] 34)) := k1.alloc _
      have cc1 := hca.trans x1 (by simp)
      have gg1 := g2.self x1
      have EE1 := hE2.self x1
      have b1_ := Blk.new v1 34 #[.slice A1 0 c1, .int .i64 0, .bool false, .bool false, .bool false, .bool false, .bool false]
      have s1_ := (OwnA.sla r1).self ((Chg.refl [] v1).alloc (.cells #[.slice A1 0 c1, .int .i64 0, .bool false, .bool false, .bool false, .bool false, .bool false] 34))
      have n1_ : ∀ g o, A1 = some ⟨g, o, none⟩ → g ≠ b := fun g o e => by have := l1 g (by rw [e]; simp [Value.ownBlock]); have := g2.hm.ws.lt; omega
      clear hca g2 hE2 r1 l1 k1 x1
      go_wp2_with fail
      refine (Walk_is q S p L16 hh b 16 W root pn kn false ⟨pats, pg, ⟨prw, pru, prx⟩, plg, pdy⟩ 0 0 _ EE1 gg1 hwd h2).mono ?_; rintro e v2 ⟨A2, c2, rfl, r2, l2, k2⟩
      rw [show pathV A2 c2 ⟨pats, pg, ⟨prw, pru, prx⟩, plg, pdy⟩ = #[.slice A2 pats.length c2, .int .i64 pg, .bool prw, .bool pru, .bool prx, .bool plg, .bool pdy] from rfl]
      have x2 : Chg [] (v1.alloc (.cells #[.slice A1 0 c1, .int .i64 0, .bool false, .bool false, .bool false, .bool false, .bool false] 34)) (v2.alloc (.cells #[.slice A2 pats.length c2, .int .i64 pg, .bool prw, .bool pru, .bool prx, .bool plg, .bool pdy] 34)) := k2.alloc _
      have cc2 := cc1.trans x2 (by simp)
      have gg2 := gg1.self x2
      have EE2 := EE1.self x2
      have b2_ := Blk.new v2 34 #[.slice A2 pats.length c2, .int .i64 pg, .bool prw, .bool pru, .bool prx, .bool plg, .bool pdy]
      have s2_ := (OwnA.sla r2).self ((Chg.refl [] v2).alloc (.cells #[.slice A2 pats.length c2, .int .i64 pg, .bool prw, .bool pru, .bool prx, .bool plg, .bool pdy] 34))
      have n2_ : ∀ g o, A2 = some ⟨g, o, none⟩ → g ≠ b := fun g o e => by have := l2 g (by rw [e]; simp [Value.ownBlock]); have := gg1.hm.ws.lt; omega
      have b1_ := b1_.chg_ x2 (by simp); have s1_ := s1_.self x2
      clear cc1 gg1 EE1 r2 l2 k2 x2
      go_wp2_with fail
      refine (Walk_is q S p L16 hh b 16 W root pn 0 false ⟨pats, pg, ⟨prw, pru, prx⟩, plg, pdy⟩ 0 0 _ EE2 gg2 hwd h3).mono ?_; rintro e v3 ⟨A3, c3, rfl, r3, l3, k3⟩
      rw [show pathV A3 c3 ⟨pats, pg, ⟨prw, pru, prx⟩, plg, pdy⟩ = #[.slice A3 pats.length c3, .int .i64 pg, .bool prw, .bool pru, .bool prx, .bool plg, .bool pdy] from rfl]
      have x3 : Chg [] (v2.alloc (.cells #[.slice A2 pats.length c2, .int .i64 pg, .bool prw, .bool pru, .bool prx, .bool plg, .bool pdy] 34)) (v3.alloc (.cells #[.slice A3 pats.length c3, .int .i64 pg, .bool prw, .bool pru, .bool prx, .bool plg, .bool pdy] 34)) := k3.alloc _
      have cc3 := cc2.trans x3 (by simp)
      have gg3 := gg2.self x3
      have EE3 := EE2.self x3
      have b3_ := Blk.new v3 34 #[.slice A3 pats.length c3, .int .i64 pg, .bool prw, .bool pru, .bool prx, .bool plg, .bool pdy]
      have s3_ := (OwnA.sla r3).self ((Chg.refl [] v3).alloc (.cells #[.slice A3 pats.length c3, .int .i64 pg, .bool prw, .bool pru, .bool prx, .bool plg, .bool pdy] 34))
      have n3_ : ∀ g o, A3 = some ⟨g, o, none⟩ → g ≠ b := fun g o e => by have := l3 g (by rw [e]; simp [Value.ownBlock]); have := gg2.hm.ws.lt; omega
      have b1_ := b1_.chg_ x3 (by simp); have s1_ := s1_.self x3
      have b2_ := b2_.chg_ x3 (by simp); have s2_ := s2_.self x3
      clear cc2 gg2 EE2 r3 l3 k3 x3
      obtain ⟨q0, q1, q2, q3, q4, q5, q6, _, _, _, _, _, _, _⟩ := blk7 b1_
      obtain ⟨r0, r1, r2, r3, r4, r5, r6, _, _, _, _, _, _, _⟩ := blk7 b2_
      obtain ⟨u0, u1, u2, u3, u4, u5, u6, _, _, _, _, _, _, _⟩ := blk7 b3_
      go_wp2_with fail
      refine (Same_eq A2 A3 c2 c3 ⟨pats, pg, ⟨prw, pru, prx⟩, plg, pdy⟩ _ s2_ s3_ (Nat.le_trans hlen' (by decide))).mono ?_; rintro e y1 ⟨rfl, t1⟩
      have d1 := cc3.trans t1 (by simp)
      have b1_ := b1_.chg_ t1 (by simp); have s1_ := s1_.self t1
      have b2_ := b2_.chg_ t1 (by simp); have s2_ := s2_.self t1
      have b3_ := b3_.chg_ t1 (by simp); have s3_ := s3_.self t1
      obtain ⟨q0, q1, q2, q3, q4, q5, q6, _, _, _, _, _, _, _⟩ := blk7 b1_
      obtain ⟨r0, r1, r2, r3, r4, r5, r6, _, _, _, _, _, _, _⟩ := blk7 b2_
      obtain ⟨u0, u1, u2, u3, u4, u5, u6, _, _, _, _, _, _, _⟩ := blk7 b3_
      go_wp2_with fail
      go_ret
      exact ⟨rfl, d1⟩
    · obtain ⟨pats, pg, ⟨prw, pru, prx⟩, plg, pdy⟩ := P
      go_wp2_with fail
      refine (Walk_is q S p L16 hh b 16 W root pn kn true Pa.zero ha ca _ hE2 g2 hwd h1).mono ?_; rintro e v1 ⟨A1, c1, rfl, r1, l1, k1⟩
      rw [show pathV A1 c1 Pa.zero = #[.slice A1 0 c1, .int .i64 0, .bool false, .bool false, .bool false, .bool false, .bool false] from rfl]
      have x1 : Chg [] w2 (v1.alloc (.cells #[.slice A1 0 c1, .int .i64 0, .bool false, .bool false, .bool false, .bool false, .bool false] 34)) := k1.alloc _
      have cc1 := hca.trans x1 (by simp)
      have gg1 := g2.self x1
      have EE1 := hE2.self x1
      have b1_ := Blk.new v1 34 #[.slice A1 0 c1, .int .i64 0, .bool false, .bool false, .bool false, .bool false, .bool false]
      have s1_ := (OwnA.sla r1).self ((Chg.refl [] v1).alloc (.cells #[.slice A1 0 c1, .int .i64 0, .bool false, .bool false, .bool false, .bool false, .bool false] 34))
      have n1_ : ∀ g o, A1 = some ⟨g, o, none⟩ → g ≠ b := fun g o e => by have := l1 g (by rw [e]; simp [Value.ownBlock]); have := g2.hm.ws.lt; omega
      clear hca g2 hE2 r1 l1 k1 x1
      go_wp2_with fail
      refine (Walk_is q S p L16 hh b 16 W root pn kn false Pa.zero hb' cb _ EE1 gg1 hwd h2).mono ?_; rintro e v2 ⟨A2, c2, rfl, r2, l2, k2⟩
      rw [show pathV A2 c2 Pa.zero = #[.slice A2 0 c2, .int .i64 0, .bool false, .bool false, .bool false, .bool false, .bool false] from rfl]
      have x2 : Chg [] (v1.alloc (.cells #[.slice A1 0 c1, .int .i64 0, .bool false, .bool false, .bool false, .bool false, .bool false] 34)) (v2.alloc (.cells #[.slice A2 0 c2, .int .i64 0, .bool false, .bool false, .bool false, .bool false, .bool false] 34)) := k2.alloc _
      have cc2 := cc1.trans x2 (by simp)
      have gg2 := gg1.self x2
      have EE2 := EE1.self x2
      have b2_ := Blk.new v2 34 #[.slice A2 0 c2, .int .i64 0, .bool false, .bool false, .bool false, .bool false, .bool false]
      have s2_ := (OwnA.sla r2).self ((Chg.refl [] v2).alloc (.cells #[.slice A2 0 c2, .int .i64 0, .bool false, .bool false, .bool false, .bool false, .bool false] 34))
      have n2_ : ∀ g o, A2 = some ⟨g, o, none⟩ → g ≠ b := fun g o e => by have := l2 g (by rw [e]; simp [Value.ownBlock]); have := gg1.hm.ws.lt; omega
      have b1_ := b1_.chg_ x2 (by simp); have s1_ := s1_.self x2
      clear cc1 gg1 EE1 r2 l2 k2 x2
      go_wp2_with fail
      refine (Walk_is q S p L16 hh b 16 W root pn 0 false ⟨pats, pg, ⟨prw, pru, prx⟩, plg, pdy⟩ 0 0 _ EE2 gg2 hwd h3).mono ?_; rintro e v3 ⟨A3, c3, rfl, r3, l3, k3⟩
      rw [show pathV A3 c3 ⟨pats, pg, ⟨prw, pru, prx⟩, plg, pdy⟩ = #[.slice A3 pats.length c3, .int .i64 pg, .bool prw, .bool pru, .bool prx, .bool plg, .bool pdy] from rfl]
      have x3 : Chg [] (v2.alloc (.cells #[.slice A2 0 c2, .int .i64 0, .bool false, .bool false, .bool false, .bool false, .bool false] 34)) (v3.alloc (.cells #[.slice A3 pats.length c3, .int .i64 pg, .bool prw, .bool pru, .bool prx, .bool plg, .bool pdy] 34)) := k3.alloc _
      have cc3 := cc2.trans x3 (by simp)
      have gg3 := gg2.self x3
      have EE3 := EE2.self x3
      have b3_ := Blk.new v3 34 #[.slice A3 pats.length c3, .int .i64 pg, .bool prw, .bool pru, .bool prx, .bool plg, .bool pdy]
      have s3_ := (OwnA.sla r3).self ((Chg.refl [] v3).alloc (.cells #[.slice A3 pats.length c3, .int .i64 pg, .bool prw, .bool pru, .bool prx, .bool plg, .bool pdy] 34))
      have n3_ : ∀ g o, A3 = some ⟨g, o, none⟩ → g ≠ b := fun g o e => by have := l3 g (by rw [e]; simp [Value.ownBlock]); have := gg2.hm.ws.lt; omega
      have b1_ := b1_.chg_ x3 (by simp); have s1_ := s1_.self x3
      have b2_ := b2_.chg_ x3 (by simp); have s2_ := s2_.self x3
      clear cc2 gg2 EE2 r3 l3 k3 x3
      obtain ⟨q0, q1, q2, q3, q4, q5, q6, _, _, _, _, _, _, _⟩ := blk7 b1_
      obtain ⟨r0, r1, r2, r3, r4, r5, r6, _, _, _, _, _, _, _⟩ := blk7 b2_
      obtain ⟨u0, u1, u2, u3, u4, u5, u6, _, _, _, _, _, _, _⟩ := blk7 b3_
      go_wp2_with fail
      go_ret
      exact ⟨rfl, cc3⟩
    · go_wp2_with fail
      refine (Walk_is q S p L16 hh b 16 W root pn kn true Pa.zero ha ca _ hE2 g2 hwd h1).mono ?_; rintro e v1 ⟨A1, c1, rfl, r1, l1, k1⟩
      rw [show pathV A1 c1 Pa.zero = #[.slice A1 0 c1, .int .i64 0, .bool false, .bool false, .bool false, .bool false, .bool false] from rfl]
      have x1 : Chg [] w2 (v1.alloc (.cells #[.slice A1 0 c1, .int .i64 0, .bool false, .bool false, .bool false, .bool false, .bool false] 34)) := k1.alloc _
      have cc1 := hca.trans x1 (by simp)
      have gg1 := g2.self x1
      have EE1 := hE2.self x1
      have b1_ := Blk.new v1 34 #[.slice A1 0 c1, .int .i64 0, .bool false, .bool false, .bool false, .bool false, .bool false]
      have s1_ := (OwnA.sla r1).self ((Chg.refl [] v1).alloc (.cells #[.slice A1 0 c1, .int .i64 0, .bool false, .bool false, .bool false, .bool false, .bool false] 34))
      have n1_ : ∀ g o, A1 = some ⟨g, o, none⟩ → g ≠ b := fun g o e => by have := l1 g (by rw [e]; simp [Value.ownBlock]); have := g2.hm.ws.lt; omega
      clear hca g2 hE2 r1 l1 k1 x1
      go_wp2_with fail
      refine (Walk_is q S p L16 hh b 16 W root pn kn false Pa.zero hb' cb _ EE1 gg1 hwd h2).mono ?_; rintro e v2 ⟨A2, c2, rfl, r2, l2, k2⟩
      rw [show pathV A2 c2 Pa.zero = #[.slice A2 0 c2, .int .i64 0, .bool false, .bool false, .bool false, .bool false, .bool false] from rfl]
      have x2 : Chg [] (v1.alloc (.cells #[.slice A1 0 c1, .int .i64 0, .bool false, .bool false, .bool false, .bool false, .bool false] 34)) (v2.alloc (.cells #[.slice A2 0 c2, .int .i64 0, .bool false, .bool false, .bool false, .bool false, .bool false] 34)) := k2.alloc _
      have cc2 := cc1.trans x2 (by simp)
      have gg2 := gg1.self x2
      have EE2 := EE1.self x2
      have b2_ := Blk.new v2 34 #[.slice A2 0 c2, .int .i64 0, .bool false, .bool false, .bool false, .bool false, .bool false]
      have s2_ := (OwnA.sla r2).self ((Chg.refl [] v2).alloc (.cells #[.slice A2 0 c2, .int .i64 0, .bool false, .bool false, .bool false, .bool false, .bool false] 34))
      have n2_ : ∀ g o, A2 = some ⟨g, o, none⟩ → g ≠ b := fun g o e => by have := l2 g (by rw [e]; simp [Value.ownBlock]); have := gg1.hm.ws.lt; omega
      have b1_ := b1_.chg_ x2 (by simp); have s1_ := s1_.self x2
      clear cc1 gg1 EE1 r2 l2 k2 x2
      go_wp2_with fail
      refine (Walk_is q S p L16 hh b 16 W root pn 0 false Pa.zero 3 0 _ EE2 gg2 hwd h3).mono ?_; rintro e v3 ⟨A3, c3, rfl, r3, l3, k3⟩
      rw [show pathV A3 c3 Pa.zero = #[.slice A3 0 c3, .int .i64 0, .bool false, .bool false, .bool false, .bool false, .bool false] from rfl]
      have x3 : Chg [] (v2.alloc (.cells #[.slice A2 0 c2, .int .i64 0, .bool false, .bool false, .bool false, .bool false, .bool false] 34)) (v3.alloc (.cells #[.slice A3 0 c3, .int .i64 0, .bool false, .bool false, .bool false, .bool false, .bool false] 34)) := k3.alloc _
      have cc3 := cc2.trans x3 (by simp)
      have gg3 := gg2.self x3
      have EE3 := EE2.self x3
      have b3_ := Blk.new v3 34 #[.slice A3 0 c3, .int .i64 0, .bool false, .bool false, .bool false, .bool false, .bool false]
      have s3_ := (OwnA.sla r3).self ((Chg.refl [] v3).alloc (.cells #[.slice A3 0 c3, .int .i64 0, .bool false, .bool false, .bool false, .bool false, .bool false] 34))
      have n3_ : ∀ g o, A3 = some ⟨g, o, none⟩ → g ≠ b := fun g o e => by have := l3 g (by rw [e]; simp [Value.ownBlock]); have := gg2.hm.ws.lt; omega
      have b1_ := b1_.chg_ x3 (by simp); have s1_ := s1_.self x3
      have b2_ := b2_.chg_ x3 (by simp); have s2_ := s2_.self x3
      clear cc2 gg2 EE2 r3 l3 k3 x3
      obtain ⟨q0, q1, q2, q3, q4, q5, q6, _, _, _, _, _, _, _⟩ := blk7 b1_
      obtain ⟨r0, r1, r2, r3, r4, r5, r6, _, _, _, _, _, _, _⟩ := blk7 b2_
      obtain ⟨u0, u1, u2, u3, u4, u5, u6, _, _, _, _, _, _, _⟩ := blk7 b3_
      go_wp2_with fail
      go_ret
      exact ⟨rfl, cc3⟩
    · go_wp2_with fail
      refine (Walk_is q S p L16 hh b 16 W root pn kn true Pa.zero ha ca _ hE2 g2 hwd h1).mono ?_; rintro e v1 ⟨A1, c1, rfl, r1, l1, k1⟩
      rw [show pathV A1 c1 Pa.zero = #[.slice A1 0 c1, .int .i64 0, .bool false, .bool false, .bool false, .bool false, .bool false] from rfl]
      have x1 : Chg [] w2 (v1.alloc (.cells #[.slice A1 0 c1, .int .i64 0, .bool false, .bool false, .bool false, .bool false, .bool false] 34)) := k1.alloc _
      have cc1 := hca.trans x1 (by simp)
      have gg1 := g2.self x1
      have EE1 := hE2.self x1
      have b1_ := Blk.new v1 34 #[.slice A1 0 c1, .int .i64 0, .bool false, .bool false, .bool false, .bool false, .bool false]
      have s1_ := (OwnA.sla r1).self ((Chg.refl [] v1).alloc (.cells #[.slice A1 0 c1, .int .i64 0, .bool false, .bool false, .bool false, .bool false, .bool false] 34))
      have n1_ : ∀ g o, A1 = some ⟨g, o, none⟩ → g ≠ b := fun g o e => by have := l1 g (by rw [e]; simp [Value.ownBlock]); have := g2.hm.ws.lt; omega
      clear hca g2 hE2 r1 l1 k1 x1
      go_wp2_with fail
      refine (Walk_is q S p L16 hh b 16 W root pn kn false Pa.zero hb' cb _ EE1 gg1 hwd h2).mono ?_; rintro e v2 ⟨A2, c2, rfl, r2, l2, k2⟩
      rw [show pathV A2 c2 Pa.zero = #[.slice A2 0 c2, .int .i64 0, .bool false, .bool false, .bool false, .bool false, .bool false] from rfl]
      have x2 : Chg [] (v1.alloc (.cells #[.slice A1 0 c1, .int .i64 0, .bool false, .bool false, .bool false, .bool false, .bool false] 34)) (v2.alloc (.cells #[.slice A2 0 c2, .int .i64 0, .bool false, .bool false, .bool false, .bool false, .bool false] 34)) := k2.alloc _
      have cc2 := cc1.trans x2 (by simp)
      have gg2 := gg1.self x2
      have EE2 := EE1.self x2
      have b2_ := Blk.new v2 34 #[.slice A2 0 c2, .int .i64 0, .bool false, .bool false, .bool false, .bool false, .bool false]
      have s2_ := (OwnA.sla r2).self ((Chg.refl [] v2).alloc (.cells #[.slice A2 0 c2, .int .i64 0, .bool false, .bool false, .bool false, .bool false, .bool false] 34))
      have n2_ : ∀ g o, A2 = some ⟨g, o, none⟩ → g ≠ b := fun g o e => by have := l2 g (by rw [e]; simp [Value.ownBlock]); have := gg1.hm.ws.lt; omega
      have b1_ := b1_.chg_ x2 (by simp); have s1_ := s1_.self x2
      clear cc1 gg1 EE1 r2 l2 k2 x2
      go_wp2_with fail
      refine (Walk_is q S p L16 hh b 16 W root pn 0 false Pa.zero 1 cd _ EE2 gg2 hwd h3).mono ?_; rintro e v3 ⟨A3, c3, rfl, r3, l3, k3⟩
      rw [show pathV A3 c3 Pa.zero = #[.slice A3 0 c3, .int .i64 0, .bool false, .bool false, .bool false, .bool false, .bool false] from rfl]
      have x3 : Chg [] (v2.alloc (.cells #[.slice A2 0 c2, .int .i64 0, .bool false, .bool false, .bool false, .bool false, .bool false] 34)) (v3.alloc (.cells #[.slice A3 0 c3, .int .i64 0, .bool false, .bool false, .bool false, .bool false, .bool false] 34)) := k3.alloc _
      have cc3 := cc2.trans x3 (by simp)
      have gg3 := gg2.self x3
      have EE3 := EE2.self x3
      have b3_ := Blk.new v3 34 #[.slice A3 0 c3, .int .i64 0, .bool false, .bool false, .bool false, .bool false, .bool false]
      have s3_ := (OwnA.sla r3).self ((Chg.refl [] v3).alloc (.cells #[.slice A3 0 c3, .int .i64 0, .bool false, .bool false, .bool false, .bool false, .bool false] 34))
      have n3_ : ∀ g o, A3 = some ⟨g, o, none⟩ → g ≠ b := fun g o e => by have := l3 g (by rw [e]; simp [Value.ownBlock]); have := gg2.hm.ws.lt; omega
      have b1_ := b1_.chg_ x3 (by simp); have s1_ := s1_.self x3
      have b2_ := b2_.chg_ x3 (by simp); have s2_ := s2_.self x3
      clear cc2 gg2 EE2 r3 l3 k3 x3
      obtain ⟨q0, q1, q2, q3, q4, q5, q6, _, _, _, _, _, _, _⟩ := blk7 b1_
      obtain ⟨r0, r1, r2, r3, r4, r5, r6, _, _, _, _, _, _, _⟩ := blk7 b2_
      obtain ⟨u0, u1, u2, u3, u4, u5, u6, _, _, _, _, _, _, _⟩ := blk7 b3_
      go_wp2_with fail
      go_ret
      exact ⟨rfl, cc3⟩
    · go_wp2_with fail
      refine (Walk_is q S p L16 hh b 16 W root pn kn true Pa.zero 1 ca _ hE2 g2 hwd h1).mono ?_; rintro e v1 ⟨A1, c1, rfl, r1, l1, k1⟩
      rw [show pathV A1 c1 Pa.zero = #[.slice A1 0 c1, .int .i64 0, .bool false, .bool false, .bool false, .bool false, .bool false] from rfl]
      have x1 : Chg [] w2 (v1.alloc (.cells #[.slice A1 0 c1, .int .i64 0, .bool false, .bool false, .bool false, .bool false, .bool false] 34)) := k1.alloc _
      have cc1 := hca.trans x1 (by simp)
      have gg1 := g2.self x1
      have EE1 := hE2.self x1
      have b1_ := Blk.new v1 34 #[.slice A1 0 c1, .int .i64 0, .bool false, .bool false, .bool false, .bool false, .bool false]
      have s1_ := (OwnA.sla r1).self ((Chg.refl [] v1).alloc (.cells #[.slice A1 0 c1, .int .i64 0, .bool false, .bool false, .bool false, .bool false, .bool false] 34))
      have n1_ : ∀ g o, A1 = some ⟨g, o, none⟩ → g ≠ b := fun g o e => by have := l1 g (by rw [e]; simp [Value.ownBlock]); have := g2.hm.ws.lt; omega
      clear hca g2 hE2 r1 l1 k1 x1
      go_wp2_with fail
      refine (Walk_is q S p L16 hh b 16 W root pn kn false Pa.zero 1 cb _ EE1 gg1 hwd h2).mono ?_; rintro e v2 ⟨A2, c2, rfl, r2, l2, k2⟩
      rw [show pathV A2 c2 Pa.zero = #[.slice A2 0 c2, .int .i64 0, .bool false, .bool false, .bool false, .bool false, .bool false] from rfl]
      have x2 : Chg [] (v1.alloc (.cells #[.slice A1 0 c1, .int .i64 0, .bool false, .bool false, .bool false, .bool false, .bool false] 34)) (v2.alloc (.cells #[.slice A2 0 c2, .int .i64 0, .bool false, .bool false, .bool false, .bool false, .bool false] 34)) := k2.alloc _
      have cc2 := cc1.trans x2 (by simp)
      have gg2 := gg1.self x2
      have EE2 := EE1.self x2
      have b2_ := Blk.new v2 34 #[.slice A2 0 c2, .int .i64 0, .bool false, .bool false, .bool false, .bool false, .bool false]
      have s2_ := (OwnA.sla r2).self ((Chg.refl [] v2).alloc (.cells #[.slice A2 0 c2, .int .i64 0, .bool false, .bool false, .bool false, .bool false, .bool false] 34))
      have n2_ : ∀ g o, A2 = some ⟨g, o, none⟩ → g ≠ b := fun g o e => by have := l2 g (by rw [e]; simp [Value.ownBlock]); have := gg1.hm.ws.lt; omega
      have b1_ := b1_.chg_ x2 (by simp); have s1_ := s1_.self x2
      clear cc1 gg1 EE1 r2 l2 k2 x2
      go_wp2_with fail
      refine (Walk_is q S p L16 hh b 16 W root pn 0 false Pa.zero 1 cd _ EE2 gg2 hwd h3).mono ?_; rintro e v3 ⟨A3, c3, rfl, r3, l3, k3⟩
      rw [show pathV A3 c3 Pa.zero = #[.slice A3 0 c3, .int .i64 0, .bool false, .bool false, .bool false, .bool false, .bool false] from rfl]
      have x3 : Chg [] (v2.alloc (.cells #[.slice A2 0 c2, .int .i64 0, .bool false, .bool false, .bool false, .bool false, .bool false] 34)) (v3.alloc (.cells #[.slice A3 0 c3, .int .i64 0, .bool false, .bool false, .bool false, .bool false, .bool false] 34)) := k3.alloc _
      have cc3 := cc2.trans x3 (by simp)
      have gg3 := gg2.self x3
      have EE3 := EE2.self x3
      have b3_ := Blk.new v3 34 #[.slice A3 0 c3, .int .i64 0, .bool false, .bool false, .bool false, .bool false, .bool false]
      have s3_ := (OwnA.sla r3).self ((Chg.refl [] v3).alloc (.cells #[.slice A3 0 c3, .int .i64 0, .bool false, .bool false, .bool false, .bool false, .bool false] 34))
      have n3_ : ∀ g o, A3 = some ⟨g, o, none⟩ → g ≠ b := fun g o e => by have := l3 g (by rw [e]; simp [Value.ownBlock]); have := gg2.hm.ws.lt; omega
      have b1_ := b1_.chg_ x3 (by simp); have s1_ := s1_.self x3
      have b2_ := b2_.chg_ x3 (by simp); have s2_ := s2_.self x3
      clear cc2 gg2 EE2 r3 l3 k3 x3
      obtain ⟨q0, q1, q2, q3, q4, q5, q6, _, _, _, _, _, _, _⟩ := blk7 b1_
      obtain ⟨r0, r1, r2, r3, r4, r5, r6, _, _, _, _, _, _, _⟩ := blk7 b2_
      obtain ⟨u0, u1, u2, u3, u4, u5, u6, _, _, _, _, _, _, _⟩ := blk7 b3_
      go_wp2_with fail
      go_ret
      exact ⟨rfl, cc3⟩

end Go.Proofs.YtdfmlodmaipnkaaDoor
