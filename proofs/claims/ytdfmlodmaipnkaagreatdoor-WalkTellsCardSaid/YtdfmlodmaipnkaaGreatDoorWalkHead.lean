/-
  The live question 'head' of the laws of walk.
-/
import Derived.Test.YtdfmlodmaipnkaaGreatDoorWalkF
import Derived.Test.YtdfmlodmaipnkaaGreatDoorWalkG
import Derived.Test.YtdfmlodmaipnkaaGreatDoorWalkH
namespace Go.Proofs.YtdfmlodmaipnkaaGreatDoor
open Go.RowKit Go.Maps

theorem ErrIn.chg {S : List Nat} {w w' : World} (h : ErrIn w) (hc : Chg S w w') (h0 : 0 ∉ S) : ErrIn w' := (hc.cell (World.block_lt_of_cell? _ _ h) h0).trans h
theorem ErrIn.self {w w' : World} (h : ErrIn w) (hc : Chg [] w w') : ErrIn w' := h.chg hc (by simp)
theorem Walk_is (q : Nat) (S : List Nat) (p : Nat) (L : List Int) (h b n : Nat) (W : List Int) (root page kind : Int) (user : Bool) (P : Pa) (how code : Int) (w : World) (hE : ErrIn w) (gu : GuIn w q S p L h b n W) (hW : WdW W) (hr : walkP n W L root page kind user = (P, how, code)) :
    Calls Tryz.prog 7 #[.pointer (some ⟨q, 0, none⟩), .int .i64 root, .int .i64 page, .int .i64 kind, .bool user] w fun e w' =>
      ∃ A c, e = .returned (.tuple #[.agg (pathV A c P), .int .i64 how, .int .i64 code]) ∧ OwnA w' 51 (.slice A P.ats.length c) P.ats ∧ (∀ g ∈ (Value.slice A P.ats.length c).ownBlock.toList, w.heap.size ≤ g) ∧ Chg [] w w' :=
  (Walk_at q S p L h b n W root page kind user w hE gu hW).mono fun e w' hh => by
    rw [hr] at hh
    obtain ⟨A, c, h1, h2, h3⟩ := hh
    exact ⟨A, c, h1, own_weak h2 (Nat.zero_le _), own_low h2, h3⟩

def hL : List Pu := [⟨1, 0, 8199⟩, ⟨2, 0, 12295⟩, ⟨3, 5, 36929⟩, ⟨2, 1, 32903⟩, ⟨2, 2, 36999⟩]
def hW : List Int := madeW hL
def hW2 : List Int := markP 16 L16 [(1, 0), (2, 0), (3, 5)] true hW
def hP1 : Pa := ⟨[(1, 0), (2, 0), (3, 5)], 9, ⟨false, false, true⟩, false, true⟩
def hP3 : Pa := ⟨[(1, 0), (2, 1)], 11, ⟨true, true, true⟩, true, false⟩
theorem hd_wd : WdW hW := (made_wd hL (by decide)).1
theorem hd_wd2 : WdW hW2 := hd_wd.mark_ _ _ _ _
theorem hd1 : walkP 16 hW L16 1 5 0 false = (hP1, 0, 0) := by kernel_rfl
theorem hd2 : walkP 16 hW L16 1 5 1 true = (Pa.zero, 1, 7) := by kernel_rfl
theorem hd3 : walkP 16 hW L16 1 11 2 true = (hP3, 0, 0) := by kernel_rfl
theorem hd4 : walkP 16 hW L16 1 16 0 false = (Pa.zero, 1, 9) := by kernel_rfl
theorem hd5 : walkP 16 hW L16 1 6 2 false = (Pa.zero, 1, 16) := by kernel_rfl
theorem hd6 : walkP 16 hW L16 16 6 2 false = (Pa.zero, 3, 0) := by kernel_rfl
theorem hd_u : usedAts 16 hW L16 [(1, 0), (2, 0), (3, 5)] = false := by kernel_rfl
theorem hd_a : allAts 16 L16 [(1, 0), (2, 0), (3, 5)] = true := by kernel_rfl
theorem hd_u2 : usedAts 16 hW2 L16 [(1, 0), (2, 0), (3, 5)] = true := by kernel_rfl
theorem hd_g : getG 16 hW2 L16 3 5 = 36961 := by kernel_rfl
theorem hd_h : hasG 16 L16 3 5 = true := by kernel_rfl

theorem slp_head {w : World} {g : Nat} {t : TypeId} (hb : Blk w g t #[.int .i64 1, .int .i64 0, .int .u64 8199, .int .i64 2, .int .i64 0, .int .u64 12295, .int .i64 3, .int .i64 5, .int .u64 36929, .int .i64 2, .int .i64 1, .int .u64 32903, .int .i64 2, .int .i64 2, .int .u64 36999]) : SlP w (some ⟨g, 0, none⟩) 5 hL :=
  ⟨by decide, rfl, by decide, fun _ => ⟨g, 0, rfl, hb.lt, fun j x hx => by
    match j with
    | 0 => obtain rfl : (⟨1, 0, 8199⟩ : Pu) = x := by simpa [hL] using hx
           exact ⟨hb.cell 0, hb.cell 1, hb.cell 2⟩
    | 1 => obtain rfl : (⟨2, 0, 12295⟩ : Pu) = x := by simpa [hL] using hx
           exact ⟨hb.cell 3, hb.cell 4, hb.cell 5⟩
    | 2 => obtain rfl : (⟨3, 5, 36929⟩ : Pu) = x := by simpa [hL] using hx
           exact ⟨hb.cell 6, hb.cell 7, hb.cell 8⟩
    | 3 => obtain rfl : (⟨2, 1, 32903⟩ : Pu) = x := by simpa [hL] using hx
           exact ⟨hb.cell 9, hb.cell 10, hb.cell 11⟩
    | 4 => obtain rfl : (⟨2, 2, 36999⟩ : Pu) = x := by simpa [hL] using hx
           exact ⟨hb.cell 12, hb.cell 13, hb.cell 14⟩
    | j + 5 => simp [hL] at hx⟩⟩
theorem sla_head {w : World} {g : Nat} {t : TypeId} (hb : Blk w g t #[.int .i64 1, .int .i64 0, .int .i64 2, .int .i64 0, .int .i64 3, .int .i64 5]) : SlA w (some ⟨g, 0, none⟩) 3 [(1, 0), (2, 0), (3, 5)] :=
  ⟨rfl, fun _ => ⟨g, 0, rfl, hb.lt, fun j x hx => by
    match j with
    | 0 => obtain rfl : ((1, 0) : Int × Int) = x := by simpa using hx
           exact ⟨hb.cell 0, hb.cell 1⟩
    | 1 => obtain rfl : ((2, 0) : Int × Int) = x := by simpa using hx
           exact ⟨hb.cell 2, hb.cell 3⟩
    | 2 => obtain rfl : ((3, 5) : Int × Int) = x := by simpa using hx
           exact ⟨hb.cell 4, hb.cell 5⟩
    | j + 3 => simp at hx⟩⟩

set_option maxRecDepth 100000 in
set_option maxHeartbeats 8000000 in
theorem Wahead_any (w : World) (hE : ErrIn w) : Calls Tryz.prog 4 #[] w fun e w' => e = .returned (.bool true) ∧ Chg [] w w' := by
  go_enter Tryz.func4, Tryz.ntmps4
  go_wp2_with fail
  refine (Made_at _ 5 5 hL _ (slp_head (Blk.new w _ _))).mono ?_; rintro e w1 ⟨q, S, p, hh, b, rfl, hc1, g1, hb⟩
  have hca : Chg [] w w1 := ((Chg.refl [] w).alloc _).trans hc1 (by simp)
  have hbw : w.heap.size ≤ b := by simp at hb; omega
  rw [show madeW hL = hW from rfl] at g1
  clear hc1 hb
  go_wp2_with fail
  refine (Walk_is q S p L16 hh b 16 hW 1 5 0 false hP1 0 0 _ (hE.self hca) g1 hd_wd hd1).mono ?_; rintro e v1 ⟨A1, c1, rfl, r1, l1, k1⟩
  rw [show pathV A1 c1 hP1 = #[.slice A1 3 c1, .int .i64 9, .bool false, .bool false, .bool true, .bool false, .bool true] from rfl]
  have x1 : Chg [] w1 (v1.alloc (.cells #[.slice A1 3 c1, .int .i64 9, .bool false, .bool false, .bool true, .bool false, .bool true] 32)) := k1.alloc _
  have c1_ := hca.trans x1 (by simp)
  have g1_ := g1.self x1
  have b1_ := Blk.new v1 32 #[.slice A1 3 c1, .int .i64 9, .bool false, .bool false, .bool true, .bool false, .bool true]
  have s1_ : SlA (v1.alloc (.cells #[.slice A1 3 c1, .int .i64 9, .bool false, .bool false, .bool true, .bool false, .bool true] 32)) A1 3 [(1, 0), (2, 0), (3, 5)] := (OwnA.sla r1).self ((Chg.refl [] v1).alloc _)
  have n1_ : ∀ g o, A1 = some ⟨g, o, none⟩ → g ≠ b := fun g o e => by have := l1 g (by rw [e]; simp [Value.ownBlock]); have := g1.hm.ws.lt; omega
  clear hca g1 r1 l1 k1 x1
  generalize hp1 : v1.heap.size = pb at *
  go_wp2_with fail
  refine (Walk_is q S p L16 hh b 16 hW 1 5 1 true Pa.zero 1 7 _ (hE.self c1_) g1_ hd_wd hd2).mono ?_; rintro e v2 ⟨A2, c2, rfl, r2, l2, k2⟩
  rw [show pathV A2 c2 Pa.zero = #[.slice A2 0 c2, .int .i64 0, .bool false, .bool false, .bool false, .bool false, .bool false] from rfl]
  have x2 : Chg [] (v1.alloc (.cells #[.slice A1 3 c1, .int .i64 9, .bool false, .bool false, .bool true, .bool false, .bool true] 32)) (v2.alloc (.cells #[.slice A2 0 c2, .int .i64 0, .bool false, .bool false, .bool false, .bool false, .bool false] 32)) := k2.alloc _
  have c2_ := c1_.trans x2 (by simp)
  have g2_ := g1_.self x2
  have b1_ := b1_.chg_ x2 (by simp)
  have s1_ := s1_.self x2
  clear c1_ g1_ r2 l2 k2 x2
  go_wp2_with fail
  refine (Walk_is q S p L16 hh b 16 hW 1 11 2 true hP3 0 0 _ (hE.self c2_) g2_ hd_wd hd3).mono ?_; rintro e v3 ⟨A3, c3, rfl, r3, l3, k3⟩
  rw [show pathV A3 c3 hP3 = #[.slice A3 2 c3, .int .i64 11, .bool true, .bool true, .bool true, .bool true, .bool false] from rfl]
  have x3 : Chg [] (v2.alloc (.cells #[.slice A2 0 c2, .int .i64 0, .bool false, .bool false, .bool false, .bool false, .bool false] 32)) (v3.alloc (.cells #[.slice A3 2 c3, .int .i64 11, .bool true, .bool true, .bool true, .bool true, .bool false] 32)) := k3.alloc _
  have c3_ := c2_.trans x3 (by simp)
  have g3_ := g2_.self x3
  have b1_ := b1_.chg_ x3 (by simp)
  have s1_ := s1_.self x3
  have b3_ := Blk.new v3 32 #[.slice A3 2 c3, .int .i64 11, .bool true, .bool true, .bool true, .bool true, .bool false]
  clear c2_ g2_ r3 l3 k3 x3
  generalize hp3 : v3.heap.size = pq at *
  go_wp2_with fail
  refine (Walk_is q S p L16 hh b 16 hW 1 16 0 false Pa.zero 1 9 _ (hE.self c3_) g3_ hd_wd hd4).mono ?_; rintro e v4 ⟨A4, c4, rfl, r4, l4, k4⟩
  rw [show pathV A4 c4 Pa.zero = #[.slice A4 0 c4, .int .i64 0, .bool false, .bool false, .bool false, .bool false, .bool false] from rfl]
  have x4 : Chg [] (v3.alloc (.cells #[.slice A3 2 c3, .int .i64 11, .bool true, .bool true, .bool true, .bool true, .bool false] 32)) (v4.alloc (.cells #[.slice A4 0 c4, .int .i64 0, .bool false, .bool false, .bool false, .bool false, .bool false] 32)) := k4.alloc _
  have c4_ := c3_.trans x4 (by simp)
  have g4_ := g3_.self x4
  have b1_ := b1_.chg_ x4 (by simp)
  have s1_ := s1_.self x4
  have b3_ := b3_.chg_ x4 (by simp)
  clear c3_ g3_ r4 l4 k4 x4
  go_wp2_with fail
  refine (Walk_is q S p L16 hh b 16 hW 1 6 2 false Pa.zero 1 16 _ (hE.self c4_) g4_ hd_wd hd5).mono ?_; rintro e v5 ⟨A5, c5, rfl, r5, l5, k5⟩
  rw [show pathV A5 c5 Pa.zero = #[.slice A5 0 c5, .int .i64 0, .bool false, .bool false, .bool false, .bool false, .bool false] from rfl]
  have x5 : Chg [] (v4.alloc (.cells #[.slice A4 0 c4, .int .i64 0, .bool false, .bool false, .bool false, .bool false, .bool false] 32)) (v5.alloc (.cells #[.slice A5 0 c5, .int .i64 0, .bool false, .bool false, .bool false, .bool false, .bool false] 32)) := k5.alloc _
  have c5_ := c4_.trans x5 (by simp)
  have g5_ := g4_.self x5
  have b1_ := b1_.chg_ x5 (by simp)
  have s1_ := s1_.self x5
  have b3_ := b3_.chg_ x5 (by simp)
  clear c4_ g4_ r5 l5 k5 x5
  go_wp2_with fail
  refine (Walk_is q S p L16 hh b 16 hW 16 6 2 false Pa.zero 3 0 _ (hE.self c5_) g5_ hd_wd hd6).mono ?_; rintro e v6 ⟨A6, c6, rfl, r6, l6, k6⟩
  rw [show pathV A6 c6 Pa.zero = #[.slice A6 0 c6, .int .i64 0, .bool false, .bool false, .bool false, .bool false, .bool false] from rfl]
  have x6 : Chg [] (v5.alloc (.cells #[.slice A5 0 c5, .int .i64 0, .bool false, .bool false, .bool false, .bool false, .bool false] 32)) (v6.alloc (.cells #[.slice A6 0 c6, .int .i64 0, .bool false, .bool false, .bool false, .bool false, .bool false] 32)) := k6.alloc _
  have c6_ := c5_.trans x6 (by simp)
  have g6_ := g5_.self x6
  have b1_ := b1_.chg_ x6 (by simp)
  have s1_ := s1_.self x6
  have b3_ := b3_.chg_ x6 (by simp)
  clear c5_ g5_ r6 l6 k6 x6
  have HB : w.heap.size ≤ b := hbw
  obtain ⟨q0, q1, q2, q3, q4, q5, q6, _, _, _, _, _, _, _⟩ := blk7 b1_
  go_wp2_with fail
  refine (Marked_at q S p L16 hh b 16 hW A1 c1 hP1 _ g6_ hd_wd s1_ (by decide)).mono ?_; rintro e u1 ⟨rfl, y1⟩
  rw [show usedAts 16 hW L16 hP1.ats = false from hd_u]
  have b1_ := b1_.chg_ y1 (by simp); have b3_ := b3_.chg_ y1 (by simp); have s1_ := s1_.self y1; have g7 := g6_.self y1; have c7 := c6_.trans y1 (by simp)
  clear q0 q1 q2 q3 q4 q5 q6 g6_ c6_ y1
  obtain ⟨q0, q1, q2, q3, q4, q5, q6, _, _, _, _, _, _, _⟩ := blk7 b1_
  go_wp2_with fail
  refine (Mark_at q S p L16 hh b 16 hW A1 c1 hP1 true _ g7 hd_wd s1_ (by decide) n1_).mono ?_; rintro e u2 ⟨rfl, y2, g8⟩
  rw [show allAts 16 L16 hP1.ats = true from hd_a]
  rw [show markP 16 L16 hP1.ats true hW = hW2 from rfl] at g8
  have s1_ := s1_.chg y2 (fun g o e => by rw [List.mem_singleton]; exact n1_ g o e)
  have b1_ := b1_.chg_ y2 (by rw [List.mem_singleton]; exact fun e => Blk.type_ne b1_ (e ▸ g7.hm.ws) (by decide) rfl)
  have b3_ := b3_.chg_ y2 (by rw [List.mem_singleton]; exact fun e => Blk.type_ne b3_ (e ▸ g7.hm.ws) (by decide) rfl)
  have c8 : Chg [] w u2 := c7.trans y2 (by intro i hi hm; rw [List.mem_singleton] at hm; omega)
  clear q0 q1 q2 q3 q4 q5 q6 g7 c7 y2
  obtain ⟨q0, q1, q2, q3, q4, q5, q6, _, _, _, _, _, _, _⟩ := blk7 b1_
  go_wp2_with fail
  refine (gu_get q S p L16 hh b 16 hW2 3 5 36961 true _ g8 hd_g hd_h).mono ?_; rintro e w' ⟨rfl, rfl⟩
  have al := (Chg.refl [] u2).alloc (.cells #[.int .i64 1, .int .i64 0, .int .i64 2, .int .i64 0, .int .i64 3, .int .i64 5] 51)
  have hs2 := sla_head (Blk.new u2 51 #[.int .i64 1, .int .i64 0, .int .i64 2, .int .i64 0, .int .i64 3, .int .i64 5])
  have s2_ := s1_.self al
  have hSame := Same_eq A1 (some ⟨u2.heap.size, 0, none⟩) c1 3 hP1 _ s2_ hs2 (by decide)
  go_wp2_with fail
  refine hSame.mono ?_; rintro e u3 ⟨rfl, y3⟩
  have c9 := (c8.trans al (by simp)).trans y3 (by simp)
  have g9 := (g8.self al).self y3
  have s3_ := s2_.self y3
  have b1_ := (b1_.chg_ al (by simp)).chg_ y3 (by simp); have b3_ := (b3_.chg_ al (by simp)).chg_ y3 (by simp)
  clear hSame hs2 s2_ al y3 g8 c8 q0 q1 q2 q3 q4 q5 q6
  obtain ⟨q0, q1, q2, q3, q4, q5, q6, _, _, _, _, _, _, _⟩ := blk7 b1_
  obtain ⟨z0, z1, z2, z3, z4, z5, z6, _, _, _, _, _, _, _⟩ := blk7 b3_
  go_wp2_with fail
  refine (Marked_at q S p L16 hh b 16 hW2 A1 c1 hP1 _ g9 hd_wd2 s3_ (by decide)).mono ?_; rintro e u4 ⟨rfl, y4⟩
  rw [show usedAts 16 hW2 L16 hP1.ats = true from hd_u2]
  go_wp2_with fail
  go_ret
  exact ⟨rfl, c9.trans y4 (by simp)⟩

end Go.Proofs.YtdfmlodmaipnkaaGreatDoor
