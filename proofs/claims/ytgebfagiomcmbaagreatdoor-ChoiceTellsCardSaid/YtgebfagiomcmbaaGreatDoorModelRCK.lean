/-
  The contract of the document's Access.
-/
import Derived.Test.YtgebfagiomcmbaaGreatDoorG10rK
import Derived.Test.YtgebfagiomcmbaaGreatDoorG10cK
import Derived.Deep.Cut
import Derived.Deep.CutRange
namespace Go.Proofs.YtgebfagiomcmbaaGreatDoor
open Go.RowKit Go.Shelf Go.Maps

section
variable {w0 w : World} {F : List Nat} {m t q p h b n : Nat} {S : List Nat} {L : List Int} {s : Ms}

set_option maxRecDepth 100000 in
set_option maxHeartbeats 16000000 in
theorem racc_ali (k : Int) (u : Bool) (a : Nat) (v : Int) (ha : a < 18446744073709551616) (_hv : 0 ≤ v ∧ v < 18446744073709551616) (H : RModB w0 F w m t q S p L h b n s) (hn : aliB a = false) :
    Calls Tryz.prog 15 #[.pointer (some ⟨m, 0, none⟩), .int .i64 k, .bool u, .int .u64 a, .int .u64 v] w fun e w' => e = .returned (.agg #[.int .i64 4, .int .u64 0, .int .i64 0, .int .u64 a]) ∧ RModB w0 F w' m t q S p L h b n s ∧ Far F w w' := by
  have hc1 : Chg [] w (w.alloc (.cells #[.int .i64 0, .int .u64 0, .int .i64 0, .int .u64 0] 39)) := (Chg.refl [] w).alloc _
  have o1 := Blk.new w 39 #[.int .i64 0, .int .u64 0, .int .i64 0, .int .u64 0]
  have H1 := H.more (G := [w.heap.size]) hc1 (by intro i hi; simp at hi; subst hi; simp)
  have hs0 := H.c0.size
  have nF : Hid (∀ j, w.heap.size + j ∉ F) := Lib.hid (fun j hm => by have := H.tb.2.1 _ (List.mem_append.2 (.inr hm)); omega)
  have hAl := fun w9 => (RAligned_any a w9 ha).mono fun e w' (h : _ ∧ _) => (⟨h.1, by first | exact h.2.chg | exact h.2 ▸ Chg.refl [] w9⟩ : _ ∧ Chg [] w9 w')
  have hCa := fun w9 => (RCanon_any a w9 ha).mono fun e w' (h : _ ∧ _) => (⟨h.1, by first | exact h.2.chg | exact h.2 ▸ Chg.refl [] w9⟩ : _ ∧ Chg [] w9 w')
  have hPg := fun w9 => (RPage_any a w9 ha).mono fun e w' (h : _ ∧ _) => (⟨h.1, by first | exact h.2.chg | exact h.2 ▸ Chg.refl [] w9⟩ : _ ∧ Chg [] w9 w')
  have hWd := fun w9 => (RWord_any a w9 ha).mono fun e w' (h : _ ∧ _) => (⟨h.1, by first | exact h.2.chg | exact h.2 ▸ Chg.refl [] w9⟩ : _ ∧ Chg [] w9 w')
  rw [hn] at hAl
  go_enter Tryz.func15, Tryz.ntmps15
  go_wp2_with fail
  refine (hAl _).mono ?_; rintro e w2 ⟨rfl, y2⟩
  have o2 := o1.chg_ y2 (by simp)
  have H2 := H1.new y2
  obtain ⟨r0, r1, r2, r3, z0, z1, z2, z3⟩ := blk4 o2
  go_wp2_with fail
  refine bodyPost_ret (cell_ret rfl (set4 o2) rfl Tryz.underlying39 rfl (by kernel_rfl)) rfl ?_
  have hk := chg4 (y0 := .int .i64 4) (y1 := .int .u64 0) (y2 := .int .i64 0) (y3 := .int .u64 a) (g := w.heap.size) (Chg.refl [w.heap.size] w2) (by simp)
  have hrl := (H2.turn (by simp) hk hs0).less (G := F) (fun i hi => by simp only [List.mem_append]; first | exact .inr hi | exact .inr (.inr hi) | exact .inr (.inr (.inr hi)))
  exact ⟨rfl, hrl, (Far.of_new (hc1.trans y2 (by simp))).trans ⟨_, hk, by simpa using nF.out 0⟩⟩

set_option maxRecDepth 100000 in
set_option maxHeartbeats 16000000 in
theorem racc_can (k : Int) (u : Bool) (a : Nat) (v : Int) (ha : a < 18446744073709551616) (_hv : 0 ≤ v ∧ v < 18446744073709551616) (H : RModB w0 F w m t q S p L h b n s) (h1 : aliB a = true) (hn : canB a = false) :
    Calls Tryz.prog 15 #[.pointer (some ⟨m, 0, none⟩), .int .i64 k, .bool u, .int .u64 a, .int .u64 v] w fun e w' => e = .returned (.agg #[.int .i64 2, .int .u64 0, .int .i64 0, .int .u64 a]) ∧ RModB w0 F w' m t q S p L h b n s ∧ Far F w w' := by
  have hc1 : Chg [] w (w.alloc (.cells #[.int .i64 0, .int .u64 0, .int .i64 0, .int .u64 0] 39)) := (Chg.refl [] w).alloc _
  have o1 := Blk.new w 39 #[.int .i64 0, .int .u64 0, .int .i64 0, .int .u64 0]
  have H1 := H.more (G := [w.heap.size]) hc1 (by intro i hi; simp at hi; subst hi; simp)
  have hs0 := H.c0.size
  have nF : Hid (∀ j, w.heap.size + j ∉ F) := Lib.hid (fun j hm => by have := H.tb.2.1 _ (List.mem_append.2 (.inr hm)); omega)
  have hAl := fun w9 => (RAligned_any a w9 ha).mono fun e w' (h : _ ∧ _) => (⟨h.1, by first | exact h.2.chg | exact h.2 ▸ Chg.refl [] w9⟩ : _ ∧ Chg [] w9 w')
  have hCa := fun w9 => (RCanon_any a w9 ha).mono fun e w' (h : _ ∧ _) => (⟨h.1, by first | exact h.2.chg | exact h.2 ▸ Chg.refl [] w9⟩ : _ ∧ Chg [] w9 w')
  have hPg := fun w9 => (RPage_any a w9 ha).mono fun e w' (h : _ ∧ _) => (⟨h.1, by first | exact h.2.chg | exact h.2 ▸ Chg.refl [] w9⟩ : _ ∧ Chg [] w9 w')
  have hWd := fun w9 => (RWord_any a w9 ha).mono fun e w' (h : _ ∧ _) => (⟨h.1, by first | exact h.2.chg | exact h.2 ▸ Chg.refl [] w9⟩ : _ ∧ Chg [] w9 w')
  rw [h1] at hAl
  rw [hn] at hCa
  go_enter Tryz.func15, Tryz.ntmps15
  go_wp2_with fail
  refine (hAl _).mono ?_; rintro e w2 ⟨rfl, y2⟩
  have o2 := o1.chg_ y2 (by simp)
  have H2 := H1.new y2
  go_wp2_with fail
  refine (hCa _).mono ?_; rintro e w3 ⟨rfl, y3⟩
  have o3 := o2.chg_ y3 (by simp)
  have H3 := H2.new y3
  obtain ⟨r0, r1, r2, r3, z0, z1, z2, z3⟩ := blk4 o3
  go_wp2_with fail
  refine bodyPost_ret (cell_ret rfl (set4 o3) rfl Tryz.underlying39 rfl (by kernel_rfl)) rfl ?_
  have hk := chg4 (y0 := .int .i64 2) (y1 := .int .u64 0) (y2 := .int .i64 0) (y3 := .int .u64 a) (g := w.heap.size) (Chg.refl [w.heap.size] w3) (by simp)
  have hrl := (H3.turn (by simp) hk hs0).less (G := F) (fun i hi => by simp only [List.mem_append]; first | exact .inr hi | exact .inr (.inr hi) | exact .inr (.inr (.inr hi)))
  exact ⟨rfl, hrl, (Far.of_new ((hc1.trans y2 (by simp)).trans y3 (by simp))).trans ⟨_, hk, by simpa using nF.out 0⟩⟩

set_option maxRecDepth 100000 in
set_option maxHeartbeats 16000000 in
theorem racc_serve_st (k : Int) (u : Bool) (a : Nat) (v : Int) (ha : a < 18446744073709551616) (hv : 0 ≤ v ∧ v < 18446744073709551616) (H : RModB w0 F w m t q S p L h b n s) (h1 : aliB a = true) (h2 : canB a = true) (hu : hasT s.T 0 (pageN a : Int) = true) (hs : servesB (getT s.T 0 (pageN a : Int)) k u = true) (hk : k = 1) :
    Calls Tryz.prog 15 #[.pointer (some ⟨m, 0, none⟩), .int .i64 k, .bool u, .int .u64 a, .int .u64 v] w fun e w' => e = .returned (.agg #[.int .i64 0, .int .u64 0, .int .i64 0, .int .u64 0]) ∧ RModB w0 F w' m t q S p L h b n ⟨setG n s.W L (getT s.T 0 (pageN a)).f (wordN a) v, s.r, s.T⟩ ∧ Far F w w' := by
  have hc1 : Chg [] w (w.alloc (.cells #[.int .i64 0, .int .u64 0, .int .i64 0, .int .u64 0] 39)) := (Chg.refl [] w).alloc _
  have o1 := Blk.new w 39 #[.int .i64 0, .int .u64 0, .int .i64 0, .int .u64 0]
  have H1 := H.more (G := [w.heap.size]) hc1 (by intro i hi; simp at hi; subst hi; simp)
  have hs0 := H.c0.size
  have nF : Hid (∀ j, w.heap.size + j ∉ F) := Lib.hid (fun j hm => by have := H.tb.2.1 _ (List.mem_append.2 (.inr hm)); omega)
  have hAl := fun w9 => (RAligned_any a w9 ha).mono fun e w' (h : _ ∧ _) => (⟨h.1, by first | exact h.2.chg | exact h.2 ▸ Chg.refl [] w9⟩ : _ ∧ Chg [] w9 w')
  have hCa := fun w9 => (RCanon_any a w9 ha).mono fun e w' (h : _ ∧ _) => (⟨h.1, by first | exact h.2.chg | exact h.2 ▸ Chg.refl [] w9⟩ : _ ∧ Chg [] w9 w')
  have hPg := fun w9 => (RPage_any a w9 ha).mono fun e w' (h : _ ∧ _) => (⟨h.1, by first | exact h.2.chg | exact h.2 ▸ Chg.refl [] w9⟩ : _ ∧ Chg [] w9 w')
  have hWd := fun w9 => (RWord_any a w9 ha).mono fun e w' (h : _ ∧ _) => (⟨h.1, by first | exact h.2.chg | exact h.2 ▸ Chg.refl [] w9⟩ : _ ∧ Chg [] w9 w')
  rw [h1] at hAl
  rw [h2] at hCa
  have hKn := fun F w9 (H9 : RModB w0 F w9 m t q S p L h b n s) => RMKnown_b (pageN a : Int) H9
  generalize hX : getT s.T 0 (pageN a : Int) = X at *
  generalize hU : hasT s.T 0 (pageN a : Int) = U at *
  clear hX hU
  obtain ⟨xa, xp, xf, xw, xu, xx, xd⟩ := X
  simp only [Ht.v, Ht.rg, servesB] at *
  obtain ⟨sW, sr, sT⟩ := s
  simp only at *
  have hM := fun w9 => RMay_any ⟨xw, xu, xx⟩ k u w9
  generalize mayB ⟨xw, xu, xx⟩ k u = my at *
  simp only [Rg.cs] at hM
  subst hk
  obtain ⟨rfl, rfl⟩ : my = true ∧ xd = true := by simpa using hs
  subst hu
  clear hs
  go_enter Tryz.func15, Tryz.ntmps15
  go_wp2_with fail
  refine (hAl _).mono ?_; rintro e w2 ⟨rfl, y2⟩
  have o2 := o1.chg_ y2 (by simp)
  have H2 := H1.new y2
  go_wp2_with fail
  refine (hCa _).mono ?_; rintro e w3 ⟨rfl, y3⟩
  have o3 := o2.chg_ y3 (by simp)
  have H3 := H2.new y3
  go_wp2_with fail
  refine (hPg _).mono ?_; rintro e w4 ⟨rfl, y4⟩
  have o4 := o3.chg_ y4 (by simp)
  have H4 := H3.new y4
  have k4 := ((hc1.trans y2 (by simp)).trans y3 (by simp)).trans y4 (by simp)
  clear o1 o2 o3 H1 H2 H3 y2 y3 y4 hAl hCa hPg hc1
  go_wp2_with fail
  refine (hKn _ _ H4).mono ?_; rintro e w5 ⟨rfl, y5⟩
  have al := (Chg.refl [] w5).alloc (.cells #[.int .i64 xa, .int .i64 xp, .int .i64 xf, .bool xw, .bool xu, .bool xx, .bool true] 62)
  have y6 := y5.trans al (by simp)
  have H6 := H4.more (G := [w5.heap.size]) y6 (by intro i hi; simp at hi; subst hi; exact ⟨y5.size, by simp⟩)
  have o6 := o4.chg_ y6 (by simp)
  have b6 := Blk.new w5 62 #[.int .i64 xa, .int .i64 xp, .int .i64 xf, .bool xw, .bool xu, .bool xx, .bool true]
  have k6 := k4.trans y6 (by simp)
  have hgx : w0.heap.size ≤ w5.heap.size ∧ w.heap.size ≠ w5.heap.size := ⟨Nat.le_trans hs0 (Nat.le_trans k4.size y5.size), by have := o4.lt; have := y5.size; omega⟩
  have hgF : w5.heap.size ∉ F := fun hm => by have h1 := H4.tb.2.1 _ (List.mem_append.2 (.inr (List.mem_append.2 (.inr hm)))); have h2 := y5.size; omega
  clear H4 o4 k4 y5 al y6 hKn
  obtain ⟨x0_, x1_, x2_, x3_, x4_, x5_, x6_, _, _, _, _, _, _, _⟩ := blk7 b6
  go_wp2_with fail
  generalize w5.alloc (.cells #[.int .i64 xa, .int .i64 xp, .int .i64 xf, .bool xw, .bool xu, .bool xx, .bool true] 62) = w6 at *
  generalize w5.heap.size = gx at *
  refine (hM _).mono ?_; rintro e w7 ⟨rfl, y7⟩
  have H7 := H6.new y7; have o7 := o6.chg_ y7 (by simp); have b7 := b6.chg_ y7 (by simp); have k7 := k6.trans y7 (by simp)
  clear hM x0_ x1_ x2_ x3_ x4_ x5_ x6_
  obtain ⟨x0_, x1_, x2_, x3_, x4_, x5_, x6_, _, _, _, _, _, _, _⟩ := blk7 b7
  have hW2 := hWd
  go_wp2_with fail
  refine (hW2 _).mono ?_; rintro e t1 ⟨rfl, y1⟩
  have Ht1 := H7.new y1; have ot1 := o7.chg_ y1 (by simp); have bt1 := b7.chg_ y1 (by simp)
  go_wp2_with fail
  refine wp_region_noPanic ?_
  refine wp_region_held_drew (S := (fun w' => Blk w' m 95 #[.pointer (some ⟨q, 0, none⟩), .int .i64 sr, .pointer (some ⟨t, 0, none⟩)] ∧ Blk w' gx 62 #[.int .i64 xa, .int .i64 xp, .int .i64 xf, .bool xw, .bool xu, .bool xx, .bool true])) (by kernel_rfl) ?_ (fun hHeld => ?_)
  · exact ⟨Ht1.st.drew, bt1.drew⟩
  (refine tk 0 (some 112) (v := ?_) rfl ?_ ?_; rotate_left; · (intro w hSw; (try dsimp only at hSw); obtain ⟨hSm, hSp⟩ := hSw; obtain ⟨c0_, c1_, c2_⟩ := blk3 hSm; obtain ⟨q0_, q1_, q2_, q3_, q4_, q5_, q6_, _, _, _, _, _, _, _⟩ := blk7 hSp; go_simp; (try with_reducible rfl)))
  (try simp only [Act.put, tA, tZ, tS])
  (refine tk 1 (some 113) (v := ?_) rfl ?_ ?_; rotate_left; · (intro w hSw; (try dsimp only at hSw); obtain ⟨hSm, hSp⟩ := hSw; obtain ⟨c0_, c1_, c2_⟩ := blk3 hSm; obtain ⟨q0_, q1_, q2_, q3_, q4_, q5_, q6_, _, _, _, _, _, _, _⟩ := blk7 hSp; go_simp; (try with_reducible rfl)))
  (try simp only [Act.put, tA, tZ, tS])
  (refine tk 2 (some 114) (v := ?_) rfl ?_ ?_; rotate_left; · (intro w hSw; (try dsimp only at hSw); obtain ⟨hSm, hSp⟩ := hSw; obtain ⟨c0_, c1_, c2_⟩ := blk3 hSm; obtain ⟨q0_, q1_, q2_, q3_, q4_, q5_, q6_, _, _, _, _, _, _, _⟩ := blk7 hSp; go_simp; (try with_reducible rfl)))
  (try simp only [Act.put, tA, tZ, tS])
  (refine tk 3 (some 115) (v := ?_) rfl ?_ ?_; rotate_left; · (intro w hSw; (try dsimp only at hSw); obtain ⟨hSm, hSp⟩ := hSw; obtain ⟨c0_, c1_, c2_⟩ := blk3 hSm; obtain ⟨q0_, q1_, q2_, q3_, q4_, q5_, q6_, _, _, _, _, _, _, _⟩ := blk7 hSp; go_simp; (try with_reducible rfl)))
  (try simp only [Act.put, tA, tZ, tS])
  (refine tk 4 (some 116) (v := ?_) rfl ?_ ?_; rotate_left; · (intro w hSw; (try dsimp only at hSw); obtain ⟨hSm, hSp⟩ := hSw; obtain ⟨c0_, c1_, c2_⟩ := blk3 hSm; obtain ⟨q0_, q1_, q2_, q3_, q4_, q5_, q6_, _, _, _, _, _, _, _⟩ := blk7 hSp; go_simp; (try with_reducible rfl)))
  (try simp only [Act.put, tA, tZ, tS])
  (refine tk 5 (some 117) (v := ?_) rfl ?_ ?_; rotate_left; · (intro w hSw; (try dsimp only at hSw); obtain ⟨hSm, hSp⟩ := hSw; obtain ⟨c0_, c1_, c2_⟩ := blk3 hSm; obtain ⟨q0_, q1_, q2_, q3_, q4_, q5_, q6_, _, _, _, _, _, _, _⟩ := blk7 hSp; go_simp; (try with_reducible rfl)))
  (try simp only [Act.put, tA, tZ, tS])
  (refine tk 6 (some 118) (v := ?_) rfl ?_ ?_; rotate_left; · (intro w hSw; (try dsimp only at hSw); obtain ⟨hSm, hSp⟩ := hSw; obtain ⟨c0_, c1_, c2_⟩ := blk3 hSm; obtain ⟨q0_, q1_, q2_, q3_, q4_, q5_, q6_, _, _, _, _, _, _, _⟩ := blk7 hSp; go_simp; (try with_reducible rfl)))
  (try simp only [Act.put, tA, tZ, tS])
  (refine tk 7 (some 119) (v := ?_) rfl ?_ ?_; rotate_left; · (intro w hSw; (try dsimp only at hSw); obtain ⟨hSm, hSp⟩ := hSw; obtain ⟨c0_, c1_, c2_⟩ := blk3 hSm; obtain ⟨q0_, q1_, q2_, q3_, q4_, q5_, q6_, _, _, _, _, _, _, _⟩ := blk7 hSp; go_simp; (try with_reducible rfl)))
  (try simp only [Act.put, tA, tZ, tS])
  refine wpAnyH_ready (rs := [8]) (by kernel_rfl) (by simp) ?_; refine AllReadyH.cons (o := _) rfl (fun K hK => ?_) AllReadyH.nil
  go_simp
  (go_at_call 40; refine (RGuSet_at q S p L h b n _ xf (wordN a) v _ (Ht1.new ((Chg.refl [] t1).drew)).gu).mono ?_; rintro e t2 ⟨rfl, y2, g2⟩; have o2 := ((Ht1.new ((Chg.refl [] t1).drew)).setW y2 g2 (Ht1.ok.set _ _ hv)))
  refine hK.out _ _ (by (try dsimp only); exact ⟨o2.1.st, o2.2.blk hHeld.2 (by simp)⟩) (fun hHeld => ?_)
  clear hK K
  (try simp only [Act.put, tA, tZ, tS])
  refine wpAnyH_done (by kernel_rfl) ?_ _
  refine NoPanic.normal ?_
  have ft := (Far.of_new ((Chg.refl [] t1).drew)).trans o2.2
  have Ht2 := o2.1
  have ot2 := ft.blk ot1 (by simp)
  obtain ⟨r0, r1, r2, r3, z0, z1, z2, z3⟩ := blk4 ot2
  go_wp2_with fail
  refine bodyPost_ret (cell_ret rfl (set4 ot2) rfl Tryz.underlying39 rfl (by kernel_rfl)) rfl ?_
  have hk := chg4 (y0 := .int .i64 0) (y1 := .int .u64 0) (y2 := .int .i64 0) (y3 := .int .u64 0) (g := w.heap.size) (Chg.refl [w.heap.size] t2) (by simp)
  have hrl := (Ht2.turn (by simp) hk hs0).less (G := F) (fun i hi => by simp only [List.mem_append]; first | exact .inr hi | exact .inr (.inr hi) | exact .inr (.inr (.inr hi)))
  exact ⟨rfl, hrl, ((Far.of_new k7).trans ((Far.of_new y1).trans (ft.less (G := F) (fun i hi => by simp [hi])))).trans ⟨_, hk, by simpa using nF.out 0⟩⟩

set_option maxRecDepth 100000 in
set_option maxHeartbeats 16000000 in
theorem racc_serve_ld (k : Int) (u : Bool) (a : Nat) (v : Int) (ha : a < 18446744073709551616) (_hv : 0 ≤ v ∧ v < 18446744073709551616) (H : RModB w0 F w m t q S p L h b n s) (h1 : aliB a = true) (h2 : canB a = true) (hu : hasT s.T 0 (pageN a : Int) = true) (hs : servesB (getT s.T 0 (pageN a : Int)) k u = true) (hk : ¬ k = 1) :
    Calls Tryz.prog 15 #[.pointer (some ⟨m, 0, none⟩), .int .i64 k, .bool u, .int .u64 a, .int .u64 v] w fun e w' => e = .returned (.agg #[.int .i64 0, .int .u64 (getG n s.W L (getT s.T 0 (pageN a)).f (wordN a)), .int .i64 0, .int .u64 0]) ∧ RModB w0 F w' m t q S p L h b n s ∧ Far F w w' := by
  have hc1 : Chg [] w (w.alloc (.cells #[.int .i64 0, .int .u64 0, .int .i64 0, .int .u64 0] 39)) := (Chg.refl [] w).alloc _
  have o1 := Blk.new w 39 #[.int .i64 0, .int .u64 0, .int .i64 0, .int .u64 0]
  have H1 := H.more (G := [w.heap.size]) hc1 (by intro i hi; simp at hi; subst hi; simp)
  have hs0 := H.c0.size
  have nF : Hid (∀ j, w.heap.size + j ∉ F) := Lib.hid (fun j hm => by have := H.tb.2.1 _ (List.mem_append.2 (.inr hm)); omega)
  have hAl := fun w9 => (RAligned_any a w9 ha).mono fun e w' (h : _ ∧ _) => (⟨h.1, by first | exact h.2.chg | exact h.2 ▸ Chg.refl [] w9⟩ : _ ∧ Chg [] w9 w')
  have hCa := fun w9 => (RCanon_any a w9 ha).mono fun e w' (h : _ ∧ _) => (⟨h.1, by first | exact h.2.chg | exact h.2 ▸ Chg.refl [] w9⟩ : _ ∧ Chg [] w9 w')
  have hPg := fun w9 => (RPage_any a w9 ha).mono fun e w' (h : _ ∧ _) => (⟨h.1, by first | exact h.2.chg | exact h.2 ▸ Chg.refl [] w9⟩ : _ ∧ Chg [] w9 w')
  have hWd := fun w9 => (RWord_any a w9 ha).mono fun e w' (h : _ ∧ _) => (⟨h.1, by first | exact h.2.chg | exact h.2 ▸ Chg.refl [] w9⟩ : _ ∧ Chg [] w9 w')
  rw [h1] at hAl
  rw [h2] at hCa
  have hKn := fun F w9 (H9 : RModB w0 F w9 m t q S p L h b n s) => RMKnown_b (pageN a : Int) H9
  generalize hX : getT s.T 0 (pageN a : Int) = X at *
  generalize hU : hasT s.T 0 (pageN a : Int) = U at *
  clear hX hU
  obtain ⟨xa, xp, xf, xw, xu, xx, xd⟩ := X
  simp only [Ht.v, Ht.rg, servesB] at *
  obtain ⟨sW, sr, sT⟩ := s
  simp only at *
  have hM := fun w9 => RMay_any ⟨xw, xu, xx⟩ k u w9
  generalize mayB ⟨xw, xu, xx⟩ k u = my at *
  simp only [Rg.cs] at hM
  have hkb : (k == 1) = false := by simpa using hk
  obtain rfl : my = true := by rw [hkb] at hs; simpa using hs
  subst hu
  clear hs
  go_enter Tryz.func15, Tryz.ntmps15
  go_wp2_with fail
  refine (hAl _).mono ?_; rintro e w2 ⟨rfl, y2⟩
  have o2 := o1.chg_ y2 (by simp)
  have H2 := H1.new y2
  go_wp2_with fail
  refine (hCa _).mono ?_; rintro e w3 ⟨rfl, y3⟩
  have o3 := o2.chg_ y3 (by simp)
  have H3 := H2.new y3
  go_wp2_with fail
  refine (hPg _).mono ?_; rintro e w4 ⟨rfl, y4⟩
  have o4 := o3.chg_ y4 (by simp)
  have H4 := H3.new y4
  have k4 := ((hc1.trans y2 (by simp)).trans y3 (by simp)).trans y4 (by simp)
  clear o1 o2 o3 H1 H2 H3 y2 y3 y4 hAl hCa hPg hc1
  go_wp2_with fail
  refine (hKn _ _ H4).mono ?_; rintro e w5 ⟨rfl, y5⟩
  have al := (Chg.refl [] w5).alloc (.cells #[.int .i64 xa, .int .i64 xp, .int .i64 xf, .bool xw, .bool xu, .bool xx, .bool xd] 62)
  have y6 := y5.trans al (by simp)
  have H6 := H4.more (G := [w5.heap.size]) y6 (by intro i hi; simp at hi; subst hi; exact ⟨y5.size, by simp⟩)
  have o6 := o4.chg_ y6 (by simp)
  have b6 := Blk.new w5 62 #[.int .i64 xa, .int .i64 xp, .int .i64 xf, .bool xw, .bool xu, .bool xx, .bool xd]
  have k6 := k4.trans y6 (by simp)
  have hgx : w0.heap.size ≤ w5.heap.size ∧ w.heap.size ≠ w5.heap.size := ⟨Nat.le_trans hs0 (Nat.le_trans k4.size y5.size), by have := o4.lt; have := y5.size; omega⟩
  have hgF : w5.heap.size ∉ F := fun hm => by have h1 := H4.tb.2.1 _ (List.mem_append.2 (.inr (List.mem_append.2 (.inr hm)))); have h2 := y5.size; omega
  clear H4 o4 k4 y5 al y6 hKn
  obtain ⟨x0_, x1_, x2_, x3_, x4_, x5_, x6_, _, _, _, _, _, _, _⟩ := blk7 b6
  go_wp2_with fail
  generalize w5.alloc (.cells #[.int .i64 xa, .int .i64 xp, .int .i64 xf, .bool xw, .bool xu, .bool xx, .bool xd] 62) = w6 at *
  generalize w5.heap.size = gx at *
  refine (hM _).mono ?_; rintro e w7 ⟨rfl, y7⟩
  have H7 := H6.new y7; have o7 := o6.chg_ y7 (by simp); have b7 := b6.chg_ y7 (by simp); have k7 := k6.trans y7 (by simp)
  clear hM x0_ x1_ x2_ x3_ x4_ x5_ x6_
  obtain ⟨x0_, x1_, x2_, x3_, x4_, x5_, x6_, _, _, _, _, _, _, _⟩ := blk7 b7
  have hW2 := hWd
  go_wp2_with fail
  refine (hW2 _).mono ?_; rintro e t1 ⟨rfl, y1⟩
  have Ht1 := H7.new y1; have ot1 := o7.chg_ y1 (by simp); have bt1 := b7.chg_ y1 (by simp)
  go_wp2_with fail
  refine wp_region_noPanic ?_
  refine wp_region_held_drew (S := (fun w' => Blk w' m 95 #[.pointer (some ⟨q, 0, none⟩), .int .i64 sr, .pointer (some ⟨t, 0, none⟩)] ∧ Blk w' gx 62 #[.int .i64 xa, .int .i64 xp, .int .i64 xf, .bool xw, .bool xu, .bool xx, .bool xd])) (by kernel_rfl) ?_ (fun hHeld => ?_)
  · exact ⟨Ht1.st.drew, bt1.drew⟩
  (refine tk 0 (some 123) (v := ?_) rfl ?_ ?_; rotate_left; · (intro w hSw; (try dsimp only at hSw); obtain ⟨hSm, hSp⟩ := hSw; obtain ⟨c0_, c1_, c2_⟩ := blk3 hSm; obtain ⟨q0_, q1_, q2_, q3_, q4_, q5_, q6_, _, _, _, _, _, _, _⟩ := blk7 hSp; go_simp; (try with_reducible rfl)))
  (try simp only [Act.put, tA, tZ, tS])
  (refine tk 1 (some 124) (v := ?_) rfl ?_ ?_; rotate_left; · (intro w hSw; (try dsimp only at hSw); obtain ⟨hSm, hSp⟩ := hSw; obtain ⟨c0_, c1_, c2_⟩ := blk3 hSm; obtain ⟨q0_, q1_, q2_, q3_, q4_, q5_, q6_, _, _, _, _, _, _, _⟩ := blk7 hSp; go_simp; (try with_reducible rfl)))
  (try simp only [Act.put, tA, tZ, tS])
  (refine tk 2 (some 125) (v := ?_) rfl ?_ ?_; rotate_left; · (intro w hSw; (try dsimp only at hSw); obtain ⟨hSm, hSp⟩ := hSw; obtain ⟨c0_, c1_, c2_⟩ := blk3 hSm; obtain ⟨q0_, q1_, q2_, q3_, q4_, q5_, q6_, _, _, _, _, _, _, _⟩ := blk7 hSp; go_simp; (try with_reducible rfl)))
  (try simp only [Act.put, tA, tZ, tS])
  (refine tk 3 (some 126) (v := ?_) rfl ?_ ?_; rotate_left; · (intro w hSw; (try dsimp only at hSw); obtain ⟨hSm, hSp⟩ := hSw; obtain ⟨c0_, c1_, c2_⟩ := blk3 hSm; obtain ⟨q0_, q1_, q2_, q3_, q4_, q5_, q6_, _, _, _, _, _, _, _⟩ := blk7 hSp; go_simp; (try with_reducible rfl)))
  (try simp only [Act.put, tA, tZ, tS])
  (refine tk 4 (some 127) (v := ?_) rfl ?_ ?_; rotate_left; · (intro w hSw; (try dsimp only at hSw); obtain ⟨hSm, hSp⟩ := hSw; obtain ⟨c0_, c1_, c2_⟩ := blk3 hSm; obtain ⟨q0_, q1_, q2_, q3_, q4_, q5_, q6_, _, _, _, _, _, _, _⟩ := blk7 hSp; go_simp; (try with_reducible rfl)))
  (try simp only [Act.put, tA, tZ, tS])
  (refine tk 5 (some 128) (v := ?_) rfl ?_ ?_; rotate_left; · (intro w hSw; (try dsimp only at hSw); obtain ⟨hSm, hSp⟩ := hSw; obtain ⟨c0_, c1_, c2_⟩ := blk3 hSm; obtain ⟨q0_, q1_, q2_, q3_, q4_, q5_, q6_, _, _, _, _, _, _, _⟩ := blk7 hSp; go_simp; (try with_reducible rfl)))
  (try simp only [Act.put, tA, tZ, tS])
  (refine tk 6 (some 129) (v := ?_) rfl ?_ ?_; rotate_left; · (intro w hSw; (try dsimp only at hSw); obtain ⟨hSm, hSp⟩ := hSw; obtain ⟨c0_, c1_, c2_⟩ := blk3 hSm; obtain ⟨q0_, q1_, q2_, q3_, q4_, q5_, q6_, _, _, _, _, _, _, _⟩ := blk7 hSp; go_simp; (try with_reducible rfl)))
  (try simp only [Act.put, tA, tZ, tS])
  refine wpAnyH_ready (rs := [7]) (by kernel_rfl) (by simp) ?_; refine AllReadyH.cons (o := _) rfl (fun K hK => ?_) AllReadyH.nil
  go_simp
  (go_at_call 63; refine (RGuGet_at q S p L h b n _ xf (wordN a) _ (Ht1.new ((Chg.refl [] t1).drew)).gu).mono ?_; rintro e t2 ⟨rfl, rfl⟩)
  refine hK.out _ _ (by (try dsimp only); exact hHeld) (fun hHeld => ?_)
  clear hK K
  (try simp only)
  (refine tk 8 (some 122) (v := ?_) rfl ?_ ?_; rotate_left; · (intro w hSw; (try dsimp only at hSw); go_simp; (try with_reducible rfl)))
  (try simp only [Act.put, tA, tZ, tS])
  (refine tk 9 (some 131) (v := ?_) rfl ?_ ?_; rotate_left; · (intro w hSw; (try dsimp only at hSw); go_simp; (try with_reducible rfl)))
  (try simp only [Act.put, tA, tZ, tS])
  (refine tk 10 (some 132) (v := ?_) rfl ?_ ?_; rotate_left; · (intro w hSw; (try dsimp only at hSw); go_simp; (try with_reducible rfl)))
  (try simp only [Act.put, tA, tZ, tS])
  (refine tk 11 (some 18) (v := ?_) rfl ?_ ?_; rotate_left; · (intro w hSw; (try dsimp only at hSw); go_simp; (try with_reducible rfl)))
  (try simp only [Act.put, tA, tZ, tS])
  (refine tk 12 (some 19) (v := ?_) rfl ?_ ?_; rotate_left; · (intro w hSw; (try dsimp only at hSw); go_simp; (try with_reducible rfl)))
  (try simp only [Act.put, tA, tZ, tS])
  refine wpAnyH_done (by kernel_rfl) ?_ _
  refine NoPanic.normal ?_
  have Ht2 := Ht1.new ((Chg.refl [] t1).drew)
  have ot2 := ot1.drew
  obtain ⟨ra0, ra1, ra2, ra3, za0, za1, za2, za3⟩ := blk4 ot1
  obtain ⟨r0, r1, r2, r3, z0, z1, z2, z3⟩ := blk4 ot2
  go_wp2_with fail
  refine bodyPost_ret (cell_ret rfl (set4 ot2) rfl Tryz.underlying39 rfl (by kernel_rfl)) rfl ?_
  have hk := chg4 (y0 := .int .i64 0) (y1 := .int .u64 (getG n sW L xf (wordN a))) (y2 := .int .i64 0) (y3 := .int .u64 0) (g := w.heap.size) (Chg.refl [w.heap.size] t1.drew) (by simp)
  have hrl := (Ht2.turn (by simp) hk hs0).less (G := F) (fun i hi => by simp only [List.mem_append]; first | exact .inr hi | exact .inr (.inr hi) | exact .inr (.inr (.inr hi)))
  exact ⟨rfl, hrl, ((Far.of_new k7).trans (Far.of_new (y1.trans ((Chg.refl [] t1).drew) (by simp)))).trans ⟨_, hk, by simpa using nF.out 0⟩⟩

set_option maxRecDepth 100000 in
set_option maxHeartbeats 16000000 in
theorem racc_stop (k : Int) (u : Bool) (a : Nat) (v : Int) (ha : a < 18446744073709551616) (_hv : 0 ≤ v ∧ v < 18446744073709551616) (H : RModB w0 F w m t q S p L h b n s) (how code : Int) (h1 : aliB a = true) (h2 : canB a = true) (hns : (hasT s.T 0 (pageN a : Int) && servesB (getT s.T 0 (pageN a : Int)) k u) = false) (hr : walkP n s.W L s.r (pageN a : Int) k u = (Pa.zero, how, code)) (hne0 : (how == 0) = false) :
    Calls Tryz.prog 15 #[.pointer (some ⟨m, 0, none⟩), .int .i64 k, .bool u, .int .u64 a, .int .u64 v] w fun e w' => e = .returned (.agg #[.int .i64 how, .int .u64 0, .int .i64 code, .int .u64 a]) ∧ RModB w0 F w' m t q S p L h b n ⟨s.W, s.r, dropT s.T 0 (pageN a : Int)⟩ ∧ Far F w w' := by
  have hc1 : Chg [] w (w.alloc (.cells #[.int .i64 0, .int .u64 0, .int .i64 0, .int .u64 0] 39)) := (Chg.refl [] w).alloc _
  have o1 := Blk.new w 39 #[.int .i64 0, .int .u64 0, .int .i64 0, .int .u64 0]
  have H1 := H.more (G := [w.heap.size]) hc1 (by intro i hi; simp at hi; subst hi; simp)
  have hs0 := H.c0.size
  have nF : Hid (∀ j, w.heap.size + j ∉ F) := Lib.hid (fun j hm => by have := H.tb.2.1 _ (List.mem_append.2 (.inr hm)); omega)
  have hAl := fun w9 => (RAligned_any a w9 ha).mono fun e w' (h : _ ∧ _) => (⟨h.1, by first | exact h.2.chg | exact h.2 ▸ Chg.refl [] w9⟩ : _ ∧ Chg [] w9 w')
  have hCa := fun w9 => (RCanon_any a w9 ha).mono fun e w' (h : _ ∧ _) => (⟨h.1, by first | exact h.2.chg | exact h.2 ▸ Chg.refl [] w9⟩ : _ ∧ Chg [] w9 w')
  have hPg := fun w9 => (RPage_any a w9 ha).mono fun e w' (h : _ ∧ _) => (⟨h.1, by first | exact h.2.chg | exact h.2 ▸ Chg.refl [] w9⟩ : _ ∧ Chg [] w9 w')
  have hWd := fun w9 => (RWord_any a w9 ha).mono fun e w' (h : _ ∧ _) => (⟨h.1, by first | exact h.2.chg | exact h.2 ▸ Chg.refl [] w9⟩ : _ ∧ Chg [] w9 w')
  rw [h1] at hAl
  rw [h2] at hCa
  have hKn := fun F w9 (H9 : RModB w0 F w9 m t q S p L h b n s) => RMKnown_b (pageN a : Int) H9
  generalize hX : getT s.T 0 (pageN a : Int) = X at *
  generalize hU : hasT s.T 0 (pageN a : Int) = U at *
  clear hX hU
  obtain ⟨xa, xp, xf, xw, xu, xx, xd⟩ := X
  simp only [Ht.v, Ht.rg, servesB] at *
  obtain ⟨sW, sr, sT⟩ := s
  simp only at *
  have hM := fun w9 => RMay_any ⟨xw, xu, xx⟩ k u w9
  generalize mayB ⟨xw, xu, xx⟩ k u = my at *
  simp only [Rg.cs] at hM
  have hWk0 := fun F w9 (H9 : RModB w0 F w9 m t q S p L h b n ⟨sW, sr, dropT sT 0 (pageN a : Int)⟩) => H9.walk (pageN a : Int) k u Pa.zero how code hr
  simp only at hWk0
  have hFo := fun F w9 (H9 : RModB w0 F w9 m t q S p L h b n ⟨sW, sr, sT⟩) => RMForget_b (pageN a : Int) H9
  simp only [forgetM] at hFo
  go_enter Tryz.func15, Tryz.ntmps15
  go_wp2_with fail
  refine (hAl _).mono ?_; rintro e w2 ⟨rfl, y2⟩
  have o2 := o1.chg_ y2 (by simp)
  have H2 := H1.new y2
  go_wp2_with fail
  refine (hCa _).mono ?_; rintro e w3 ⟨rfl, y3⟩
  have o3 := o2.chg_ y3 (by simp)
  have H3 := H2.new y3
  go_wp2_with fail
  refine (hPg _).mono ?_; rintro e w4 ⟨rfl, y4⟩
  have o4 := o3.chg_ y4 (by simp)
  have H4 := H3.new y4
  have k4 := ((hc1.trans y2 (by simp)).trans y3 (by simp)).trans y4 (by simp)
  clear o1 o2 o3 H1 H2 H3 y2 y3 y4 hAl hCa hPg hc1
  go_wp2_with fail
  refine (hKn _ _ H4).mono ?_; rintro e w5 ⟨rfl, y5⟩
  have al := (Chg.refl [] w5).alloc (.cells #[.int .i64 xa, .int .i64 xp, .int .i64 xf, .bool xw, .bool xu, .bool xx, .bool xd] 62)
  have y6 := y5.trans al (by simp)
  have H6 := H4.more (G := [w5.heap.size]) y6 (by intro i hi; simp at hi; subst hi; exact ⟨y5.size, by simp⟩)
  have o6 := o4.chg_ y6 (by simp)
  have b6 := Blk.new w5 62 #[.int .i64 xa, .int .i64 xp, .int .i64 xf, .bool xw, .bool xu, .bool xx, .bool xd]
  have k6 := k4.trans y6 (by simp)
  have hgx : w0.heap.size ≤ w5.heap.size ∧ w.heap.size ≠ w5.heap.size := ⟨Nat.le_trans hs0 (Nat.le_trans k4.size y5.size), by have := o4.lt; have := y5.size; omega⟩
  have hgF : w5.heap.size ∉ F := fun hm => by have h1 := H4.tb.2.1 _ (List.mem_append.2 (.inr (List.mem_append.2 (.inr hm)))); have h2 := y5.size; omega
  clear H4 o4 k4 y5 al y6 hKn
  obtain ⟨x0_, x1_, x2_, x3_, x4_, x5_, x6_, _, _, _, _, _, _, _⟩ := blk7 b6
  go_upto_region 7 with fail
  generalize w5.alloc (.cells #[.int .i64 xa, .int .i64 xp, .int .i64 xf, .bool xw, .bool xu, .bool xx, .bool xd] 62) = w6 at *
  generalize w5.heap.size = gx at *
  go_cut [56] from 38 to 56 (fun cv wx => cv = .bool true ∧ Chg [] w6 wx)
  case first =>
    clear hWk0 hFo
    cases U
    case false =>
      go_wp2_with fail
      go_meet
      exact ⟨rfl, Chg.refl [] _⟩
    case true =>
      cases my
      case false =>
        go_wp2_with fail
        refine (hM _).mono ?_; rintro e w7 ⟨rfl, y7⟩
        obtain ⟨x0b, x1b, x2b, x3b, x4b, x5b, x6b, _, _, _, _, _, _, _⟩ := blk7 (b6.chg_ y7 (by simp))
        go_wp2_with fail
        go_meet
        exact ⟨rfl, y7⟩
      case true =>
        by_cases hk1 : k = 1
        · subst hk1
          obtain rfl : xd = false := by simpa using hns
          go_wp2_with fail
          refine (hM _).mono ?_; rintro e w7 ⟨rfl, y7⟩
          obtain ⟨x0b, x1b, x2b, x3b, x4b, x5b, x6b, _, _, _, _, _, _, _⟩ := blk7 (b6.chg_ y7 (by simp))
          go_wp2_with fail
          go_meet
          exact ⟨rfl, y7⟩
        · exact absurd hns (by simp [hk1])
  case rest =>
    obtain ⟨rfl, y7⟩ := hcut
    have H7 := H6.new y7; have o7 := o6.chg_ y7 (by simp); have b7 := b6.chg_ y7 (by simp); have k7 := k6.trans y7 (by simp)
    clear H6 o6 b6 k6 y7 x0_ x1_ x2_ x3_ x4_ x5_ x6_ hM hns
    rw [show Pa.zero = ⟨[], 0, ⟨false, false, false⟩, false, false⟩ from rfl] at *
    simp only [pathV, List.length_nil] at *
    go_wp2_with fail
    refine (hFo _ _ H7).mono ?_; rintro e w1 ⟨rfl, H8, f8⟩
    have o8 := f8.blk o7 (by simp)
    have b8 := f8.blk b7 (by simp)
    have hm1 : Blk w1 m 95 #[.pointer (some ⟨q, 0, none⟩), .int .i64 sr, .pointer (some ⟨t, 0, none⟩)] := H8.st
    have hWk := hWk0 _ w1 H8
    have f9 := (Far.of_new (F := F) k7).trans (f8.less (fun i hi => by simp [hi]))
    clear hFo hWk0 H7 o7 b7 f8 k7
    go_wp2_with fail
    refine wp_region_noPanic ?_
    refine wp_region_held_drew (S := (fun w' => Blk w' m 95 #[.pointer (some ⟨q, 0, none⟩), .int .i64 sr, .pointer (some ⟨t, 0, none⟩)])) (by kernel_rfl) ?_ (fun hHeld => ?_)
    · exact hm1.drew
    (refine tk 0 (some 61) (v := ?_) rfl ?_ ?_; rotate_left; · (intro w hSw; (try dsimp only at hSw); obtain ⟨c0_, c1_, c2_⟩ := blk3 hSw; go_simp; (try with_reducible rfl)))
    (try simp only [Act.put, tA, tZ, tS])
    (refine tk 1 (some 62) (v := ?_) rfl ?_ ?_; rotate_left; · (intro w hSw; (try dsimp only at hSw); obtain ⟨c0_, c1_, c2_⟩ := blk3 hSw; go_simp; (try with_reducible rfl)))
    (try simp only [Act.put, tA, tZ, tS])
    (refine tk 2 (some 63) (v := ?_) rfl ?_ ?_; rotate_left; · (intro w hSw; (try dsimp only at hSw); obtain ⟨c0_, c1_, c2_⟩ := blk3 hSw; go_simp; (try with_reducible rfl)))
    (try simp only [Act.put, tA, tZ, tS])
    (refine tk 3 (some 64) (v := ?_) rfl ?_ ?_; rotate_left; · (intro w hSw; (try dsimp only at hSw); obtain ⟨c0_, c1_, c2_⟩ := blk3 hSw; go_simp; (try with_reducible rfl)))
    (try simp only [Act.put, tA, tZ, tS])
    (refine tk 4 (some 65) (v := ?_) rfl ?_ ?_; rotate_left; · (intro w hSw; (try dsimp only at hSw); obtain ⟨c0_, c1_, c2_⟩ := blk3 hSw; go_simp; (try with_reducible rfl)))
    (try simp only [Act.put, tA, tZ, tS])
    (refine tk 5 (some 66) (v := ?_) rfl ?_ ?_; rotate_left; · (intro w hSw; (try dsimp only at hSw); obtain ⟨c0_, c1_, c2_⟩ := blk3 hSw; go_simp; (try with_reducible rfl)))
    (try simp only [Act.put, tA, tZ, tS])
    (refine tk 6 (some 67) (v := ?_) rfl ?_ ?_; rotate_left; · (intro w hSw; (try dsimp only at hSw); obtain ⟨c0_, c1_, c2_⟩ := blk3 hSw; go_simp; (try with_reducible rfl)))
    (try simp only [Act.put, tA, tZ, tS])
    (refine tk 7 (some 68) (v := ?_) rfl ?_ ?_; rotate_left; · (intro w hSw; (try dsimp only at hSw); obtain ⟨c0_, c1_, c2_⟩ := blk3 hSw; go_simp; (try with_reducible rfl)))
    (try simp only [Act.put, tA, tZ, tS])
    (refine tk 8 (some 69) (v := ?_) rfl ?_ ?_; rotate_left; · (intro w hSw; (try dsimp only at hSw); obtain ⟨c0_, c1_, c2_⟩ := blk3 hSw; go_simp; (try with_reducible rfl)))
    (try simp only [Act.put, tA, tZ, tS])
    (refine tk 9 (some 70) (v := ?_) rfl ?_ ?_; rotate_left; · (intro w hSw; (try dsimp only at hSw); obtain ⟨c0_, c1_, c2_⟩ := blk3 hSw; go_simp; (try with_reducible rfl)))
    (try simp only [Act.put, tA, tZ, tS])
    (refine tk 10 (some 71) (v := ?_) rfl ?_ ?_; rotate_left; · (intro w hSw; (try dsimp only at hSw); obtain ⟨c0_, c1_, c2_⟩ := blk3 hSw; go_simp; (try with_reducible rfl)))
    (try simp only [Act.put, tA, tZ, tS])
    refine wpAnyH_ready (rs := [11, 16]) (by kernel_rfl) (by simp) ?_; refine AllReadyH.cons (o := _) rfl (fun K hK => ?_) (AllReadyH.cons (o := _) rfl (fun K hK => ?_) AllReadyH.nil)
    · go_simp
      (go_at_call 59; refine (hWk _ ((Chg.refl [] w1).drew)).mono ?_; rintro e u1 ⟨A, c, rfl, r1, l1, y1⟩; simp only at *)
      refine hK.out _ _ (by (try dsimp only); exact hHeld.chg_ y1 (by simp)) (fun hHeld => ?_)
      clear hK K
      (try simp only [Act.put, tA, tZ, tS])
      (refine tk 12 (some 60) (v := ?_) rfl ?_ ?_; rotate_left; · (intro w hSw; (try dsimp only at hSw); go_simp; (try with_reducible rfl)))
      (try simp only [Act.put, tA, tZ, tS])
      (refine tk 13 (some 73) (v := ?_) rfl ?_ ?_; rotate_left; · (intro w hSw; (try dsimp only at hSw); go_simp; (try with_reducible rfl)))
      (try simp only [Act.put, tA, tZ, tS])
      (refine tk 14 (some 74) (v := ?_) rfl ?_ ?_; rotate_left; · (intro w hSw; (try dsimp only at hSw); go_simp; (try with_reducible rfl)))
      (try simp only [Act.put, tA, tZ, tS])
      (refine tk 15 (some 75) (v := ?_) rfl ?_ ?_; rotate_left; · (intro w hSw; (try dsimp only at hSw); go_simp; (try with_reducible rfl)))
      (try simp only [Act.put, tA, tZ, tS])
      refine wpAnyH_ready (rs := [16]) (by kernel_rfl) (by simp) ?_; refine AllReadyH.cons (o := _) rfl (fun K hK => ?_) AllReadyH.nil
      go_simp
      skip
      refine hK.out _ _ (by (try dsimp only); exact Blk.alloc hHeld _) (fun hHeld => ?_)
      clear hK K
      (try simp only [Act.put, tA, tZ, tS])
      have x0 : Chg [] w1 (u1.alloc (.cells #[.slice none 0 0, .int .i64 0, .bool false, .bool false, .bool false, .bool false, .bool false] 108)) := (((Chg.refl [] w1).drew).trans y1 (by simp)).alloc _
      have hp0 := Blk.new u1 108 #[.slice none 0 0, .int .i64 0, .bool false, .bool false, .bool false, .bool false, .bool false]
      have hne : m ≠ u1.heap.size := by have h1 := hm1.lt; have h2 := x0.size; have h3 := y1.size; simp at h2 h3; omega
      have hlo : ∀ g ∈ (Value.slice A 0 c).ownBlock.toList, w1.heap.size ≤ g ∧ g ≠ u1.heap.size := fun g hg => ⟨by simpa using l1 g hg, by have := OwnA.lt r1 g hg; omega⟩
      have r2 := OwnA.self r1 ((Chg.refl [] u1).alloc (.cells #[.slice none 0 0, .int .i64 0, .bool false, .bool false, .bool false, .bool false, .bool false] 108))
      have hpl : w1.heap.size ≤ u1.heap.size := by simpa using y1.size
      clear r1 l1 y1
      generalize hu2 : u1.alloc (.cells #[.slice none 0 0, .int .i64 0, .bool false, .bool false, .bool false, .bool false, .bool false] 108) = u2 at *
      generalize u1.heap.size = pb at *
      clear hu2
      obtain ⟨z0, z1, z2, z3, z4, z5, z6, g0, g1, g2, g3, g4, g5, g6⟩ := blk7 hp0
      refine wpAnyH_ready (rs := [17]) (by kernel_rfl) (by simp) ?_; refine AllReadyH.cons (o := _) rfl (fun K hK => ?_) AllReadyH.nil
      go_simp
      skip
      refine hK.out _ _ (by (try dsimp only); exact far7 hHeld hne) (fun hHeld => ?_)
      clear hK K
      (try simp only [Act.put, tA, tZ, tS])
      (refine tk 18 (some 15) (v := ?_) rfl ?_ ?_; rotate_left; · (intro w hSw; (try dsimp only at hSw); go_simp; (try with_reducible rfl)))
      (try simp only [Act.put, tA, tZ, tS])
      (refine tk 19 (some 16) (v := ?_) rfl ?_ ?_; rotate_left; · (intro w hSw; (try dsimp only at hSw); go_simp; (try with_reducible rfl)))
      (try simp only [Act.put, tA, tZ, tS])
      refine wpAnyH_done (by kernel_rfl) ?_ _
      refine NoPanic.normal ?_
      have hp3 := set7 (y0 := .slice A 0 c) (y1 := .int .i64 0) (y2 := .bool false) (y3 := .bool false) (y4 := .bool false) (y5 := .bool false) (y6 := .bool false) hp0
      have x3 : Chg [] w1 _ := x0.trans (chg7 (y0 := .slice A 0 c) (y1 := .int .i64 0) (y2 := .bool false) (y3 := .bool false) (y4 := .bool false) (y5 := .bool false) (y6 := .bool false) (g := pb) (Chg.refl [pb] u2) (by simp)) (by intro i hi hm; simp at hm; subst hm; omega)
      have r3 := OwnA.chg r2 (chg7 (y0 := .slice A 0 c) (y1 := .int .i64 0) (y2 := .bool false) (y3 := .bool false) (y4 := .bool false) (y5 := .bool false) (y6 := .bool false) (g := pb) (Chg.refl [pb] u2) (by simp)) (fun g hg hm => by simp at hm; exact (hlo g hg).2 hm)
      have hpb := hp3.lt
      clear hHeld r2 hp0 x0 z0 z1 z2 z3 z4 z5 z6 g0 g1 g2 g3 g4 g5 g6
      generalize ((((((u2.setCell ⟨pb, 0, none⟩ (.slice A 0 c)).setCell ⟨pb, 1, none⟩ (.int .i64 0)).setCell ⟨pb, 2, none⟩ (.bool false)).setCell ⟨pb, 3, none⟩ (.bool false)).setCell ⟨pb, 4, none⟩ (.bool false)).setCell ⟨pb, 5, none⟩ (.bool false)).setCell ⟨pb, 6, none⟩ (.bool false) = w3 at *
      have hlo := fun g hg => (hlo g hg).1
      clear hne hWk
      have H10 := H8.more (G := [pb]) x3 (by intro i hi; simp at hi; subst hi; exact ⟨hpl, hpb⟩)
      have o10 := o8.chg_ x3 (by simp)
      have b10 := b8.chg_ x3 (by simp)
      have f10 := f9.trans (Far.of_new x3)
      clear H8 o8 b8 f9 hm1 x3
      obtain ⟨r0, r1, r2, r3, z0, z1, z2, z3⟩ := blk4 o10
      go_wp2_with fail
      refine bodyPost_ret (cell_ret rfl (set4 o10) rfl Tryz.underlying39 rfl (by kernel_rfl)) rfl ?_
      have hk := chg4 (y0 := .int .i64 how) (y1 := .int .u64 0) (y2 := .int .i64 code) (y3 := .int .u64 a) (g := w.heap.size) (Chg.refl [w.heap.size] w3) (by simp)
      have hrl := (H10.turn (by simp) hk hs0).less (G := F) (fun i hi => by simp only [List.mem_append]; first | exact .inr hi | exact .inr (.inr hi) | exact .inr (.inr (.inr hi)))
      exact ⟨rfl, hrl, f10.trans ⟨_, hk, by simpa using nF.out 0⟩⟩
    · go_simp
      skip
      refine hK.out _ _ (by (try dsimp only); exact Blk.alloc hHeld _) (fun hHeld => ?_)
      clear hK K
      (try simp only [Act.put, tA, tZ, tS])
      have x9 : Chg [] w1 (w1.drew.alloc (.cells #[.slice none 0 0, .int .i64 0, .bool false, .bool false, .bool false, .bool false, .bool false] 108)) := ((Chg.refl [] w1).drew).alloc _
      have hp9 : Blk (w1.drew.alloc (.cells #[.slice none 0 0, .int .i64 0, .bool false, .bool false, .bool false, .bool false, .bool false] 108)) w1.heap.size 108 #[.slice none 0 0, .int .i64 0, .bool false, .bool false, .bool false, .bool false, .bool false] := Blk.new w1.drew _ _
      refine wpAnyH_ready (rs := [11]) (by kernel_rfl) (by simp) ?_; refine AllReadyH.cons (o := _) rfl (fun K hK => ?_) AllReadyH.nil
      go_simp
      (go_at_call 59; refine (hWk _ x9).mono ?_; rintro e u1 ⟨A, c, rfl, r1, l1, y1⟩; simp only at *)
      refine hK.out _ _ (by (try dsimp only); exact hHeld.chg_ y1 (by simp)) (fun hHeld => ?_)
      clear hK K
      (try simp only [Act.put, tA, tZ, tS])
      (refine tk 12 (some 60) (v := ?_) rfl ?_ ?_; rotate_left; · (intro w hSw; (try dsimp only at hSw); go_simp; (try with_reducible rfl)))
      (try simp only [Act.put, tA, tZ, tS])
      (refine tk 13 (some 73) (v := ?_) rfl ?_ ?_; rotate_left; · (intro w hSw; (try dsimp only at hSw); go_simp; (try with_reducible rfl)))
      (try simp only [Act.put, tA, tZ, tS])
      (refine tk 14 (some 74) (v := ?_) rfl ?_ ?_; rotate_left; · (intro w hSw; (try dsimp only at hSw); go_simp; (try with_reducible rfl)))
      (try simp only [Act.put, tA, tZ, tS])
      (refine tk 15 (some 75) (v := ?_) rfl ?_ ?_; rotate_left; · (intro w hSw; (try dsimp only at hSw); go_simp; (try with_reducible rfl)))
      (try simp only [Act.put, tA, tZ, tS])
      have x0 : Chg [] w1 u1 := x9.trans y1 (by simp)
      have hp0 := hp9.chg_ y1 (by simp)
      obtain ⟨pb, hpe⟩ : ∃ pb, pb = w1.heap.size := ⟨_, rfl⟩
      have hne : m ≠ pb := by have h1 := hm1.lt; omega
      have hlo : ∀ g ∈ (Value.slice A 0 c).ownBlock.toList, w1.heap.size ≤ g ∧ g ≠ pb := fun g hg => by have := l1 g hg; simp at this; omega
      have hpl : w1.heap.size ≤ pb := by omega
      rw [← hpe] at hp0 ⊢
      have r2 := r1
      clear r1 l1 y1 x9 hp9 hpe
      generalize hu2 : u1 = u2 at *
      clear hu2
      obtain ⟨z0, z1, z2, z3, z4, z5, z6, g0, g1, g2, g3, g4, g5, g6⟩ := blk7 hp0
      refine wpAnyH_ready (rs := [17]) (by kernel_rfl) (by simp) ?_; refine AllReadyH.cons (o := _) rfl (fun K hK => ?_) AllReadyH.nil
      go_simp
      skip
      refine hK.out _ _ (by (try dsimp only); exact far7 hHeld hne) (fun hHeld => ?_)
      clear hK K
      (try simp only [Act.put, tA, tZ, tS])
      (refine tk 18 (some 15) (v := ?_) rfl ?_ ?_; rotate_left; · (intro w hSw; (try dsimp only at hSw); go_simp; (try with_reducible rfl)))
      (try simp only [Act.put, tA, tZ, tS])
      (refine tk 19 (some 16) (v := ?_) rfl ?_ ?_; rotate_left; · (intro w hSw; (try dsimp only at hSw); go_simp; (try with_reducible rfl)))
      (try simp only [Act.put, tA, tZ, tS])
      refine wpAnyH_done (by kernel_rfl) ?_ _
      refine NoPanic.normal ?_
      have hp3 := set7 (y0 := .slice A 0 c) (y1 := .int .i64 0) (y2 := .bool false) (y3 := .bool false) (y4 := .bool false) (y5 := .bool false) (y6 := .bool false) hp0
      have x3 : Chg [] w1 _ := x0.trans (chg7 (y0 := .slice A 0 c) (y1 := .int .i64 0) (y2 := .bool false) (y3 := .bool false) (y4 := .bool false) (y5 := .bool false) (y6 := .bool false) (g := pb) (Chg.refl [pb] u2) (by simp)) (by intro i hi hm; simp at hm; subst hm; omega)
      have r3 := OwnA.chg r2 (chg7 (y0 := .slice A 0 c) (y1 := .int .i64 0) (y2 := .bool false) (y3 := .bool false) (y4 := .bool false) (y5 := .bool false) (y6 := .bool false) (g := pb) (Chg.refl [pb] u2) (by simp)) (fun g hg hm => by simp at hm; exact (hlo g hg).2 hm)
      have hpb := hp3.lt
      clear hHeld r2 hp0 x0 z0 z1 z2 z3 z4 z5 z6 g0 g1 g2 g3 g4 g5 g6
      generalize ((((((u2.setCell ⟨pb, 0, none⟩ (.slice A 0 c)).setCell ⟨pb, 1, none⟩ (.int .i64 0)).setCell ⟨pb, 2, none⟩ (.bool false)).setCell ⟨pb, 3, none⟩ (.bool false)).setCell ⟨pb, 4, none⟩ (.bool false)).setCell ⟨pb, 5, none⟩ (.bool false)).setCell ⟨pb, 6, none⟩ (.bool false) = w3 at *
      have hlo := fun g hg => (hlo g hg).1
      clear hne hWk
      have H10 := H8.more (G := [pb]) x3 (by intro i hi; simp at hi; subst hi; exact ⟨hpl, hpb⟩)
      have o10 := o8.chg_ x3 (by simp)
      have b10 := b8.chg_ x3 (by simp)
      have f10 := f9.trans (Far.of_new x3)
      clear H8 o8 b8 f9 hm1 x3
      obtain ⟨r0, r1, r2, r3, z0, z1, z2, z3⟩ := blk4 o10
      go_wp2_with fail
      refine bodyPost_ret (cell_ret rfl (set4 o10) rfl Tryz.underlying39 rfl (by kernel_rfl)) rfl ?_
      have hk := chg4 (y0 := .int .i64 how) (y1 := .int .u64 0) (y2 := .int .i64 code) (y3 := .int .u64 a) (g := w.heap.size) (Chg.refl [w.heap.size] w3) (by simp)
      have hrl := (H10.turn (by simp) hk hs0).less (G := F) (fun i hi => by simp only [List.mem_append]; first | exact .inr hi | exact .inr (.inr hi) | exact .inr (.inr (.inr hi)))
      exact ⟨rfl, hrl, f10.trans ⟨_, hk, by simpa using nF.out 0⟩⟩

set_option maxRecDepth 100000 in
set_option maxHeartbeats 16000000 in
theorem racc_go_st_true (k : Int) (u : Bool) (a : Nat) (v : Int) (ha : a < 18446744073709551616) (hv : 0 ≤ v ∧ v < 18446744073709551616) (H : RModB w0 F w m t q S p L h b n s) (P : Pa) (h1 : aliB a = true) (h2 : canB a = true) (hns : (hasT s.T 0 (pageN a : Int) && servesB (getT s.T 0 (pageN a : Int)) k u) = false) (hr : walkP n s.W L s.r (pageN a : Int) k u = (P, 0, 0)) (hdy : P.dirty = true) (hk : k = 1) :
    Calls Tryz.prog 15 #[.pointer (some ⟨m, 0, none⟩), .int .i64 k, .bool u, .int .u64 a, .int .u64 v] w fun e w' => e = .returned (.agg #[.int .i64 0, .int .u64 0, .int .i64 0, .int .u64 0]) ∧ RModB w0 F w' m t q S p L h b n ⟨setG n (markP n L P.ats (k == 1) s.W) L P.g (wordN a) v, s.r, putT 512 (dropT s.T 0 (pageN a : Int)) (hitP (pageN a : Int) P (k == 1))⟩ ∧ Far F w w' := by
  subst hk
  have hlen := walk_len hr
  have hall : P.ats.length ≤ 9223372036854775807 := by omega
  have hgl := (done_of hr).2
  have hit0 : hitP (pageN a : Int) P true = ⟨0, (pageN a : Int), P.g, P.r.w, P.r.u, P.r.x, true⟩ := by unfold hitP; rw [hdy]; rfl
  rw [show ((1 : Int) == 1) = true from rfl]
  rw [hit0]
  clear hit0
  have hc1 : Chg [] w (w.alloc (.cells #[.int .i64 0, .int .u64 0, .int .i64 0, .int .u64 0] 39)) := (Chg.refl [] w).alloc _
  have o1 := Blk.new w 39 #[.int .i64 0, .int .u64 0, .int .i64 0, .int .u64 0]
  have H1 := H.more (G := [w.heap.size]) hc1 (by intro i hi; simp at hi; subst hi; simp)
  have hs0 := H.c0.size
  have nF : Hid (∀ j, w.heap.size + j ∉ F) := Lib.hid (fun j hm => by have := H.tb.2.1 _ (List.mem_append.2 (.inr hm)); omega)
  have hAl := fun w9 => (RAligned_any a w9 ha).mono fun e w' (h : _ ∧ _) => (⟨h.1, by first | exact h.2.chg | exact h.2 ▸ Chg.refl [] w9⟩ : _ ∧ Chg [] w9 w')
  have hCa := fun w9 => (RCanon_any a w9 ha).mono fun e w' (h : _ ∧ _) => (⟨h.1, by first | exact h.2.chg | exact h.2 ▸ Chg.refl [] w9⟩ : _ ∧ Chg [] w9 w')
  have hPg := fun w9 => (RPage_any a w9 ha).mono fun e w' (h : _ ∧ _) => (⟨h.1, by first | exact h.2.chg | exact h.2 ▸ Chg.refl [] w9⟩ : _ ∧ Chg [] w9 w')
  have hWd := fun w9 => (RWord_any a w9 ha).mono fun e w' (h : _ ∧ _) => (⟨h.1, by first | exact h.2.chg | exact h.2 ▸ Chg.refl [] w9⟩ : _ ∧ Chg [] w9 w')
  rw [h1] at hAl
  rw [h2] at hCa
  have hKn := fun F w9 (H9 : RModB w0 F w9 m t q S p L h b n s) => RMKnown_b (pageN a : Int) H9
  generalize hX : getT s.T 0 (pageN a : Int) = X at *
  generalize hU : hasT s.T 0 (pageN a : Int) = U at *
  clear hX hU
  obtain ⟨xa, xp, xf, xw, xu, xx, xd⟩ := X
  simp only [Ht.v, Ht.rg, servesB] at *
  obtain ⟨sW, sr, sT⟩ := s
  simp only at *
  have hM := fun w9 => RMay_any ⟨xw, xu, xx⟩ 1 u w9
  generalize mayB ⟨xw, xu, xx⟩ 1 u = my at *
  simp only [Rg.cs] at hM
  have hWk0 := fun F w9 (H9 : RModB w0 F w9 m t q S p L h b n ⟨sW, sr, dropT sT 0 (pageN a : Int)⟩) => H9.walk (pageN a : Int) 1 u P 0 0 hr
  simp only at hWk0
  have hFo := fun F w9 (H9 : RModB w0 F w9 m t q S p L h b n ⟨sW, sr, sT⟩) => RMForget_b (pageN a : Int) H9
  simp only [forgetM] at hFo
  obtain ⟨ats, pg, ⟨rw, ru, rx⟩, lg, dy⟩ := P
  simp only at hdy
  subst hdy
  simp only [pathV] at *
  go_enter Tryz.func15, Tryz.ntmps15
  go_wp2_with fail
  refine (hAl _).mono ?_; rintro e w2 ⟨rfl, y2⟩
  have o2 := o1.chg_ y2 (by simp)
  have H2 := H1.new y2
  go_wp2_with fail
  refine (hCa _).mono ?_; rintro e w3 ⟨rfl, y3⟩
  have o3 := o2.chg_ y3 (by simp)
  have H3 := H2.new y3
  go_wp2_with fail
  refine (hPg _).mono ?_; rintro e w4 ⟨rfl, y4⟩
  have o4 := o3.chg_ y4 (by simp)
  have H4 := H3.new y4
  have k4 := ((hc1.trans y2 (by simp)).trans y3 (by simp)).trans y4 (by simp)
  clear o1 o2 o3 H1 H2 H3 y2 y3 y4 hAl hCa hPg hc1
  go_wp2_with fail
  refine (hKn _ _ H4).mono ?_; rintro e w5 ⟨rfl, y5⟩
  have al := (Chg.refl [] w5).alloc (.cells #[.int .i64 xa, .int .i64 xp, .int .i64 xf, .bool xw, .bool xu, .bool xx, .bool xd] 62)
  have y6 := y5.trans al (by simp)
  have H6 := H4.more (G := [w5.heap.size]) y6 (by intro i hi; simp at hi; subst hi; exact ⟨y5.size, by simp⟩)
  have o6 := o4.chg_ y6 (by simp)
  have b6 := Blk.new w5 62 #[.int .i64 xa, .int .i64 xp, .int .i64 xf, .bool xw, .bool xu, .bool xx, .bool xd]
  have k6 := k4.trans y6 (by simp)
  have hgx : w0.heap.size ≤ w5.heap.size ∧ w.heap.size ≠ w5.heap.size := ⟨Nat.le_trans hs0 (Nat.le_trans k4.size y5.size), by have := o4.lt; have := y5.size; omega⟩
  have hgF : w5.heap.size ∉ F := fun hm => by have h1 := H4.tb.2.1 _ (List.mem_append.2 (.inr (List.mem_append.2 (.inr hm)))); have h2 := y5.size; omega
  clear H4 o4 k4 y5 al y6 hKn
  obtain ⟨x0_, x1_, x2_, x3_, x4_, x5_, x6_, _, _, _, _, _, _, _⟩ := blk7 b6
  go_upto_region 7 with fail
  generalize w5.alloc (.cells #[.int .i64 xa, .int .i64 xp, .int .i64 xf, .bool xw, .bool xu, .bool xx, .bool xd] 62) = w6 at *
  generalize w5.heap.size = gx at *
  go_cut [56] from 38 to 56 (fun cv wx => cv = .bool true ∧ Chg [] w6 wx)
  case first =>
    clear hWk0 hFo
    cases U
    case false =>
      go_wp2_with fail
      go_meet
      exact ⟨rfl, Chg.refl [] _⟩
    case true =>
      cases my
      case false =>
        go_wp2_with fail
        refine (hM _).mono ?_; rintro e w7 ⟨rfl, y7⟩
        obtain ⟨x0b, x1b, x2b, x3b, x4b, x5b, x6b, _, _, _, _, _, _, _⟩ := blk7 (b6.chg_ y7 (by simp))
        go_wp2_with fail
        go_meet
        exact ⟨rfl, y7⟩
      case true =>
        obtain rfl : xd = false := by simpa using hns
        go_wp2_with fail
        refine (hM _).mono ?_; rintro e w7 ⟨rfl, y7⟩
        obtain ⟨x0b, x1b, x2b, x3b, x4b, x5b, x6b, _, _, _, _, _, _, _⟩ := blk7 (b6.chg_ y7 (by simp))
        go_wp2_with fail
        go_meet
        exact ⟨rfl, y7⟩
  case rest =>
    obtain ⟨rfl, y7⟩ := hcut
    have H7 := H6.new y7; have o7 := o6.chg_ y7 (by simp); have b7 := b6.chg_ y7 (by simp); have k7 := k6.trans y7 (by simp)
    clear H6 o6 b6 k6 y7 x0_ x1_ x2_ x3_ x4_ x5_ x6_ hM hns
    go_wp2_with fail
    refine (hFo _ _ H7).mono ?_; rintro e w1 ⟨rfl, H8, f8⟩
    have o8 := f8.blk o7 (by simp)
    have b8 := f8.blk b7 (by simp)
    have hm1 : Blk w1 m 95 #[.pointer (some ⟨q, 0, none⟩), .int .i64 sr, .pointer (some ⟨t, 0, none⟩)] := H8.st
    have hbl := H8.lt b (by simp [mB])
    have hWk := hWk0 _ w1 H8
    have f9 := (Far.of_new (F := F) k7).trans (f8.less (fun i hi => by simp [hi]))
    clear hFo hWk0 H7 o7 b7 f8 k7
    go_wp2_with fail
    refine wp_region_noPanic ?_
    refine wp_region_held_drew (S := (fun w' => Blk w' m 95 #[.pointer (some ⟨q, 0, none⟩), .int .i64 sr, .pointer (some ⟨t, 0, none⟩)])) (by kernel_rfl) ?_ (fun hHeld => ?_)
    · exact hm1.drew
    (refine tk 0 (some 61) (v := ?_) rfl ?_ ?_; rotate_left; · (intro w hSw; (try dsimp only at hSw); obtain ⟨c0_, c1_, c2_⟩ := blk3 hSw; go_simp; (try with_reducible rfl)))
    (try simp only [Act.put, tA, tZ, tS])
    (refine tk 1 (some 62) (v := ?_) rfl ?_ ?_; rotate_left; · (intro w hSw; (try dsimp only at hSw); obtain ⟨c0_, c1_, c2_⟩ := blk3 hSw; go_simp; (try with_reducible rfl)))
    (try simp only [Act.put, tA, tZ, tS])
    (refine tk 2 (some 63) (v := ?_) rfl ?_ ?_; rotate_left; · (intro w hSw; (try dsimp only at hSw); obtain ⟨c0_, c1_, c2_⟩ := blk3 hSw; go_simp; (try with_reducible rfl)))
    (try simp only [Act.put, tA, tZ, tS])
    (refine tk 3 (some 64) (v := ?_) rfl ?_ ?_; rotate_left; · (intro w hSw; (try dsimp only at hSw); obtain ⟨c0_, c1_, c2_⟩ := blk3 hSw; go_simp; (try with_reducible rfl)))
    (try simp only [Act.put, tA, tZ, tS])
    (refine tk 4 (some 65) (v := ?_) rfl ?_ ?_; rotate_left; · (intro w hSw; (try dsimp only at hSw); obtain ⟨c0_, c1_, c2_⟩ := blk3 hSw; go_simp; (try with_reducible rfl)))
    (try simp only [Act.put, tA, tZ, tS])
    (refine tk 5 (some 66) (v := ?_) rfl ?_ ?_; rotate_left; · (intro w hSw; (try dsimp only at hSw); obtain ⟨c0_, c1_, c2_⟩ := blk3 hSw; go_simp; (try with_reducible rfl)))
    (try simp only [Act.put, tA, tZ, tS])
    (refine tk 6 (some 67) (v := ?_) rfl ?_ ?_; rotate_left; · (intro w hSw; (try dsimp only at hSw); obtain ⟨c0_, c1_, c2_⟩ := blk3 hSw; go_simp; (try with_reducible rfl)))
    (try simp only [Act.put, tA, tZ, tS])
    (refine tk 7 (some 68) (v := ?_) rfl ?_ ?_; rotate_left; · (intro w hSw; (try dsimp only at hSw); obtain ⟨c0_, c1_, c2_⟩ := blk3 hSw; go_simp; (try with_reducible rfl)))
    (try simp only [Act.put, tA, tZ, tS])
    (refine tk 8 (some 69) (v := ?_) rfl ?_ ?_; rotate_left; · (intro w hSw; (try dsimp only at hSw); obtain ⟨c0_, c1_, c2_⟩ := blk3 hSw; go_simp; (try with_reducible rfl)))
    (try simp only [Act.put, tA, tZ, tS])
    (refine tk 9 (some 70) (v := ?_) rfl ?_ ?_; rotate_left; · (intro w hSw; (try dsimp only at hSw); obtain ⟨c0_, c1_, c2_⟩ := blk3 hSw; go_simp; (try with_reducible rfl)))
    (try simp only [Act.put, tA, tZ, tS])
    (refine tk 10 (some 71) (v := ?_) rfl ?_ ?_; rotate_left; · (intro w hSw; (try dsimp only at hSw); obtain ⟨c0_, c1_, c2_⟩ := blk3 hSw; go_simp; (try with_reducible rfl)))
    (try simp only [Act.put, tA, tZ, tS])
    refine wpAnyH_ready (rs := [11, 16]) (by kernel_rfl) (by simp) ?_; refine AllReadyH.cons (o := _) rfl (fun K hK => ?_) (AllReadyH.cons (o := _) rfl (fun K hK => ?_) AllReadyH.nil)
    · go_simp
      (go_at_call 59; refine (hWk _ ((Chg.refl [] w1).drew)).mono ?_; rintro e u1 ⟨A, c, rfl, r1, l1, y1⟩; simp only at *)
      refine hK.out _ _ (by (try dsimp only); exact hHeld.chg_ y1 (by simp)) (fun hHeld => ?_)
      clear hK K
      (try simp only [Act.put, tA, tZ, tS])
      (refine tk 12 (some 60) (v := ?_) rfl ?_ ?_; rotate_left; · (intro w hSw; (try dsimp only at hSw); go_simp; (try with_reducible rfl)))
      (try simp only [Act.put, tA, tZ, tS])
      (refine tk 13 (some 73) (v := ?_) rfl ?_ ?_; rotate_left; · (intro w hSw; (try dsimp only at hSw); go_simp; (try with_reducible rfl)))
      (try simp only [Act.put, tA, tZ, tS])
      (refine tk 14 (some 74) (v := ?_) rfl ?_ ?_; rotate_left; · (intro w hSw; (try dsimp only at hSw); go_simp; (try with_reducible rfl)))
      (try simp only [Act.put, tA, tZ, tS])
      (refine tk 15 (some 75) (v := ?_) rfl ?_ ?_; rotate_left; · (intro w hSw; (try dsimp only at hSw); go_simp; (try with_reducible rfl)))
      (try simp only [Act.put, tA, tZ, tS])
      refine wpAnyH_ready (rs := [16]) (by kernel_rfl) (by simp) ?_; refine AllReadyH.cons (o := _) rfl (fun K hK => ?_) AllReadyH.nil
      go_simp
      skip
      refine hK.out _ _ (by (try dsimp only); exact Blk.alloc hHeld _) (fun hHeld => ?_)
      clear hK K
      (try simp only [Act.put, tA, tZ, tS])
      have x0 : Chg [] w1 (u1.alloc (.cells #[.slice none 0 0, .int .i64 0, .bool false, .bool false, .bool false, .bool false, .bool false] 108)) := (((Chg.refl [] w1).drew).trans y1 (by simp)).alloc _
      have hp0 := Blk.new u1 108 #[.slice none 0 0, .int .i64 0, .bool false, .bool false, .bool false, .bool false, .bool false]
      have hne : m ≠ u1.heap.size := by have h1 := hm1.lt; have h2 := x0.size; have h3 := y1.size; simp at h2 h3; omega
      have hlo : ∀ g ∈ (Value.slice A ats.length c).ownBlock.toList, w1.heap.size ≤ g ∧ g ≠ u1.heap.size := fun g hg => ⟨by simpa using l1 g hg, by have := OwnA.lt r1 g hg; omega⟩
      have r2 := OwnA.self r1 ((Chg.refl [] u1).alloc (.cells #[.slice none 0 0, .int .i64 0, .bool false, .bool false, .bool false, .bool false, .bool false] 108))
      have hpl : w1.heap.size ≤ u1.heap.size := by simpa using y1.size
      clear r1 l1 y1
      generalize hu2 : u1.alloc (.cells #[.slice none 0 0, .int .i64 0, .bool false, .bool false, .bool false, .bool false, .bool false] 108) = u2 at *
      generalize u1.heap.size = pb at *
      clear hu2
      obtain ⟨z0, z1, z2, z3, z4, z5, z6, g0, g1, g2, g3, g4, g5, g6⟩ := blk7 hp0
      refine wpAnyH_ready (rs := [17]) (by kernel_rfl) (by simp) ?_; refine AllReadyH.cons (o := _) rfl (fun K hK => ?_) AllReadyH.nil
      go_simp
      skip
      refine hK.out _ _ (by (try dsimp only); exact far7 hHeld hne) (fun hHeld => ?_)
      clear hK K
      (try simp only [Act.put, tA, tZ, tS])
      (refine tk 18 (some 15) (v := ?_) rfl ?_ ?_; rotate_left; · (intro w hSw; (try dsimp only at hSw); go_simp; (try with_reducible rfl)))
      (try simp only [Act.put, tA, tZ, tS])
      (refine tk 19 (some 16) (v := ?_) rfl ?_ ?_; rotate_left; · (intro w hSw; (try dsimp only at hSw); go_simp; (try with_reducible rfl)))
      (try simp only [Act.put, tA, tZ, tS])
      refine wpAnyH_done (by kernel_rfl) ?_ _
      refine NoPanic.normal ?_
      have hp3 := set7 (y0 := .slice A ats.length c) (y1 := .int .i64 pg) (y2 := .bool rw) (y3 := .bool ru) (y4 := .bool rx) (y5 := .bool lg) (y6 := .bool true) hp0
      have x3 : Chg [] w1 _ := x0.trans (chg7 (y0 := .slice A ats.length c) (y1 := .int .i64 pg) (y2 := .bool rw) (y3 := .bool ru) (y4 := .bool rx) (y5 := .bool lg) (y6 := .bool true) (g := pb) (Chg.refl [pb] u2) (by simp)) (by intro i hi hm; simp at hm; subst hm; omega)
      have r3 := OwnA.chg r2 (chg7 (y0 := .slice A ats.length c) (y1 := .int .i64 pg) (y2 := .bool rw) (y3 := .bool ru) (y4 := .bool rx) (y5 := .bool lg) (y6 := .bool true) (g := pb) (Chg.refl [pb] u2) (by simp)) (fun g hg hm => by simp at hm; exact (hlo g hg).2 hm)
      have hpb := hp3.lt
      clear hHeld r2 hp0 x0 z0 z1 z2 z3 z4 z5 z6 g0 g1 g2 g3 g4 g5 g6
      generalize ((((((u2.setCell ⟨pb, 0, none⟩ (.slice A ats.length c)).setCell ⟨pb, 1, none⟩ (.int .i64 pg)).setCell ⟨pb, 2, none⟩ (.bool rw)).setCell ⟨pb, 3, none⟩ (.bool ru)).setCell ⟨pb, 4, none⟩ (.bool rx)).setCell ⟨pb, 5, none⟩ (.bool lg)).setCell ⟨pb, 6, none⟩ (.bool true) = w3 at *
      have hlo := fun g hg => (hlo g hg).1
      clear hne hWk
      have H10 := H8.more (G := [pb]) x3 (by intro i hi; simp at hi; subst hi; exact ⟨hpl, hpb⟩)
      have o10 := o8.chg_ x3 (by simp)
      have b10 := b8.chg_ x3 (by simp)
      have f10 := f9.trans (Far.of_new x3)
      clear H8 o8 b8 f9 hm1 x3
      have hsl := OwnA.sla r3
      have hap : ∀ g o, A = some ⟨g, o, none⟩ → g ≠ b := fun g o e => by have h1 := hlo g (by rw [e]; simp [Value.ownBlock]); have h2 := hbl; omega
      have hmk := fun w9 (k9 : Chg [] w3 w9) => RMark_at q S p L h b n sW A c ⟨ats, pg, ⟨rw, ru, rx⟩, lg, true⟩ true w9 (H10.gu.self k9) H10.ok.wd (hsl.self k9) hall hap
      simp only [pathV] at hmk
      have hokm := H10.ok.mark ats true
      go_wp2_with fail
      refine wp_region_noPanic ?_
      refine wp_region_held_drew (S := (fun w' => Blk w' m 95 #[.pointer (some ⟨q, 0, none⟩), .int .i64 sr, .pointer (some ⟨t, 0, none⟩)] ∧ Blk w' pb 108 #[.slice A ats.length c, .int .i64 pg, .bool rw, .bool ru, .bool rx, .bool lg, .bool true])) (by kernel_rfl) ?_ (fun hHeld => ?_)
      · exact ⟨H10.st.drew, hp3.drew⟩
      (refine tk 0 (some 82) (v := ?_) rfl ?_ ?_; rotate_left; · (intro w hSw; (try dsimp only at hSw); obtain ⟨hSm, hSp⟩ := hSw; obtain ⟨c0_, c1_, c2_⟩ := blk3 hSm; obtain ⟨z0_, z1_, z2_, z3_, z4_, z5_, z6_, _, _, _, _, _, _, _⟩ := blk7 hSp; go_simp; (try with_reducible rfl)))
      (try simp only [Act.put, tA, tZ, tS])
      (refine tk 1 (some 83) (v := ?_) rfl ?_ ?_; rotate_left; · (intro w hSw; (try dsimp only at hSw); obtain ⟨hSm, hSp⟩ := hSw; obtain ⟨c0_, c1_, c2_⟩ := blk3 hSm; obtain ⟨z0_, z1_, z2_, z3_, z4_, z5_, z6_, _, _, _, _, _, _, _⟩ := blk7 hSp; go_simp; (try with_reducible rfl)))
      (try simp only [Act.put, tA, tZ, tS])
      (refine tk 2 (some 84) (v := ?_) rfl ?_ ?_; rotate_left; · (intro w hSw; (try dsimp only at hSw); obtain ⟨hSm, hSp⟩ := hSw; obtain ⟨c0_, c1_, c2_⟩ := blk3 hSm; obtain ⟨z0_, z1_, z2_, z3_, z4_, z5_, z6_, _, _, _, _, _, _, _⟩ := blk7 hSp; go_simp; (try with_reducible rfl)))
      (try simp only [Act.put, tA, tZ, tS])
      (refine tk 3 (some 85) (v := ?_) rfl ?_ ?_; rotate_left; · (intro w hSw; (try dsimp only at hSw); obtain ⟨hSm, hSp⟩ := hSw; obtain ⟨c0_, c1_, c2_⟩ := blk3 hSm; obtain ⟨z0_, z1_, z2_, z3_, z4_, z5_, z6_, _, _, _, _, _, _, _⟩ := blk7 hSp; go_simp; (try with_reducible rfl)))
      (try simp only [Act.put, tA, tZ, tS])
      (refine tk 4 (some 86) (v := ?_) rfl ?_ ?_; rotate_left; · (intro w hSw; (try dsimp only at hSw); obtain ⟨hSm, hSp⟩ := hSw; obtain ⟨c0_, c1_, c2_⟩ := blk3 hSm; obtain ⟨z0_, z1_, z2_, z3_, z4_, z5_, z6_, _, _, _, _, _, _, _⟩ := blk7 hSp; go_simp; (try with_reducible rfl)))
      (try simp only [Act.put, tA, tZ, tS])
      (refine tk 5 (some 87) (v := ?_) rfl ?_ ?_; rotate_left; · (intro w hSw; (try dsimp only at hSw); obtain ⟨hSm, hSp⟩ := hSw; obtain ⟨c0_, c1_, c2_⟩ := blk3 hSm; obtain ⟨z0_, z1_, z2_, z3_, z4_, z5_, z6_, _, _, _, _, _, _, _⟩ := blk7 hSp; go_simp; (try with_reducible rfl)))
      (try simp only [Act.put, tA, tZ, tS])
      (refine tk 6 (some 88) (v := ?_) rfl ?_ ?_; rotate_left; · (intro w hSw; (try dsimp only at hSw); obtain ⟨hSm, hSp⟩ := hSw; obtain ⟨c0_, c1_, c2_⟩ := blk3 hSm; obtain ⟨z0_, z1_, z2_, z3_, z4_, z5_, z6_, _, _, _, _, _, _, _⟩ := blk7 hSp; go_simp; (try with_reducible rfl)))
      (try simp only [Act.put, tA, tZ, tS])
      refine wpAnyH_ready (rs := [7]) (by kernel_rfl) (by simp) ?_; refine AllReadyH.cons (o := _) rfl (fun K hK => ?_) AllReadyH.nil
      go_simp
      (go_at_call 60; refine (hmk _ ((Chg.refl [] w3).drew)).mono ?_; rintro e w4 ⟨rfl, y4, g4_⟩; have pr := (H10.new ((Chg.refl [] w3).drew)).setW y4 g4_ hokm)
      refine hK.out _ _ (by (try dsimp only); exact ⟨pr.1.st, pr.2.blk hHeld.2 (by simp)⟩) (fun hHeld => ?_)
      clear hK K
      (try simp only [Act.put, tA, tZ, tS])
      refine wpAnyH_done (by kernel_rfl) ?_ _
      refine NoPanic.normal ?_
      have f11 := (Far.of_new ((Chg.refl [] w3).drew)).trans pr.2
      have H11 := pr.1
      have o11 := f11.blk o10 (by simp)
      have b11 := f11.blk b10 (by simp)
      have p11 := f11.blk hp3 (by simp)
      clear hHeld hmk hsl hap y4 g4_ hp3 r3 H10 o10 b10 pr hokm
      generalize hW4 : markP n L ats true sW = W4 at *
      have HW4 := Lib.hid hW4
      clear hW4
      have f12 := f10.trans (f11.less (G := F) (fun i hi => by simp [hi]))
      clear f10 f11
      obtain ⟨z0_, z1_, z2_, z3_, z4_, z5_, z6_, _, _, _, _, _, _, _⟩ := blk7 p11
      obtain ⟨x0_, x1_, x2_, x3_, x4_, x5_, x6_, y0_, y1_, y2_, y3_, y4_, y5_, y6_⟩ := blk7 b11
      have hne : gx ≠ pb := fun e => by subst e; exact Blk.type_ne b11 p11 (by decide) rfl
      have hne2 : ¬ pb = gx := fun e => hne e.symm
      go_wp2_with fail
      have hk7 := chg7 (y0 := .int .i64 0) (y1 := .int .i64 (pageN a : Int)) (y2 := .int .i64 pg) (y3 := .bool rw) (y4 := .bool ru) (y5 := .bool rx) (y6 := .bool true) (g := gx) (Chg.refl [gx] w4) (by simp)
      have H12 := H11.turn (by simp) hk7 hgx.1
      have o12 := o11.chg_ hk7 (by simpa using hgx.2)
      have b12 := set7 (y0 := .int .i64 0) (y1 := .int .i64 (pageN a : Int)) (y2 := .int .i64 pg) (y3 := .bool rw) (y4 := .bool ru) (y5 := .bool rx) (y6 := .bool true) b11
      have f13 := f12.trans ⟨_, hk7, by simp; exact hgF⟩
      generalize ((((((w4.setCell ⟨gx, 0, none⟩ (.int .i64 0)).setCell ⟨gx, 1, none⟩ (.int .i64 (pageN a : Int))).setCell ⟨gx, 2, none⟩ (.int .i64 pg)).setCell ⟨gx, 3, none⟩ (.bool rw)).setCell ⟨gx, 4, none⟩ (.bool ru)).setCell ⟨gx, 5, none⟩ (.bool rx)).setCell ⟨gx, 6, none⟩ (.bool true) = w5 at *
      clear hk7 H11 o11 b11 p11 f12 z0_ z1_ z2_ z3_ z4_ z5_ z6_ x0_ x1_ x2_ x3_ x4_ x5_ x6_ y0_ y1_ y2_ y3_ y4_ y5_ y6_
      refine wp_region_noPanic ?_
      refine wp_region_held_drew (S := (fun w' => Blk w' m 95 #[.pointer (some ⟨q, 0, none⟩), .int .i64 sr, .pointer (some ⟨t, 0, none⟩)] ∧ Blk w' gx 62 #[.int .i64 0, .int .i64 (pageN a : Int), .int .i64 pg, .bool rw, .bool ru, .bool rx, .bool true])) (by kernel_rfl) ?_ (fun hHeld => ?_)
      · exact ⟨H12.st.drew, b12.drew⟩
      (refine tk 0 (some 102) (v := ?_) rfl ?_ ?_; rotate_left; · (intro w hSw; (try dsimp only at hSw); obtain ⟨hSm, hSp⟩ := hSw; obtain ⟨c0_, c1_, c2_⟩ := blk3 hSm; obtain ⟨q0_, q1_, q2_, q3_, q4_, q5_, q6_, _, _, _, _, _, _, _⟩ := blk7 hSp; go_simp; (try with_reducible rfl)))
      (try simp only [Act.put, tA, tZ, tS])
      (refine tk 1 (some 103) (v := ?_) rfl ?_ ?_; rotate_left; · (intro w hSw; (try dsimp only at hSw); obtain ⟨hSm, hSp⟩ := hSw; obtain ⟨c0_, c1_, c2_⟩ := blk3 hSm; obtain ⟨q0_, q1_, q2_, q3_, q4_, q5_, q6_, _, _, _, _, _, _, _⟩ := blk7 hSp; go_simp; (try with_reducible rfl)))
      (try simp only [Act.put, tA, tZ, tS])
      (refine tk 2 (some 104) (v := ?_) rfl ?_ ?_; rotate_left; · (intro w hSw; (try dsimp only at hSw); obtain ⟨hSm, hSp⟩ := hSw; obtain ⟨c0_, c1_, c2_⟩ := blk3 hSm; obtain ⟨q0_, q1_, q2_, q3_, q4_, q5_, q6_, _, _, _, _, _, _, _⟩ := blk7 hSp; go_simp; (try with_reducible rfl)))
      (try simp only [Act.put, tA, tZ, tS])
      (refine tk 3 (some 105) (v := ?_) rfl ?_ ?_; rotate_left; · (intro w hSw; (try dsimp only at hSw); obtain ⟨hSm, hSp⟩ := hSw; obtain ⟨c0_, c1_, c2_⟩ := blk3 hSm; obtain ⟨q0_, q1_, q2_, q3_, q4_, q5_, q6_, _, _, _, _, _, _, _⟩ := blk7 hSp; go_simp; (try with_reducible rfl)))
      (try simp only [Act.put, tA, tZ, tS])
      (refine tk 4 (some 106) (v := ?_) rfl ?_ ?_; rotate_left; · (intro w hSw; (try dsimp only at hSw); obtain ⟨hSm, hSp⟩ := hSw; obtain ⟨c0_, c1_, c2_⟩ := blk3 hSm; obtain ⟨q0_, q1_, q2_, q3_, q4_, q5_, q6_, _, _, _, _, _, _, _⟩ := blk7 hSp; go_simp; (try with_reducible rfl)))
      (try simp only [Act.put, tA, tZ, tS])
      refine wpAnyH_ready (rs := [5]) (by kernel_rfl) (by simp) ?_; refine AllReadyH.cons (o := _) rfl (fun K hK => ?_) AllReadyH.nil
      go_simp
      (go_at_call 61; refine (RTPut_b ⟨0, (pageN a : Int), pg, rw, ru, rx, true⟩ (H12.new ((Chg.refl [] w5).drew)).tb).mono ?_; rintro e w6 ⟨rfl, h6, f6⟩)
      refine hK.out _ _ (by (try dsimp only); exact ⟨f6.blk hHeld.1 (by simp [mB]), f6.blk hHeld.2 (by simp)⟩) (fun hHeld => ?_)
      clear hK K
      (try simp only [Act.put, tA, tZ, tS])
      refine wpAnyH_done (by kernel_rfl) ?_ _
      refine NoPanic.normal ?_
      have H13 := (H12.new ((Chg.refl [] w5).drew)).setT h6 f6 (H12.ok.put (x := ⟨0, (pageN a : Int), pg, rw, ru, rx, true⟩) ⟨rfl, path_g0 hgl.1, hgl.2.2⟩)
      have o13 := f6.blk (o12.drew) (by simp)
      have b13 := f6.blk (b12.drew) (by simp)
      have f14 := f13.trans ((Far.of_new ((Chg.refl [] w5).drew)).trans (f6.less (G := F) (fun i hi => by simp [hi])))
      clear hHeld H12 o12 b12 f13 h6 f6
      have hW2 := hWd
      go_wp2_with fail
      refine (hW2 _).mono ?_; rintro e t1 ⟨rfl, y1⟩
      have Ht1 := H13.new y1; have ot1 := o13.chg_ y1 (by simp); have bt1 := b13.chg_ y1 (by simp)
      go_wp2_with fail
      refine wp_region_noPanic ?_
      refine wp_region_held_drew (S := (fun w' => Blk w' m 95 #[.pointer (some ⟨q, 0, none⟩), .int .i64 sr, .pointer (some ⟨t, 0, none⟩)] ∧ Blk w' gx 62 #[.int .i64 0, .int .i64 (pageN a : Int), .int .i64 pg, .bool rw, .bool ru, .bool rx, .bool true])) (by kernel_rfl) ?_ (fun hHeld => ?_)
      · exact ⟨Ht1.st.drew, bt1.drew⟩
      (refine tk 0 (some 112) (v := ?_) rfl ?_ ?_; rotate_left; · (intro w hSw; (try dsimp only at hSw); obtain ⟨hSm, hSp⟩ := hSw; obtain ⟨c0_, c1_, c2_⟩ := blk3 hSm; obtain ⟨q0_, q1_, q2_, q3_, q4_, q5_, q6_, _, _, _, _, _, _, _⟩ := blk7 hSp; go_simp; (try with_reducible rfl)))
      (try simp only [Act.put, tA, tZ, tS])
      (refine tk 1 (some 113) (v := ?_) rfl ?_ ?_; rotate_left; · (intro w hSw; (try dsimp only at hSw); obtain ⟨hSm, hSp⟩ := hSw; obtain ⟨c0_, c1_, c2_⟩ := blk3 hSm; obtain ⟨q0_, q1_, q2_, q3_, q4_, q5_, q6_, _, _, _, _, _, _, _⟩ := blk7 hSp; go_simp; (try with_reducible rfl)))
      (try simp only [Act.put, tA, tZ, tS])
      (refine tk 2 (some 114) (v := ?_) rfl ?_ ?_; rotate_left; · (intro w hSw; (try dsimp only at hSw); obtain ⟨hSm, hSp⟩ := hSw; obtain ⟨c0_, c1_, c2_⟩ := blk3 hSm; obtain ⟨q0_, q1_, q2_, q3_, q4_, q5_, q6_, _, _, _, _, _, _, _⟩ := blk7 hSp; go_simp; (try with_reducible rfl)))
      (try simp only [Act.put, tA, tZ, tS])
      (refine tk 3 (some 115) (v := ?_) rfl ?_ ?_; rotate_left; · (intro w hSw; (try dsimp only at hSw); obtain ⟨hSm, hSp⟩ := hSw; obtain ⟨c0_, c1_, c2_⟩ := blk3 hSm; obtain ⟨q0_, q1_, q2_, q3_, q4_, q5_, q6_, _, _, _, _, _, _, _⟩ := blk7 hSp; go_simp; (try with_reducible rfl)))
      (try simp only [Act.put, tA, tZ, tS])
      (refine tk 4 (some 116) (v := ?_) rfl ?_ ?_; rotate_left; · (intro w hSw; (try dsimp only at hSw); obtain ⟨hSm, hSp⟩ := hSw; obtain ⟨c0_, c1_, c2_⟩ := blk3 hSm; obtain ⟨q0_, q1_, q2_, q3_, q4_, q5_, q6_, _, _, _, _, _, _, _⟩ := blk7 hSp; go_simp; (try with_reducible rfl)))
      (try simp only [Act.put, tA, tZ, tS])
      (refine tk 5 (some 117) (v := ?_) rfl ?_ ?_; rotate_left; · (intro w hSw; (try dsimp only at hSw); obtain ⟨hSm, hSp⟩ := hSw; obtain ⟨c0_, c1_, c2_⟩ := blk3 hSm; obtain ⟨q0_, q1_, q2_, q3_, q4_, q5_, q6_, _, _, _, _, _, _, _⟩ := blk7 hSp; go_simp; (try with_reducible rfl)))
      (try simp only [Act.put, tA, tZ, tS])
      (refine tk 6 (some 118) (v := ?_) rfl ?_ ?_; rotate_left; · (intro w hSw; (try dsimp only at hSw); obtain ⟨hSm, hSp⟩ := hSw; obtain ⟨c0_, c1_, c2_⟩ := blk3 hSm; obtain ⟨q0_, q1_, q2_, q3_, q4_, q5_, q6_, _, _, _, _, _, _, _⟩ := blk7 hSp; go_simp; (try with_reducible rfl)))
      (try simp only [Act.put, tA, tZ, tS])
      (refine tk 7 (some 119) (v := ?_) rfl ?_ ?_; rotate_left; · (intro w hSw; (try dsimp only at hSw); obtain ⟨hSm, hSp⟩ := hSw; obtain ⟨c0_, c1_, c2_⟩ := blk3 hSm; obtain ⟨q0_, q1_, q2_, q3_, q4_, q5_, q6_, _, _, _, _, _, _, _⟩ := blk7 hSp; go_simp; (try with_reducible rfl)))
      (try simp only [Act.put, tA, tZ, tS])
      refine wpAnyH_ready (rs := [8]) (by kernel_rfl) (by simp) ?_; refine AllReadyH.cons (o := _) rfl (fun K hK => ?_) AllReadyH.nil
      go_simp
      (go_at_call 40; refine (RGuSet_at q S p L h b n _ pg (wordN a) v _ (Ht1.new ((Chg.refl [] t1).drew)).gu).mono ?_; rintro e t2 ⟨rfl, y2, g2⟩; have o2 := ((Ht1.new ((Chg.refl [] t1).drew)).setW y2 g2 (Ht1.ok.set _ _ hv)))
      refine hK.out _ _ (by (try dsimp only); exact ⟨o2.1.st, o2.2.blk hHeld.2 (by simp)⟩) (fun hHeld => ?_)
      clear hK K
      (try simp only [Act.put, tA, tZ, tS])
      refine wpAnyH_done (by kernel_rfl) ?_ _
      refine NoPanic.normal ?_
      have ft := (Far.of_new ((Chg.refl [] t1).drew)).trans o2.2
      have Ht2 := o2.1
      have ot2 := ft.blk ot1 (by simp)
      obtain ⟨r0, r1, r2, r3, z0, z1, z2, z3⟩ := blk4 ot2
      go_wp2_with fail
      refine bodyPost_ret (cell_ret rfl (set4 ot2) rfl Tryz.underlying39 rfl (by kernel_rfl)) rfl ?_
      have hk := chg4 (y0 := .int .i64 0) (y1 := .int .u64 0) (y2 := .int .i64 0) (y3 := .int .u64 0) (g := w.heap.size) (Chg.refl [w.heap.size] t2) (by simp)
      have hrl := (Ht2.turn (by simp) hk hs0).less (G := F) (fun i hi => by simp only [List.mem_append]; first | exact .inr hi | exact .inr (.inr hi) | exact .inr (.inr (.inr hi)))
      have hW4 := HW4.out
      clear HW4
      subst hW4
      exact ⟨rfl, hrl, (f14.trans ((Far.of_new y1).trans (ft.less (G := F) (fun i hi => by simp [hi])))).trans ⟨_, hk, by simpa using nF.out 0⟩⟩
    · go_simp
      skip
      refine hK.out _ _ (by (try dsimp only); exact Blk.alloc hHeld _) (fun hHeld => ?_)
      clear hK K
      (try simp only [Act.put, tA, tZ, tS])
      have x9 : Chg [] w1 (w1.drew.alloc (.cells #[.slice none 0 0, .int .i64 0, .bool false, .bool false, .bool false, .bool false, .bool false] 108)) := ((Chg.refl [] w1).drew).alloc _
      have hp9 : Blk (w1.drew.alloc (.cells #[.slice none 0 0, .int .i64 0, .bool false, .bool false, .bool false, .bool false, .bool false] 108)) w1.heap.size 108 #[.slice none 0 0, .int .i64 0, .bool false, .bool false, .bool false, .bool false, .bool false] := Blk.new w1.drew _ _
      refine wpAnyH_ready (rs := [11]) (by kernel_rfl) (by simp) ?_; refine AllReadyH.cons (o := _) rfl (fun K hK => ?_) AllReadyH.nil
      go_simp
      (go_at_call 59; refine (hWk _ x9).mono ?_; rintro e u1 ⟨A, c, rfl, r1, l1, y1⟩; simp only at *)
      refine hK.out _ _ (by (try dsimp only); exact hHeld.chg_ y1 (by simp)) (fun hHeld => ?_)
      clear hK K
      (try simp only [Act.put, tA, tZ, tS])
      (refine tk 12 (some 60) (v := ?_) rfl ?_ ?_; rotate_left; · (intro w hSw; (try dsimp only at hSw); go_simp; (try with_reducible rfl)))
      (try simp only [Act.put, tA, tZ, tS])
      (refine tk 13 (some 73) (v := ?_) rfl ?_ ?_; rotate_left; · (intro w hSw; (try dsimp only at hSw); go_simp; (try with_reducible rfl)))
      (try simp only [Act.put, tA, tZ, tS])
      (refine tk 14 (some 74) (v := ?_) rfl ?_ ?_; rotate_left; · (intro w hSw; (try dsimp only at hSw); go_simp; (try with_reducible rfl)))
      (try simp only [Act.put, tA, tZ, tS])
      (refine tk 15 (some 75) (v := ?_) rfl ?_ ?_; rotate_left; · (intro w hSw; (try dsimp only at hSw); go_simp; (try with_reducible rfl)))
      (try simp only [Act.put, tA, tZ, tS])
      have x0 : Chg [] w1 u1 := x9.trans y1 (by simp)
      have hp0 := hp9.chg_ y1 (by simp)
      obtain ⟨pb, hpe⟩ : ∃ pb, pb = w1.heap.size := ⟨_, rfl⟩
      have hne : m ≠ pb := by have h1 := hm1.lt; omega
      have hlo : ∀ g ∈ (Value.slice A ats.length c).ownBlock.toList, w1.heap.size ≤ g ∧ g ≠ pb := fun g hg => by have := l1 g hg; simp at this; omega
      have hpl : w1.heap.size ≤ pb := by omega
      rw [← hpe] at hp0 ⊢
      have r2 := r1
      clear r1 l1 y1 x9 hp9 hpe
      generalize hu2 : u1 = u2 at *
      clear hu2
      obtain ⟨z0, z1, z2, z3, z4, z5, z6, g0, g1, g2, g3, g4, g5, g6⟩ := blk7 hp0
      refine wpAnyH_ready (rs := [17]) (by kernel_rfl) (by simp) ?_; refine AllReadyH.cons (o := _) rfl (fun K hK => ?_) AllReadyH.nil
      go_simp
      skip
      refine hK.out _ _ (by (try dsimp only); exact far7 hHeld hne) (fun hHeld => ?_)
      clear hK K
      (try simp only [Act.put, tA, tZ, tS])
      (refine tk 18 (some 15) (v := ?_) rfl ?_ ?_; rotate_left; · (intro w hSw; (try dsimp only at hSw); go_simp; (try with_reducible rfl)))
      (try simp only [Act.put, tA, tZ, tS])
      (refine tk 19 (some 16) (v := ?_) rfl ?_ ?_; rotate_left; · (intro w hSw; (try dsimp only at hSw); go_simp; (try with_reducible rfl)))
      (try simp only [Act.put, tA, tZ, tS])
      refine wpAnyH_done (by kernel_rfl) ?_ _
      refine NoPanic.normal ?_
      have hp3 := set7 (y0 := .slice A ats.length c) (y1 := .int .i64 pg) (y2 := .bool rw) (y3 := .bool ru) (y4 := .bool rx) (y5 := .bool lg) (y6 := .bool true) hp0
      have x3 : Chg [] w1 _ := x0.trans (chg7 (y0 := .slice A ats.length c) (y1 := .int .i64 pg) (y2 := .bool rw) (y3 := .bool ru) (y4 := .bool rx) (y5 := .bool lg) (y6 := .bool true) (g := pb) (Chg.refl [pb] u2) (by simp)) (by intro i hi hm; simp at hm; subst hm; omega)
      have r3 := OwnA.chg r2 (chg7 (y0 := .slice A ats.length c) (y1 := .int .i64 pg) (y2 := .bool rw) (y3 := .bool ru) (y4 := .bool rx) (y5 := .bool lg) (y6 := .bool true) (g := pb) (Chg.refl [pb] u2) (by simp)) (fun g hg hm => by simp at hm; exact (hlo g hg).2 hm)
      have hpb := hp3.lt
      clear hHeld r2 hp0 x0 z0 z1 z2 z3 z4 z5 z6 g0 g1 g2 g3 g4 g5 g6
      generalize ((((((u2.setCell ⟨pb, 0, none⟩ (.slice A ats.length c)).setCell ⟨pb, 1, none⟩ (.int .i64 pg)).setCell ⟨pb, 2, none⟩ (.bool rw)).setCell ⟨pb, 3, none⟩ (.bool ru)).setCell ⟨pb, 4, none⟩ (.bool rx)).setCell ⟨pb, 5, none⟩ (.bool lg)).setCell ⟨pb, 6, none⟩ (.bool true) = w3 at *
      have hlo := fun g hg => (hlo g hg).1
      clear hne hWk
      have H10 := H8.more (G := [pb]) x3 (by intro i hi; simp at hi; subst hi; exact ⟨hpl, hpb⟩)
      have o10 := o8.chg_ x3 (by simp)
      have b10 := b8.chg_ x3 (by simp)
      have f10 := f9.trans (Far.of_new x3)
      clear H8 o8 b8 f9 hm1 x3
      have hsl := OwnA.sla r3
      have hap : ∀ g o, A = some ⟨g, o, none⟩ → g ≠ b := fun g o e => by have h1 := hlo g (by rw [e]; simp [Value.ownBlock]); have h2 := hbl; omega
      have hmk := fun w9 (k9 : Chg [] w3 w9) => RMark_at q S p L h b n sW A c ⟨ats, pg, ⟨rw, ru, rx⟩, lg, true⟩ true w9 (H10.gu.self k9) H10.ok.wd (hsl.self k9) hall hap
      simp only [pathV] at hmk
      have hokm := H10.ok.mark ats true
      go_wp2_with fail
      refine wp_region_noPanic ?_
      refine wp_region_held_drew (S := (fun w' => Blk w' m 95 #[.pointer (some ⟨q, 0, none⟩), .int .i64 sr, .pointer (some ⟨t, 0, none⟩)] ∧ Blk w' pb 108 #[.slice A ats.length c, .int .i64 pg, .bool rw, .bool ru, .bool rx, .bool lg, .bool true])) (by kernel_rfl) ?_ (fun hHeld => ?_)
      · exact ⟨H10.st.drew, hp3.drew⟩
      (refine tk 0 (some 82) (v := ?_) rfl ?_ ?_; rotate_left; · (intro w hSw; (try dsimp only at hSw); obtain ⟨hSm, hSp⟩ := hSw; obtain ⟨c0_, c1_, c2_⟩ := blk3 hSm; obtain ⟨z0_, z1_, z2_, z3_, z4_, z5_, z6_, _, _, _, _, _, _, _⟩ := blk7 hSp; go_simp; (try with_reducible rfl)))
      (try simp only [Act.put, tA, tZ, tS])
      (refine tk 1 (some 83) (v := ?_) rfl ?_ ?_; rotate_left; · (intro w hSw; (try dsimp only at hSw); obtain ⟨hSm, hSp⟩ := hSw; obtain ⟨c0_, c1_, c2_⟩ := blk3 hSm; obtain ⟨z0_, z1_, z2_, z3_, z4_, z5_, z6_, _, _, _, _, _, _, _⟩ := blk7 hSp; go_simp; (try with_reducible rfl)))
      (try simp only [Act.put, tA, tZ, tS])
      (refine tk 2 (some 84) (v := ?_) rfl ?_ ?_; rotate_left; · (intro w hSw; (try dsimp only at hSw); obtain ⟨hSm, hSp⟩ := hSw; obtain ⟨c0_, c1_, c2_⟩ := blk3 hSm; obtain ⟨z0_, z1_, z2_, z3_, z4_, z5_, z6_, _, _, _, _, _, _, _⟩ := blk7 hSp; go_simp; (try with_reducible rfl)))
      (try simp only [Act.put, tA, tZ, tS])
      (refine tk 3 (some 85) (v := ?_) rfl ?_ ?_; rotate_left; · (intro w hSw; (try dsimp only at hSw); obtain ⟨hSm, hSp⟩ := hSw; obtain ⟨c0_, c1_, c2_⟩ := blk3 hSm; obtain ⟨z0_, z1_, z2_, z3_, z4_, z5_, z6_, _, _, _, _, _, _, _⟩ := blk7 hSp; go_simp; (try with_reducible rfl)))
      (try simp only [Act.put, tA, tZ, tS])
      (refine tk 4 (some 86) (v := ?_) rfl ?_ ?_; rotate_left; · (intro w hSw; (try dsimp only at hSw); obtain ⟨hSm, hSp⟩ := hSw; obtain ⟨c0_, c1_, c2_⟩ := blk3 hSm; obtain ⟨z0_, z1_, z2_, z3_, z4_, z5_, z6_, _, _, _, _, _, _, _⟩ := blk7 hSp; go_simp; (try with_reducible rfl)))
      (try simp only [Act.put, tA, tZ, tS])
      (refine tk 5 (some 87) (v := ?_) rfl ?_ ?_; rotate_left; · (intro w hSw; (try dsimp only at hSw); obtain ⟨hSm, hSp⟩ := hSw; obtain ⟨c0_, c1_, c2_⟩ := blk3 hSm; obtain ⟨z0_, z1_, z2_, z3_, z4_, z5_, z6_, _, _, _, _, _, _, _⟩ := blk7 hSp; go_simp; (try with_reducible rfl)))
      (try simp only [Act.put, tA, tZ, tS])
      (refine tk 6 (some 88) (v := ?_) rfl ?_ ?_; rotate_left; · (intro w hSw; (try dsimp only at hSw); obtain ⟨hSm, hSp⟩ := hSw; obtain ⟨c0_, c1_, c2_⟩ := blk3 hSm; obtain ⟨z0_, z1_, z2_, z3_, z4_, z5_, z6_, _, _, _, _, _, _, _⟩ := blk7 hSp; go_simp; (try with_reducible rfl)))
      (try simp only [Act.put, tA, tZ, tS])
      refine wpAnyH_ready (rs := [7]) (by kernel_rfl) (by simp) ?_; refine AllReadyH.cons (o := _) rfl (fun K hK => ?_) AllReadyH.nil
      go_simp
      (go_at_call 60; refine (hmk _ ((Chg.refl [] w3).drew)).mono ?_; rintro e w4 ⟨rfl, y4, g4_⟩; have pr := (H10.new ((Chg.refl [] w3).drew)).setW y4 g4_ hokm)
      refine hK.out _ _ (by (try dsimp only); exact ⟨pr.1.st, pr.2.blk hHeld.2 (by simp)⟩) (fun hHeld => ?_)
      clear hK K
      (try simp only [Act.put, tA, tZ, tS])
      refine wpAnyH_done (by kernel_rfl) ?_ _
      refine NoPanic.normal ?_
      have f11 := (Far.of_new ((Chg.refl [] w3).drew)).trans pr.2
      have H11 := pr.1
      have o11 := f11.blk o10 (by simp)
      have b11 := f11.blk b10 (by simp)
      have p11 := f11.blk hp3 (by simp)
      clear hHeld hmk hsl hap y4 g4_ hp3 r3 H10 o10 b10 pr hokm
      generalize hW4 : markP n L ats true sW = W4 at *
      have HW4 := Lib.hid hW4
      clear hW4
      have f12 := f10.trans (f11.less (G := F) (fun i hi => by simp [hi]))
      clear f10 f11
      obtain ⟨z0_, z1_, z2_, z3_, z4_, z5_, z6_, _, _, _, _, _, _, _⟩ := blk7 p11
      obtain ⟨x0_, x1_, x2_, x3_, x4_, x5_, x6_, y0_, y1_, y2_, y3_, y4_, y5_, y6_⟩ := blk7 b11
      have hne : gx ≠ pb := fun e => by subst e; exact Blk.type_ne b11 p11 (by decide) rfl
      have hne2 : ¬ pb = gx := fun e => hne e.symm
      go_wp2_with fail
      have hk7 := chg7 (y0 := .int .i64 0) (y1 := .int .i64 (pageN a : Int)) (y2 := .int .i64 pg) (y3 := .bool rw) (y4 := .bool ru) (y5 := .bool rx) (y6 := .bool true) (g := gx) (Chg.refl [gx] w4) (by simp)
      have H12 := H11.turn (by simp) hk7 hgx.1
      have o12 := o11.chg_ hk7 (by simpa using hgx.2)
      have b12 := set7 (y0 := .int .i64 0) (y1 := .int .i64 (pageN a : Int)) (y2 := .int .i64 pg) (y3 := .bool rw) (y4 := .bool ru) (y5 := .bool rx) (y6 := .bool true) b11
      have f13 := f12.trans ⟨_, hk7, by simp; exact hgF⟩
      generalize ((((((w4.setCell ⟨gx, 0, none⟩ (.int .i64 0)).setCell ⟨gx, 1, none⟩ (.int .i64 (pageN a : Int))).setCell ⟨gx, 2, none⟩ (.int .i64 pg)).setCell ⟨gx, 3, none⟩ (.bool rw)).setCell ⟨gx, 4, none⟩ (.bool ru)).setCell ⟨gx, 5, none⟩ (.bool rx)).setCell ⟨gx, 6, none⟩ (.bool true) = w5 at *
      clear hk7 H11 o11 b11 p11 f12 z0_ z1_ z2_ z3_ z4_ z5_ z6_ x0_ x1_ x2_ x3_ x4_ x5_ x6_ y0_ y1_ y2_ y3_ y4_ y5_ y6_
      refine wp_region_noPanic ?_
      refine wp_region_held_drew (S := (fun w' => Blk w' m 95 #[.pointer (some ⟨q, 0, none⟩), .int .i64 sr, .pointer (some ⟨t, 0, none⟩)] ∧ Blk w' gx 62 #[.int .i64 0, .int .i64 (pageN a : Int), .int .i64 pg, .bool rw, .bool ru, .bool rx, .bool true])) (by kernel_rfl) ?_ (fun hHeld => ?_)
      · exact ⟨H12.st.drew, b12.drew⟩
      (refine tk 0 (some 102) (v := ?_) rfl ?_ ?_; rotate_left; · (intro w hSw; (try dsimp only at hSw); obtain ⟨hSm, hSp⟩ := hSw; obtain ⟨c0_, c1_, c2_⟩ := blk3 hSm; obtain ⟨q0_, q1_, q2_, q3_, q4_, q5_, q6_, _, _, _, _, _, _, _⟩ := blk7 hSp; go_simp; (try with_reducible rfl)))
      (try simp only [Act.put, tA, tZ, tS])
      (refine tk 1 (some 103) (v := ?_) rfl ?_ ?_; rotate_left; · (intro w hSw; (try dsimp only at hSw); obtain ⟨hSm, hSp⟩ := hSw; obtain ⟨c0_, c1_, c2_⟩ := blk3 hSm; obtain ⟨q0_, q1_, q2_, q3_, q4_, q5_, q6_, _, _, _, _, _, _, _⟩ := blk7 hSp; go_simp; (try with_reducible rfl)))
      (try simp only [Act.put, tA, tZ, tS])
      (refine tk 2 (some 104) (v := ?_) rfl ?_ ?_; rotate_left; · (intro w hSw; (try dsimp only at hSw); obtain ⟨hSm, hSp⟩ := hSw; obtain ⟨c0_, c1_, c2_⟩ := blk3 hSm; obtain ⟨q0_, q1_, q2_, q3_, q4_, q5_, q6_, _, _, _, _, _, _, _⟩ := blk7 hSp; go_simp; (try with_reducible rfl)))
      (try simp only [Act.put, tA, tZ, tS])
      (refine tk 3 (some 105) (v := ?_) rfl ?_ ?_; rotate_left; · (intro w hSw; (try dsimp only at hSw); obtain ⟨hSm, hSp⟩ := hSw; obtain ⟨c0_, c1_, c2_⟩ := blk3 hSm; obtain ⟨q0_, q1_, q2_, q3_, q4_, q5_, q6_, _, _, _, _, _, _, _⟩ := blk7 hSp; go_simp; (try with_reducible rfl)))
      (try simp only [Act.put, tA, tZ, tS])
      (refine tk 4 (some 106) (v := ?_) rfl ?_ ?_; rotate_left; · (intro w hSw; (try dsimp only at hSw); obtain ⟨hSm, hSp⟩ := hSw; obtain ⟨c0_, c1_, c2_⟩ := blk3 hSm; obtain ⟨q0_, q1_, q2_, q3_, q4_, q5_, q6_, _, _, _, _, _, _, _⟩ := blk7 hSp; go_simp; (try with_reducible rfl)))
      (try simp only [Act.put, tA, tZ, tS])
      refine wpAnyH_ready (rs := [5]) (by kernel_rfl) (by simp) ?_; refine AllReadyH.cons (o := _) rfl (fun K hK => ?_) AllReadyH.nil
      go_simp
      (go_at_call 61; refine (RTPut_b ⟨0, (pageN a : Int), pg, rw, ru, rx, true⟩ (H12.new ((Chg.refl [] w5).drew)).tb).mono ?_; rintro e w6 ⟨rfl, h6, f6⟩)
      refine hK.out _ _ (by (try dsimp only); exact ⟨f6.blk hHeld.1 (by simp [mB]), f6.blk hHeld.2 (by simp)⟩) (fun hHeld => ?_)
      clear hK K
      (try simp only [Act.put, tA, tZ, tS])
      refine wpAnyH_done (by kernel_rfl) ?_ _
      refine NoPanic.normal ?_
      have H13 := (H12.new ((Chg.refl [] w5).drew)).setT h6 f6 (H12.ok.put (x := ⟨0, (pageN a : Int), pg, rw, ru, rx, true⟩) ⟨rfl, path_g0 hgl.1, hgl.2.2⟩)
      have o13 := f6.blk (o12.drew) (by simp)
      have b13 := f6.blk (b12.drew) (by simp)
      have f14 := f13.trans ((Far.of_new ((Chg.refl [] w5).drew)).trans (f6.less (G := F) (fun i hi => by simp [hi])))
      clear hHeld H12 o12 b12 f13 h6 f6
      have hW2 := hWd
      go_wp2_with fail
      refine (hW2 _).mono ?_; rintro e t1 ⟨rfl, y1⟩
      have Ht1 := H13.new y1; have ot1 := o13.chg_ y1 (by simp); have bt1 := b13.chg_ y1 (by simp)
      go_wp2_with fail
      refine wp_region_noPanic ?_
      refine wp_region_held_drew (S := (fun w' => Blk w' m 95 #[.pointer (some ⟨q, 0, none⟩), .int .i64 sr, .pointer (some ⟨t, 0, none⟩)] ∧ Blk w' gx 62 #[.int .i64 0, .int .i64 (pageN a : Int), .int .i64 pg, .bool rw, .bool ru, .bool rx, .bool true])) (by kernel_rfl) ?_ (fun hHeld => ?_)
      · exact ⟨Ht1.st.drew, bt1.drew⟩
      (refine tk 0 (some 112) (v := ?_) rfl ?_ ?_; rotate_left; · (intro w hSw; (try dsimp only at hSw); obtain ⟨hSm, hSp⟩ := hSw; obtain ⟨c0_, c1_, c2_⟩ := blk3 hSm; obtain ⟨q0_, q1_, q2_, q3_, q4_, q5_, q6_, _, _, _, _, _, _, _⟩ := blk7 hSp; go_simp; (try with_reducible rfl)))
      (try simp only [Act.put, tA, tZ, tS])
      (refine tk 1 (some 113) (v := ?_) rfl ?_ ?_; rotate_left; · (intro w hSw; (try dsimp only at hSw); obtain ⟨hSm, hSp⟩ := hSw; obtain ⟨c0_, c1_, c2_⟩ := blk3 hSm; obtain ⟨q0_, q1_, q2_, q3_, q4_, q5_, q6_, _, _, _, _, _, _, _⟩ := blk7 hSp; go_simp; (try with_reducible rfl)))
      (try simp only [Act.put, tA, tZ, tS])
      (refine tk 2 (some 114) (v := ?_) rfl ?_ ?_; rotate_left; · (intro w hSw; (try dsimp only at hSw); obtain ⟨hSm, hSp⟩ := hSw; obtain ⟨c0_, c1_, c2_⟩ := blk3 hSm; obtain ⟨q0_, q1_, q2_, q3_, q4_, q5_, q6_, _, _, _, _, _, _, _⟩ := blk7 hSp; go_simp; (try with_reducible rfl)))
      (try simp only [Act.put, tA, tZ, tS])
      (refine tk 3 (some 115) (v := ?_) rfl ?_ ?_; rotate_left; · (intro w hSw; (try dsimp only at hSw); obtain ⟨hSm, hSp⟩ := hSw; obtain ⟨c0_, c1_, c2_⟩ := blk3 hSm; obtain ⟨q0_, q1_, q2_, q3_, q4_, q5_, q6_, _, _, _, _, _, _, _⟩ := blk7 hSp; go_simp; (try with_reducible rfl)))
      (try simp only [Act.put, tA, tZ, tS])
      (refine tk 4 (some 116) (v := ?_) rfl ?_ ?_; rotate_left; · (intro w hSw; (try dsimp only at hSw); obtain ⟨hSm, hSp⟩ := hSw; obtain ⟨c0_, c1_, c2_⟩ := blk3 hSm; obtain ⟨q0_, q1_, q2_, q3_, q4_, q5_, q6_, _, _, _, _, _, _, _⟩ := blk7 hSp; go_simp; (try with_reducible rfl)))
      (try simp only [Act.put, tA, tZ, tS])
      (refine tk 5 (some 117) (v := ?_) rfl ?_ ?_; rotate_left; · (intro w hSw; (try dsimp only at hSw); obtain ⟨hSm, hSp⟩ := hSw; obtain ⟨c0_, c1_, c2_⟩ := blk3 hSm; obtain ⟨q0_, q1_, q2_, q3_, q4_, q5_, q6_, _, _, _, _, _, _, _⟩ := blk7 hSp; go_simp; (try with_reducible rfl)))
      (try simp only [Act.put, tA, tZ, tS])
      (refine tk 6 (some 118) (v := ?_) rfl ?_ ?_; rotate_left; · (intro w hSw; (try dsimp only at hSw); obtain ⟨hSm, hSp⟩ := hSw; obtain ⟨c0_, c1_, c2_⟩ := blk3 hSm; obtain ⟨q0_, q1_, q2_, q3_, q4_, q5_, q6_, _, _, _, _, _, _, _⟩ := blk7 hSp; go_simp; (try with_reducible rfl)))
      (try simp only [Act.put, tA, tZ, tS])
      (refine tk 7 (some 119) (v := ?_) rfl ?_ ?_; rotate_left; · (intro w hSw; (try dsimp only at hSw); obtain ⟨hSm, hSp⟩ := hSw; obtain ⟨c0_, c1_, c2_⟩ := blk3 hSm; obtain ⟨q0_, q1_, q2_, q3_, q4_, q5_, q6_, _, _, _, _, _, _, _⟩ := blk7 hSp; go_simp; (try with_reducible rfl)))
      (try simp only [Act.put, tA, tZ, tS])
      refine wpAnyH_ready (rs := [8]) (by kernel_rfl) (by simp) ?_; refine AllReadyH.cons (o := _) rfl (fun K hK => ?_) AllReadyH.nil
      go_simp
      (go_at_call 40; refine (RGuSet_at q S p L h b n _ pg (wordN a) v _ (Ht1.new ((Chg.refl [] t1).drew)).gu).mono ?_; rintro e t2 ⟨rfl, y2, g2⟩; have o2 := ((Ht1.new ((Chg.refl [] t1).drew)).setW y2 g2 (Ht1.ok.set _ _ hv)))
      refine hK.out _ _ (by (try dsimp only); exact ⟨o2.1.st, o2.2.blk hHeld.2 (by simp)⟩) (fun hHeld => ?_)
      clear hK K
      (try simp only [Act.put, tA, tZ, tS])
      refine wpAnyH_done (by kernel_rfl) ?_ _
      refine NoPanic.normal ?_
      have ft := (Far.of_new ((Chg.refl [] t1).drew)).trans o2.2
      have Ht2 := o2.1
      have ot2 := ft.blk ot1 (by simp)
      obtain ⟨r0, r1, r2, r3, z0, z1, z2, z3⟩ := blk4 ot2
      go_wp2_with fail
      refine bodyPost_ret (cell_ret rfl (set4 ot2) rfl Tryz.underlying39 rfl (by kernel_rfl)) rfl ?_
      have hk := chg4 (y0 := .int .i64 0) (y1 := .int .u64 0) (y2 := .int .i64 0) (y3 := .int .u64 0) (g := w.heap.size) (Chg.refl [w.heap.size] t2) (by simp)
      have hrl := (Ht2.turn (by simp) hk hs0).less (G := F) (fun i hi => by simp only [List.mem_append]; first | exact .inr hi | exact .inr (.inr hi) | exact .inr (.inr (.inr hi)))
      have hW4 := HW4.out
      clear HW4
      subst hW4
      exact ⟨rfl, hrl, (f14.trans ((Far.of_new y1).trans (ft.less (G := F) (fun i hi => by simp [hi])))).trans ⟨_, hk, by simpa using nF.out 0⟩⟩

set_option maxRecDepth 100000 in
set_option maxHeartbeats 16000000 in
theorem racc_go_st_false (k : Int) (u : Bool) (a : Nat) (v : Int) (ha : a < 18446744073709551616) (hv : 0 ≤ v ∧ v < 18446744073709551616) (H : RModB w0 F w m t q S p L h b n s) (P : Pa) (h1 : aliB a = true) (h2 : canB a = true) (hns : (hasT s.T 0 (pageN a : Int) && servesB (getT s.T 0 (pageN a : Int)) k u) = false) (hr : walkP n s.W L s.r (pageN a : Int) k u = (P, 0, 0)) (hdy : P.dirty = false) (hk : k = 1) :
    Calls Tryz.prog 15 #[.pointer (some ⟨m, 0, none⟩), .int .i64 k, .bool u, .int .u64 a, .int .u64 v] w fun e w' => e = .returned (.agg #[.int .i64 0, .int .u64 0, .int .i64 0, .int .u64 0]) ∧ RModB w0 F w' m t q S p L h b n ⟨setG n (markP n L P.ats (k == 1) s.W) L P.g (wordN a) v, s.r, putT 512 (dropT s.T 0 (pageN a : Int)) (hitP (pageN a : Int) P (k == 1))⟩ ∧ Far F w w' := by
  subst hk
  have hlen := walk_len hr
  have hall : P.ats.length ≤ 9223372036854775807 := by omega
  have hgl := (done_of hr).2
  have hit0 : hitP (pageN a : Int) P true = ⟨0, (pageN a : Int), P.g, P.r.w, P.r.u, P.r.x, true⟩ := by unfold hitP; rw [hdy]; rfl
  rw [show ((1 : Int) == 1) = true from rfl]
  rw [hit0]
  clear hit0
  have hc1 : Chg [] w (w.alloc (.cells #[.int .i64 0, .int .u64 0, .int .i64 0, .int .u64 0] 39)) := (Chg.refl [] w).alloc _
  have o1 := Blk.new w 39 #[.int .i64 0, .int .u64 0, .int .i64 0, .int .u64 0]
  have H1 := H.more (G := [w.heap.size]) hc1 (by intro i hi; simp at hi; subst hi; simp)
  have hs0 := H.c0.size
  have nF : Hid (∀ j, w.heap.size + j ∉ F) := Lib.hid (fun j hm => by have := H.tb.2.1 _ (List.mem_append.2 (.inr hm)); omega)
  have hAl := fun w9 => (RAligned_any a w9 ha).mono fun e w' (h : _ ∧ _) => (⟨h.1, by first | exact h.2.chg | exact h.2 ▸ Chg.refl [] w9⟩ : _ ∧ Chg [] w9 w')
  have hCa := fun w9 => (RCanon_any a w9 ha).mono fun e w' (h : _ ∧ _) => (⟨h.1, by first | exact h.2.chg | exact h.2 ▸ Chg.refl [] w9⟩ : _ ∧ Chg [] w9 w')
  have hPg := fun w9 => (RPage_any a w9 ha).mono fun e w' (h : _ ∧ _) => (⟨h.1, by first | exact h.2.chg | exact h.2 ▸ Chg.refl [] w9⟩ : _ ∧ Chg [] w9 w')
  have hWd := fun w9 => (RWord_any a w9 ha).mono fun e w' (h : _ ∧ _) => (⟨h.1, by first | exact h.2.chg | exact h.2 ▸ Chg.refl [] w9⟩ : _ ∧ Chg [] w9 w')
  rw [h1] at hAl
  rw [h2] at hCa
  have hKn := fun F w9 (H9 : RModB w0 F w9 m t q S p L h b n s) => RMKnown_b (pageN a : Int) H9
  generalize hX : getT s.T 0 (pageN a : Int) = X at *
  generalize hU : hasT s.T 0 (pageN a : Int) = U at *
  clear hX hU
  obtain ⟨xa, xp, xf, xw, xu, xx, xd⟩ := X
  simp only [Ht.v, Ht.rg, servesB] at *
  obtain ⟨sW, sr, sT⟩ := s
  simp only at *
  have hM := fun w9 => RMay_any ⟨xw, xu, xx⟩ 1 u w9
  generalize mayB ⟨xw, xu, xx⟩ 1 u = my at *
  simp only [Rg.cs] at hM
  have hWk0 := fun F w9 (H9 : RModB w0 F w9 m t q S p L h b n ⟨sW, sr, dropT sT 0 (pageN a : Int)⟩) => H9.walk (pageN a : Int) 1 u P 0 0 hr
  simp only at hWk0
  have hFo := fun F w9 (H9 : RModB w0 F w9 m t q S p L h b n ⟨sW, sr, sT⟩) => RMForget_b (pageN a : Int) H9
  simp only [forgetM] at hFo
  obtain ⟨ats, pg, ⟨rw, ru, rx⟩, lg, dy⟩ := P
  simp only at hdy
  subst hdy
  simp only [pathV] at *
  go_enter Tryz.func15, Tryz.ntmps15
  go_wp2_with fail
  refine (hAl _).mono ?_; rintro e w2 ⟨rfl, y2⟩
  have o2 := o1.chg_ y2 (by simp)
  have H2 := H1.new y2
  go_wp2_with fail
  refine (hCa _).mono ?_; rintro e w3 ⟨rfl, y3⟩
  have o3 := o2.chg_ y3 (by simp)
  have H3 := H2.new y3
  go_wp2_with fail
  refine (hPg _).mono ?_; rintro e w4 ⟨rfl, y4⟩
  have o4 := o3.chg_ y4 (by simp)
  have H4 := H3.new y4
  have k4 := ((hc1.trans y2 (by simp)).trans y3 (by simp)).trans y4 (by simp)
  clear o1 o2 o3 H1 H2 H3 y2 y3 y4 hAl hCa hPg hc1
  go_wp2_with fail
  refine (hKn _ _ H4).mono ?_; rintro e w5 ⟨rfl, y5⟩
  have al := (Chg.refl [] w5).alloc (.cells #[.int .i64 xa, .int .i64 xp, .int .i64 xf, .bool xw, .bool xu, .bool xx, .bool xd] 62)
  have y6 := y5.trans al (by simp)
  have H6 := H4.more (G := [w5.heap.size]) y6 (by intro i hi; simp at hi; subst hi; exact ⟨y5.size, by simp⟩)
  have o6 := o4.chg_ y6 (by simp)
  have b6 := Blk.new w5 62 #[.int .i64 xa, .int .i64 xp, .int .i64 xf, .bool xw, .bool xu, .bool xx, .bool xd]
  have k6 := k4.trans y6 (by simp)
  have hgx : w0.heap.size ≤ w5.heap.size ∧ w.heap.size ≠ w5.heap.size := ⟨Nat.le_trans hs0 (Nat.le_trans k4.size y5.size), by have := o4.lt; have := y5.size; omega⟩
  have hgF : w5.heap.size ∉ F := fun hm => by have h1 := H4.tb.2.1 _ (List.mem_append.2 (.inr (List.mem_append.2 (.inr hm)))); have h2 := y5.size; omega
  clear H4 o4 k4 y5 al y6 hKn
  obtain ⟨x0_, x1_, x2_, x3_, x4_, x5_, x6_, _, _, _, _, _, _, _⟩ := blk7 b6
  go_upto_region 7 with fail
  generalize w5.alloc (.cells #[.int .i64 xa, .int .i64 xp, .int .i64 xf, .bool xw, .bool xu, .bool xx, .bool xd] 62) = w6 at *
  generalize w5.heap.size = gx at *
  go_cut [56] from 38 to 56 (fun cv wx => cv = .bool true ∧ Chg [] w6 wx)
  case first =>
    clear hWk0 hFo
    cases U
    case false =>
      go_wp2_with fail
      go_meet
      exact ⟨rfl, Chg.refl [] _⟩
    case true =>
      cases my
      case false =>
        go_wp2_with fail
        refine (hM _).mono ?_; rintro e w7 ⟨rfl, y7⟩
        obtain ⟨x0b, x1b, x2b, x3b, x4b, x5b, x6b, _, _, _, _, _, _, _⟩ := blk7 (b6.chg_ y7 (by simp))
        go_wp2_with fail
        go_meet
        exact ⟨rfl, y7⟩
      case true =>
        obtain rfl : xd = false := by simpa using hns
        go_wp2_with fail
        refine (hM _).mono ?_; rintro e w7 ⟨rfl, y7⟩
        obtain ⟨x0b, x1b, x2b, x3b, x4b, x5b, x6b, _, _, _, _, _, _, _⟩ := blk7 (b6.chg_ y7 (by simp))
        go_wp2_with fail
        go_meet
        exact ⟨rfl, y7⟩
  case rest =>
    obtain ⟨rfl, y7⟩ := hcut
    have H7 := H6.new y7; have o7 := o6.chg_ y7 (by simp); have b7 := b6.chg_ y7 (by simp); have k7 := k6.trans y7 (by simp)
    clear H6 o6 b6 k6 y7 x0_ x1_ x2_ x3_ x4_ x5_ x6_ hM hns
    go_wp2_with fail
    refine (hFo _ _ H7).mono ?_; rintro e w1 ⟨rfl, H8, f8⟩
    have o8 := f8.blk o7 (by simp)
    have b8 := f8.blk b7 (by simp)
    have hm1 : Blk w1 m 95 #[.pointer (some ⟨q, 0, none⟩), .int .i64 sr, .pointer (some ⟨t, 0, none⟩)] := H8.st
    have hbl := H8.lt b (by simp [mB])
    have hWk := hWk0 _ w1 H8
    have f9 := (Far.of_new (F := F) k7).trans (f8.less (fun i hi => by simp [hi]))
    clear hFo hWk0 H7 o7 b7 f8 k7
    go_wp2_with fail
    refine wp_region_noPanic ?_
    refine wp_region_held_drew (S := (fun w' => Blk w' m 95 #[.pointer (some ⟨q, 0, none⟩), .int .i64 sr, .pointer (some ⟨t, 0, none⟩)])) (by kernel_rfl) ?_ (fun hHeld => ?_)
    · exact hm1.drew
    (refine tk 0 (some 61) (v := ?_) rfl ?_ ?_; rotate_left; · (intro w hSw; (try dsimp only at hSw); obtain ⟨c0_, c1_, c2_⟩ := blk3 hSw; go_simp; (try with_reducible rfl)))
    (try simp only [Act.put, tA, tZ, tS])
    (refine tk 1 (some 62) (v := ?_) rfl ?_ ?_; rotate_left; · (intro w hSw; (try dsimp only at hSw); obtain ⟨c0_, c1_, c2_⟩ := blk3 hSw; go_simp; (try with_reducible rfl)))
    (try simp only [Act.put, tA, tZ, tS])
    (refine tk 2 (some 63) (v := ?_) rfl ?_ ?_; rotate_left; · (intro w hSw; (try dsimp only at hSw); obtain ⟨c0_, c1_, c2_⟩ := blk3 hSw; go_simp; (try with_reducible rfl)))
    (try simp only [Act.put, tA, tZ, tS])
    (refine tk 3 (some 64) (v := ?_) rfl ?_ ?_; rotate_left; · (intro w hSw; (try dsimp only at hSw); obtain ⟨c0_, c1_, c2_⟩ := blk3 hSw; go_simp; (try with_reducible rfl)))
    (try simp only [Act.put, tA, tZ, tS])
    (refine tk 4 (some 65) (v := ?_) rfl ?_ ?_; rotate_left; · (intro w hSw; (try dsimp only at hSw); obtain ⟨c0_, c1_, c2_⟩ := blk3 hSw; go_simp; (try with_reducible rfl)))
    (try simp only [Act.put, tA, tZ, tS])
    (refine tk 5 (some 66) (v := ?_) rfl ?_ ?_; rotate_left; · (intro w hSw; (try dsimp only at hSw); obtain ⟨c0_, c1_, c2_⟩ := blk3 hSw; go_simp; (try with_reducible rfl)))
    (try simp only [Act.put, tA, tZ, tS])
    (refine tk 6 (some 67) (v := ?_) rfl ?_ ?_; rotate_left; · (intro w hSw; (try dsimp only at hSw); obtain ⟨c0_, c1_, c2_⟩ := blk3 hSw; go_simp; (try with_reducible rfl)))
    (try simp only [Act.put, tA, tZ, tS])
    (refine tk 7 (some 68) (v := ?_) rfl ?_ ?_; rotate_left; · (intro w hSw; (try dsimp only at hSw); obtain ⟨c0_, c1_, c2_⟩ := blk3 hSw; go_simp; (try with_reducible rfl)))
    (try simp only [Act.put, tA, tZ, tS])
    (refine tk 8 (some 69) (v := ?_) rfl ?_ ?_; rotate_left; · (intro w hSw; (try dsimp only at hSw); obtain ⟨c0_, c1_, c2_⟩ := blk3 hSw; go_simp; (try with_reducible rfl)))
    (try simp only [Act.put, tA, tZ, tS])
    (refine tk 9 (some 70) (v := ?_) rfl ?_ ?_; rotate_left; · (intro w hSw; (try dsimp only at hSw); obtain ⟨c0_, c1_, c2_⟩ := blk3 hSw; go_simp; (try with_reducible rfl)))
    (try simp only [Act.put, tA, tZ, tS])
    (refine tk 10 (some 71) (v := ?_) rfl ?_ ?_; rotate_left; · (intro w hSw; (try dsimp only at hSw); obtain ⟨c0_, c1_, c2_⟩ := blk3 hSw; go_simp; (try with_reducible rfl)))
    (try simp only [Act.put, tA, tZ, tS])
    refine wpAnyH_ready (rs := [11, 16]) (by kernel_rfl) (by simp) ?_; refine AllReadyH.cons (o := _) rfl (fun K hK => ?_) (AllReadyH.cons (o := _) rfl (fun K hK => ?_) AllReadyH.nil)
    · go_simp
      (go_at_call 59; refine (hWk _ ((Chg.refl [] w1).drew)).mono ?_; rintro e u1 ⟨A, c, rfl, r1, l1, y1⟩; simp only at *)
      refine hK.out _ _ (by (try dsimp only); exact hHeld.chg_ y1 (by simp)) (fun hHeld => ?_)
      clear hK K
      (try simp only [Act.put, tA, tZ, tS])
      (refine tk 12 (some 60) (v := ?_) rfl ?_ ?_; rotate_left; · (intro w hSw; (try dsimp only at hSw); go_simp; (try with_reducible rfl)))
      (try simp only [Act.put, tA, tZ, tS])
      (refine tk 13 (some 73) (v := ?_) rfl ?_ ?_; rotate_left; · (intro w hSw; (try dsimp only at hSw); go_simp; (try with_reducible rfl)))
      (try simp only [Act.put, tA, tZ, tS])
      (refine tk 14 (some 74) (v := ?_) rfl ?_ ?_; rotate_left; · (intro w hSw; (try dsimp only at hSw); go_simp; (try with_reducible rfl)))
      (try simp only [Act.put, tA, tZ, tS])
      (refine tk 15 (some 75) (v := ?_) rfl ?_ ?_; rotate_left; · (intro w hSw; (try dsimp only at hSw); go_simp; (try with_reducible rfl)))
      (try simp only [Act.put, tA, tZ, tS])
      refine wpAnyH_ready (rs := [16]) (by kernel_rfl) (by simp) ?_; refine AllReadyH.cons (o := _) rfl (fun K hK => ?_) AllReadyH.nil
      go_simp
      skip
      refine hK.out _ _ (by (try dsimp only); exact Blk.alloc hHeld _) (fun hHeld => ?_)
      clear hK K
      (try simp only [Act.put, tA, tZ, tS])
      have x0 : Chg [] w1 (u1.alloc (.cells #[.slice none 0 0, .int .i64 0, .bool false, .bool false, .bool false, .bool false, .bool false] 108)) := (((Chg.refl [] w1).drew).trans y1 (by simp)).alloc _
      have hp0 := Blk.new u1 108 #[.slice none 0 0, .int .i64 0, .bool false, .bool false, .bool false, .bool false, .bool false]
      have hne : m ≠ u1.heap.size := by have h1 := hm1.lt; have h2 := x0.size; have h3 := y1.size; simp at h2 h3; omega
      have hlo : ∀ g ∈ (Value.slice A ats.length c).ownBlock.toList, w1.heap.size ≤ g ∧ g ≠ u1.heap.size := fun g hg => ⟨by simpa using l1 g hg, by have := OwnA.lt r1 g hg; omega⟩
      have r2 := OwnA.self r1 ((Chg.refl [] u1).alloc (.cells #[.slice none 0 0, .int .i64 0, .bool false, .bool false, .bool false, .bool false, .bool false] 108))
      have hpl : w1.heap.size ≤ u1.heap.size := by simpa using y1.size
      clear r1 l1 y1
      generalize hu2 : u1.alloc (.cells #[.slice none 0 0, .int .i64 0, .bool false, .bool false, .bool false, .bool false, .bool false] 108) = u2 at *
      generalize u1.heap.size = pb at *
      clear hu2
      obtain ⟨z0, z1, z2, z3, z4, z5, z6, g0, g1, g2, g3, g4, g5, g6⟩ := blk7 hp0
      refine wpAnyH_ready (rs := [17]) (by kernel_rfl) (by simp) ?_; refine AllReadyH.cons (o := _) rfl (fun K hK => ?_) AllReadyH.nil
      go_simp
      skip
      refine hK.out _ _ (by (try dsimp only); exact far7 hHeld hne) (fun hHeld => ?_)
      clear hK K
      (try simp only [Act.put, tA, tZ, tS])
      (refine tk 18 (some 15) (v := ?_) rfl ?_ ?_; rotate_left; · (intro w hSw; (try dsimp only at hSw); go_simp; (try with_reducible rfl)))
      (try simp only [Act.put, tA, tZ, tS])
      (refine tk 19 (some 16) (v := ?_) rfl ?_ ?_; rotate_left; · (intro w hSw; (try dsimp only at hSw); go_simp; (try with_reducible rfl)))
      (try simp only [Act.put, tA, tZ, tS])
      refine wpAnyH_done (by kernel_rfl) ?_ _
      refine NoPanic.normal ?_
      have hp3 := set7 (y0 := .slice A ats.length c) (y1 := .int .i64 pg) (y2 := .bool rw) (y3 := .bool ru) (y4 := .bool rx) (y5 := .bool lg) (y6 := .bool false) hp0
      have x3 : Chg [] w1 _ := x0.trans (chg7 (y0 := .slice A ats.length c) (y1 := .int .i64 pg) (y2 := .bool rw) (y3 := .bool ru) (y4 := .bool rx) (y5 := .bool lg) (y6 := .bool false) (g := pb) (Chg.refl [pb] u2) (by simp)) (by intro i hi hm; simp at hm; subst hm; omega)
      have r3 := OwnA.chg r2 (chg7 (y0 := .slice A ats.length c) (y1 := .int .i64 pg) (y2 := .bool rw) (y3 := .bool ru) (y4 := .bool rx) (y5 := .bool lg) (y6 := .bool false) (g := pb) (Chg.refl [pb] u2) (by simp)) (fun g hg hm => by simp at hm; exact (hlo g hg).2 hm)
      have hpb := hp3.lt
      clear hHeld r2 hp0 x0 z0 z1 z2 z3 z4 z5 z6 g0 g1 g2 g3 g4 g5 g6
      generalize ((((((u2.setCell ⟨pb, 0, none⟩ (.slice A ats.length c)).setCell ⟨pb, 1, none⟩ (.int .i64 pg)).setCell ⟨pb, 2, none⟩ (.bool rw)).setCell ⟨pb, 3, none⟩ (.bool ru)).setCell ⟨pb, 4, none⟩ (.bool rx)).setCell ⟨pb, 5, none⟩ (.bool lg)).setCell ⟨pb, 6, none⟩ (.bool false) = w3 at *
      have hlo := fun g hg => (hlo g hg).1
      clear hne hWk
      have H10 := H8.more (G := [pb]) x3 (by intro i hi; simp at hi; subst hi; exact ⟨hpl, hpb⟩)
      have o10 := o8.chg_ x3 (by simp)
      have b10 := b8.chg_ x3 (by simp)
      have f10 := f9.trans (Far.of_new x3)
      clear H8 o8 b8 f9 hm1 x3
      have hsl := OwnA.sla r3
      have hap : ∀ g o, A = some ⟨g, o, none⟩ → g ≠ b := fun g o e => by have h1 := hlo g (by rw [e]; simp [Value.ownBlock]); have h2 := hbl; omega
      have hmk := fun w9 (k9 : Chg [] w3 w9) => RMark_at q S p L h b n sW A c ⟨ats, pg, ⟨rw, ru, rx⟩, lg, false⟩ true w9 (H10.gu.self k9) H10.ok.wd (hsl.self k9) hall hap
      simp only [pathV] at hmk
      have hokm := H10.ok.mark ats true
      go_wp2_with fail
      refine wp_region_noPanic ?_
      refine wp_region_held_drew (S := (fun w' => Blk w' m 95 #[.pointer (some ⟨q, 0, none⟩), .int .i64 sr, .pointer (some ⟨t, 0, none⟩)] ∧ Blk w' pb 108 #[.slice A ats.length c, .int .i64 pg, .bool rw, .bool ru, .bool rx, .bool lg, .bool false])) (by kernel_rfl) ?_ (fun hHeld => ?_)
      · exact ⟨H10.st.drew, hp3.drew⟩
      (refine tk 0 (some 82) (v := ?_) rfl ?_ ?_; rotate_left; · (intro w hSw; (try dsimp only at hSw); obtain ⟨hSm, hSp⟩ := hSw; obtain ⟨c0_, c1_, c2_⟩ := blk3 hSm; obtain ⟨z0_, z1_, z2_, z3_, z4_, z5_, z6_, _, _, _, _, _, _, _⟩ := blk7 hSp; go_simp; (try with_reducible rfl)))
      (try simp only [Act.put, tA, tZ, tS])
      (refine tk 1 (some 83) (v := ?_) rfl ?_ ?_; rotate_left; · (intro w hSw; (try dsimp only at hSw); obtain ⟨hSm, hSp⟩ := hSw; obtain ⟨c0_, c1_, c2_⟩ := blk3 hSm; obtain ⟨z0_, z1_, z2_, z3_, z4_, z5_, z6_, _, _, _, _, _, _, _⟩ := blk7 hSp; go_simp; (try with_reducible rfl)))
      (try simp only [Act.put, tA, tZ, tS])
      (refine tk 2 (some 84) (v := ?_) rfl ?_ ?_; rotate_left; · (intro w hSw; (try dsimp only at hSw); obtain ⟨hSm, hSp⟩ := hSw; obtain ⟨c0_, c1_, c2_⟩ := blk3 hSm; obtain ⟨z0_, z1_, z2_, z3_, z4_, z5_, z6_, _, _, _, _, _, _, _⟩ := blk7 hSp; go_simp; (try with_reducible rfl)))
      (try simp only [Act.put, tA, tZ, tS])
      (refine tk 3 (some 85) (v := ?_) rfl ?_ ?_; rotate_left; · (intro w hSw; (try dsimp only at hSw); obtain ⟨hSm, hSp⟩ := hSw; obtain ⟨c0_, c1_, c2_⟩ := blk3 hSm; obtain ⟨z0_, z1_, z2_, z3_, z4_, z5_, z6_, _, _, _, _, _, _, _⟩ := blk7 hSp; go_simp; (try with_reducible rfl)))
      (try simp only [Act.put, tA, tZ, tS])
      (refine tk 4 (some 86) (v := ?_) rfl ?_ ?_; rotate_left; · (intro w hSw; (try dsimp only at hSw); obtain ⟨hSm, hSp⟩ := hSw; obtain ⟨c0_, c1_, c2_⟩ := blk3 hSm; obtain ⟨z0_, z1_, z2_, z3_, z4_, z5_, z6_, _, _, _, _, _, _, _⟩ := blk7 hSp; go_simp; (try with_reducible rfl)))
      (try simp only [Act.put, tA, tZ, tS])
      (refine tk 5 (some 87) (v := ?_) rfl ?_ ?_; rotate_left; · (intro w hSw; (try dsimp only at hSw); obtain ⟨hSm, hSp⟩ := hSw; obtain ⟨c0_, c1_, c2_⟩ := blk3 hSm; obtain ⟨z0_, z1_, z2_, z3_, z4_, z5_, z6_, _, _, _, _, _, _, _⟩ := blk7 hSp; go_simp; (try with_reducible rfl)))
      (try simp only [Act.put, tA, tZ, tS])
      (refine tk 6 (some 88) (v := ?_) rfl ?_ ?_; rotate_left; · (intro w hSw; (try dsimp only at hSw); obtain ⟨hSm, hSp⟩ := hSw; obtain ⟨c0_, c1_, c2_⟩ := blk3 hSm; obtain ⟨z0_, z1_, z2_, z3_, z4_, z5_, z6_, _, _, _, _, _, _, _⟩ := blk7 hSp; go_simp; (try with_reducible rfl)))
      (try simp only [Act.put, tA, tZ, tS])
      refine wpAnyH_ready (rs := [7]) (by kernel_rfl) (by simp) ?_; refine AllReadyH.cons (o := _) rfl (fun K hK => ?_) AllReadyH.nil
      go_simp
      (go_at_call 60; refine (hmk _ ((Chg.refl [] w3).drew)).mono ?_; rintro e w4 ⟨rfl, y4, g4_⟩; have pr := (H10.new ((Chg.refl [] w3).drew)).setW y4 g4_ hokm)
      refine hK.out _ _ (by (try dsimp only); exact ⟨pr.1.st, pr.2.blk hHeld.2 (by simp)⟩) (fun hHeld => ?_)
      clear hK K
      (try simp only [Act.put, tA, tZ, tS])
      refine wpAnyH_done (by kernel_rfl) ?_ _
      refine NoPanic.normal ?_
      have f11 := (Far.of_new ((Chg.refl [] w3).drew)).trans pr.2
      have H11 := pr.1
      have o11 := f11.blk o10 (by simp)
      have b11 := f11.blk b10 (by simp)
      have p11 := f11.blk hp3 (by simp)
      clear hHeld hmk hsl hap y4 g4_ hp3 r3 H10 o10 b10 pr hokm
      generalize hW4 : markP n L ats true sW = W4 at *
      have HW4 := Lib.hid hW4
      clear hW4
      have f12 := f10.trans (f11.less (G := F) (fun i hi => by simp [hi]))
      clear f10 f11
      obtain ⟨z0_, z1_, z2_, z3_, z4_, z5_, z6_, _, _, _, _, _, _, _⟩ := blk7 p11
      obtain ⟨x0_, x1_, x2_, x3_, x4_, x5_, x6_, y0_, y1_, y2_, y3_, y4_, y5_, y6_⟩ := blk7 b11
      have hne : gx ≠ pb := fun e => by subst e; exact Blk.type_ne b11 p11 (by decide) rfl
      have hne2 : ¬ pb = gx := fun e => hne e.symm
      go_wp2_with fail
      have hk7 := chg7 (y0 := .int .i64 0) (y1 := .int .i64 (pageN a : Int)) (y2 := .int .i64 pg) (y3 := .bool rw) (y4 := .bool ru) (y5 := .bool rx) (y6 := .bool true) (g := gx) (Chg.refl [gx] w4) (by simp)
      have H12 := H11.turn (by simp) hk7 hgx.1
      have o12 := o11.chg_ hk7 (by simpa using hgx.2)
      have b12 := set7 (y0 := .int .i64 0) (y1 := .int .i64 (pageN a : Int)) (y2 := .int .i64 pg) (y3 := .bool rw) (y4 := .bool ru) (y5 := .bool rx) (y6 := .bool true) b11
      have f13 := f12.trans ⟨_, hk7, by simp; exact hgF⟩
      generalize ((((((w4.setCell ⟨gx, 0, none⟩ (.int .i64 0)).setCell ⟨gx, 1, none⟩ (.int .i64 (pageN a : Int))).setCell ⟨gx, 2, none⟩ (.int .i64 pg)).setCell ⟨gx, 3, none⟩ (.bool rw)).setCell ⟨gx, 4, none⟩ (.bool ru)).setCell ⟨gx, 5, none⟩ (.bool rx)).setCell ⟨gx, 6, none⟩ (.bool true) = w5 at *
      clear hk7 H11 o11 b11 p11 f12 z0_ z1_ z2_ z3_ z4_ z5_ z6_ x0_ x1_ x2_ x3_ x4_ x5_ x6_ y0_ y1_ y2_ y3_ y4_ y5_ y6_
      refine wp_region_noPanic ?_
      refine wp_region_held_drew (S := (fun w' => Blk w' m 95 #[.pointer (some ⟨q, 0, none⟩), .int .i64 sr, .pointer (some ⟨t, 0, none⟩)] ∧ Blk w' gx 62 #[.int .i64 0, .int .i64 (pageN a : Int), .int .i64 pg, .bool rw, .bool ru, .bool rx, .bool true])) (by kernel_rfl) ?_ (fun hHeld => ?_)
      · exact ⟨H12.st.drew, b12.drew⟩
      (refine tk 0 (some 102) (v := ?_) rfl ?_ ?_; rotate_left; · (intro w hSw; (try dsimp only at hSw); obtain ⟨hSm, hSp⟩ := hSw; obtain ⟨c0_, c1_, c2_⟩ := blk3 hSm; obtain ⟨q0_, q1_, q2_, q3_, q4_, q5_, q6_, _, _, _, _, _, _, _⟩ := blk7 hSp; go_simp; (try with_reducible rfl)))
      (try simp only [Act.put, tA, tZ, tS])
      (refine tk 1 (some 103) (v := ?_) rfl ?_ ?_; rotate_left; · (intro w hSw; (try dsimp only at hSw); obtain ⟨hSm, hSp⟩ := hSw; obtain ⟨c0_, c1_, c2_⟩ := blk3 hSm; obtain ⟨q0_, q1_, q2_, q3_, q4_, q5_, q6_, _, _, _, _, _, _, _⟩ := blk7 hSp; go_simp; (try with_reducible rfl)))
      (try simp only [Act.put, tA, tZ, tS])
      (refine tk 2 (some 104) (v := ?_) rfl ?_ ?_; rotate_left; · (intro w hSw; (try dsimp only at hSw); obtain ⟨hSm, hSp⟩ := hSw; obtain ⟨c0_, c1_, c2_⟩ := blk3 hSm; obtain ⟨q0_, q1_, q2_, q3_, q4_, q5_, q6_, _, _, _, _, _, _, _⟩ := blk7 hSp; go_simp; (try with_reducible rfl)))
      (try simp only [Act.put, tA, tZ, tS])
      (refine tk 3 (some 105) (v := ?_) rfl ?_ ?_; rotate_left; · (intro w hSw; (try dsimp only at hSw); obtain ⟨hSm, hSp⟩ := hSw; obtain ⟨c0_, c1_, c2_⟩ := blk3 hSm; obtain ⟨q0_, q1_, q2_, q3_, q4_, q5_, q6_, _, _, _, _, _, _, _⟩ := blk7 hSp; go_simp; (try with_reducible rfl)))
      (try simp only [Act.put, tA, tZ, tS])
      (refine tk 4 (some 106) (v := ?_) rfl ?_ ?_; rotate_left; · (intro w hSw; (try dsimp only at hSw); obtain ⟨hSm, hSp⟩ := hSw; obtain ⟨c0_, c1_, c2_⟩ := blk3 hSm; obtain ⟨q0_, q1_, q2_, q3_, q4_, q5_, q6_, _, _, _, _, _, _, _⟩ := blk7 hSp; go_simp; (try with_reducible rfl)))
      (try simp only [Act.put, tA, tZ, tS])
      refine wpAnyH_ready (rs := [5]) (by kernel_rfl) (by simp) ?_; refine AllReadyH.cons (o := _) rfl (fun K hK => ?_) AllReadyH.nil
      go_simp
      (go_at_call 61; refine (RTPut_b ⟨0, (pageN a : Int), pg, rw, ru, rx, true⟩ (H12.new ((Chg.refl [] w5).drew)).tb).mono ?_; rintro e w6 ⟨rfl, h6, f6⟩)
      refine hK.out _ _ (by (try dsimp only); exact ⟨f6.blk hHeld.1 (by simp [mB]), f6.blk hHeld.2 (by simp)⟩) (fun hHeld => ?_)
      clear hK K
      (try simp only [Act.put, tA, tZ, tS])
      refine wpAnyH_done (by kernel_rfl) ?_ _
      refine NoPanic.normal ?_
      have H13 := (H12.new ((Chg.refl [] w5).drew)).setT h6 f6 (H12.ok.put (x := ⟨0, (pageN a : Int), pg, rw, ru, rx, true⟩) ⟨rfl, path_g0 hgl.1, hgl.2.2⟩)
      have o13 := f6.blk (o12.drew) (by simp)
      have b13 := f6.blk (b12.drew) (by simp)
      have f14 := f13.trans ((Far.of_new ((Chg.refl [] w5).drew)).trans (f6.less (G := F) (fun i hi => by simp [hi])))
      clear hHeld H12 o12 b12 f13 h6 f6
      have hW2 := hWd
      go_wp2_with fail
      refine (hW2 _).mono ?_; rintro e t1 ⟨rfl, y1⟩
      have Ht1 := H13.new y1; have ot1 := o13.chg_ y1 (by simp); have bt1 := b13.chg_ y1 (by simp)
      go_wp2_with fail
      refine wp_region_noPanic ?_
      refine wp_region_held_drew (S := (fun w' => Blk w' m 95 #[.pointer (some ⟨q, 0, none⟩), .int .i64 sr, .pointer (some ⟨t, 0, none⟩)] ∧ Blk w' gx 62 #[.int .i64 0, .int .i64 (pageN a : Int), .int .i64 pg, .bool rw, .bool ru, .bool rx, .bool true])) (by kernel_rfl) ?_ (fun hHeld => ?_)
      · exact ⟨Ht1.st.drew, bt1.drew⟩
      (refine tk 0 (some 112) (v := ?_) rfl ?_ ?_; rotate_left; · (intro w hSw; (try dsimp only at hSw); obtain ⟨hSm, hSp⟩ := hSw; obtain ⟨c0_, c1_, c2_⟩ := blk3 hSm; obtain ⟨q0_, q1_, q2_, q3_, q4_, q5_, q6_, _, _, _, _, _, _, _⟩ := blk7 hSp; go_simp; (try with_reducible rfl)))
      (try simp only [Act.put, tA, tZ, tS])
      (refine tk 1 (some 113) (v := ?_) rfl ?_ ?_; rotate_left; · (intro w hSw; (try dsimp only at hSw); obtain ⟨hSm, hSp⟩ := hSw; obtain ⟨c0_, c1_, c2_⟩ := blk3 hSm; obtain ⟨q0_, q1_, q2_, q3_, q4_, q5_, q6_, _, _, _, _, _, _, _⟩ := blk7 hSp; go_simp; (try with_reducible rfl)))
      (try simp only [Act.put, tA, tZ, tS])
      (refine tk 2 (some 114) (v := ?_) rfl ?_ ?_; rotate_left; · (intro w hSw; (try dsimp only at hSw); obtain ⟨hSm, hSp⟩ := hSw; obtain ⟨c0_, c1_, c2_⟩ := blk3 hSm; obtain ⟨q0_, q1_, q2_, q3_, q4_, q5_, q6_, _, _, _, _, _, _, _⟩ := blk7 hSp; go_simp; (try with_reducible rfl)))
      (try simp only [Act.put, tA, tZ, tS])
      (refine tk 3 (some 115) (v := ?_) rfl ?_ ?_; rotate_left; · (intro w hSw; (try dsimp only at hSw); obtain ⟨hSm, hSp⟩ := hSw; obtain ⟨c0_, c1_, c2_⟩ := blk3 hSm; obtain ⟨q0_, q1_, q2_, q3_, q4_, q5_, q6_, _, _, _, _, _, _, _⟩ := blk7 hSp; go_simp; (try with_reducible rfl)))
      (try simp only [Act.put, tA, tZ, tS])
      (refine tk 4 (some 116) (v := ?_) rfl ?_ ?_; rotate_left; · (intro w hSw; (try dsimp only at hSw); obtain ⟨hSm, hSp⟩ := hSw; obtain ⟨c0_, c1_, c2_⟩ := blk3 hSm; obtain ⟨q0_, q1_, q2_, q3_, q4_, q5_, q6_, _, _, _, _, _, _, _⟩ := blk7 hSp; go_simp; (try with_reducible rfl)))
      (try simp only [Act.put, tA, tZ, tS])
      (refine tk 5 (some 117) (v := ?_) rfl ?_ ?_; rotate_left; · (intro w hSw; (try dsimp only at hSw); obtain ⟨hSm, hSp⟩ := hSw; obtain ⟨c0_, c1_, c2_⟩ := blk3 hSm; obtain ⟨q0_, q1_, q2_, q3_, q4_, q5_, q6_, _, _, _, _, _, _, _⟩ := blk7 hSp; go_simp; (try with_reducible rfl)))
      (try simp only [Act.put, tA, tZ, tS])
      (refine tk 6 (some 118) (v := ?_) rfl ?_ ?_; rotate_left; · (intro w hSw; (try dsimp only at hSw); obtain ⟨hSm, hSp⟩ := hSw; obtain ⟨c0_, c1_, c2_⟩ := blk3 hSm; obtain ⟨q0_, q1_, q2_, q3_, q4_, q5_, q6_, _, _, _, _, _, _, _⟩ := blk7 hSp; go_simp; (try with_reducible rfl)))
      (try simp only [Act.put, tA, tZ, tS])
      (refine tk 7 (some 119) (v := ?_) rfl ?_ ?_; rotate_left; · (intro w hSw; (try dsimp only at hSw); obtain ⟨hSm, hSp⟩ := hSw; obtain ⟨c0_, c1_, c2_⟩ := blk3 hSm; obtain ⟨q0_, q1_, q2_, q3_, q4_, q5_, q6_, _, _, _, _, _, _, _⟩ := blk7 hSp; go_simp; (try with_reducible rfl)))
      (try simp only [Act.put, tA, tZ, tS])
      refine wpAnyH_ready (rs := [8]) (by kernel_rfl) (by simp) ?_; refine AllReadyH.cons (o := _) rfl (fun K hK => ?_) AllReadyH.nil
      go_simp
      (go_at_call 40; refine (RGuSet_at q S p L h b n _ pg (wordN a) v _ (Ht1.new ((Chg.refl [] t1).drew)).gu).mono ?_; rintro e t2 ⟨rfl, y2, g2⟩; have o2 := ((Ht1.new ((Chg.refl [] t1).drew)).setW y2 g2 (Ht1.ok.set _ _ hv)))
      refine hK.out _ _ (by (try dsimp only); exact ⟨o2.1.st, o2.2.blk hHeld.2 (by simp)⟩) (fun hHeld => ?_)
      clear hK K
      (try simp only [Act.put, tA, tZ, tS])
      refine wpAnyH_done (by kernel_rfl) ?_ _
      refine NoPanic.normal ?_
      have ft := (Far.of_new ((Chg.refl [] t1).drew)).trans o2.2
      have Ht2 := o2.1
      have ot2 := ft.blk ot1 (by simp)
      obtain ⟨r0, r1, r2, r3, z0, z1, z2, z3⟩ := blk4 ot2
      go_wp2_with fail
      refine bodyPost_ret (cell_ret rfl (set4 ot2) rfl Tryz.underlying39 rfl (by kernel_rfl)) rfl ?_
      have hk := chg4 (y0 := .int .i64 0) (y1 := .int .u64 0) (y2 := .int .i64 0) (y3 := .int .u64 0) (g := w.heap.size) (Chg.refl [w.heap.size] t2) (by simp)
      have hrl := (Ht2.turn (by simp) hk hs0).less (G := F) (fun i hi => by simp only [List.mem_append]; first | exact .inr hi | exact .inr (.inr hi) | exact .inr (.inr (.inr hi)))
      have hW4 := HW4.out
      clear HW4
      subst hW4
      exact ⟨rfl, hrl, (f14.trans ((Far.of_new y1).trans (ft.less (G := F) (fun i hi => by simp [hi])))).trans ⟨_, hk, by simpa using nF.out 0⟩⟩
    · go_simp
      skip
      refine hK.out _ _ (by (try dsimp only); exact Blk.alloc hHeld _) (fun hHeld => ?_)
      clear hK K
      (try simp only [Act.put, tA, tZ, tS])
      have x9 : Chg [] w1 (w1.drew.alloc (.cells #[.slice none 0 0, .int .i64 0, .bool false, .bool false, .bool false, .bool false, .bool false] 108)) := ((Chg.refl [] w1).drew).alloc _
      have hp9 : Blk (w1.drew.alloc (.cells #[.slice none 0 0, .int .i64 0, .bool false, .bool false, .bool false, .bool false, .bool false] 108)) w1.heap.size 108 #[.slice none 0 0, .int .i64 0, .bool false, .bool false, .bool false, .bool false, .bool false] := Blk.new w1.drew _ _
      refine wpAnyH_ready (rs := [11]) (by kernel_rfl) (by simp) ?_; refine AllReadyH.cons (o := _) rfl (fun K hK => ?_) AllReadyH.nil
      go_simp
      (go_at_call 59; refine (hWk _ x9).mono ?_; rintro e u1 ⟨A, c, rfl, r1, l1, y1⟩; simp only at *)
      refine hK.out _ _ (by (try dsimp only); exact hHeld.chg_ y1 (by simp)) (fun hHeld => ?_)
      clear hK K
      (try simp only [Act.put, tA, tZ, tS])
      (refine tk 12 (some 60) (v := ?_) rfl ?_ ?_; rotate_left; · (intro w hSw; (try dsimp only at hSw); go_simp; (try with_reducible rfl)))
      (try simp only [Act.put, tA, tZ, tS])
      (refine tk 13 (some 73) (v := ?_) rfl ?_ ?_; rotate_left; · (intro w hSw; (try dsimp only at hSw); go_simp; (try with_reducible rfl)))
      (try simp only [Act.put, tA, tZ, tS])
      (refine tk 14 (some 74) (v := ?_) rfl ?_ ?_; rotate_left; · (intro w hSw; (try dsimp only at hSw); go_simp; (try with_reducible rfl)))
      (try simp only [Act.put, tA, tZ, tS])
      (refine tk 15 (some 75) (v := ?_) rfl ?_ ?_; rotate_left; · (intro w hSw; (try dsimp only at hSw); go_simp; (try with_reducible rfl)))
      (try simp only [Act.put, tA, tZ, tS])
      have x0 : Chg [] w1 u1 := x9.trans y1 (by simp)
      have hp0 := hp9.chg_ y1 (by simp)
      obtain ⟨pb, hpe⟩ : ∃ pb, pb = w1.heap.size := ⟨_, rfl⟩
      have hne : m ≠ pb := by have h1 := hm1.lt; omega
      have hlo : ∀ g ∈ (Value.slice A ats.length c).ownBlock.toList, w1.heap.size ≤ g ∧ g ≠ pb := fun g hg => by have := l1 g hg; simp at this; omega
      have hpl : w1.heap.size ≤ pb := by omega
      rw [← hpe] at hp0 ⊢
      have r2 := r1
      clear r1 l1 y1 x9 hp9 hpe
      generalize hu2 : u1 = u2 at *
      clear hu2
      obtain ⟨z0, z1, z2, z3, z4, z5, z6, g0, g1, g2, g3, g4, g5, g6⟩ := blk7 hp0
      refine wpAnyH_ready (rs := [17]) (by kernel_rfl) (by simp) ?_; refine AllReadyH.cons (o := _) rfl (fun K hK => ?_) AllReadyH.nil
      go_simp
      skip
      refine hK.out _ _ (by (try dsimp only); exact far7 hHeld hne) (fun hHeld => ?_)
      clear hK K
      (try simp only [Act.put, tA, tZ, tS])
      (refine tk 18 (some 15) (v := ?_) rfl ?_ ?_; rotate_left; · (intro w hSw; (try dsimp only at hSw); go_simp; (try with_reducible rfl)))
      (try simp only [Act.put, tA, tZ, tS])
      (refine tk 19 (some 16) (v := ?_) rfl ?_ ?_; rotate_left; · (intro w hSw; (try dsimp only at hSw); go_simp; (try with_reducible rfl)))
      (try simp only [Act.put, tA, tZ, tS])
      refine wpAnyH_done (by kernel_rfl) ?_ _
      refine NoPanic.normal ?_
      have hp3 := set7 (y0 := .slice A ats.length c) (y1 := .int .i64 pg) (y2 := .bool rw) (y3 := .bool ru) (y4 := .bool rx) (y5 := .bool lg) (y6 := .bool false) hp0
      have x3 : Chg [] w1 _ := x0.trans (chg7 (y0 := .slice A ats.length c) (y1 := .int .i64 pg) (y2 := .bool rw) (y3 := .bool ru) (y4 := .bool rx) (y5 := .bool lg) (y6 := .bool false) (g := pb) (Chg.refl [pb] u2) (by simp)) (by intro i hi hm; simp at hm; subst hm; omega)
      have r3 := OwnA.chg r2 (chg7 (y0 := .slice A ats.length c) (y1 := .int .i64 pg) (y2 := .bool rw) (y3 := .bool ru) (y4 := .bool rx) (y5 := .bool lg) (y6 := .bool false) (g := pb) (Chg.refl [pb] u2) (by simp)) (fun g hg hm => by simp at hm; exact (hlo g hg).2 hm)
      have hpb := hp3.lt
      clear hHeld r2 hp0 x0 z0 z1 z2 z3 z4 z5 z6 g0 g1 g2 g3 g4 g5 g6
      generalize ((((((u2.setCell ⟨pb, 0, none⟩ (.slice A ats.length c)).setCell ⟨pb, 1, none⟩ (.int .i64 pg)).setCell ⟨pb, 2, none⟩ (.bool rw)).setCell ⟨pb, 3, none⟩ (.bool ru)).setCell ⟨pb, 4, none⟩ (.bool rx)).setCell ⟨pb, 5, none⟩ (.bool lg)).setCell ⟨pb, 6, none⟩ (.bool false) = w3 at *
      have hlo := fun g hg => (hlo g hg).1
      clear hne hWk
      have H10 := H8.more (G := [pb]) x3 (by intro i hi; simp at hi; subst hi; exact ⟨hpl, hpb⟩)
      have o10 := o8.chg_ x3 (by simp)
      have b10 := b8.chg_ x3 (by simp)
      have f10 := f9.trans (Far.of_new x3)
      clear H8 o8 b8 f9 hm1 x3
      have hsl := OwnA.sla r3
      have hap : ∀ g o, A = some ⟨g, o, none⟩ → g ≠ b := fun g o e => by have h1 := hlo g (by rw [e]; simp [Value.ownBlock]); have h2 := hbl; omega
      have hmk := fun w9 (k9 : Chg [] w3 w9) => RMark_at q S p L h b n sW A c ⟨ats, pg, ⟨rw, ru, rx⟩, lg, false⟩ true w9 (H10.gu.self k9) H10.ok.wd (hsl.self k9) hall hap
      simp only [pathV] at hmk
      have hokm := H10.ok.mark ats true
      go_wp2_with fail
      refine wp_region_noPanic ?_
      refine wp_region_held_drew (S := (fun w' => Blk w' m 95 #[.pointer (some ⟨q, 0, none⟩), .int .i64 sr, .pointer (some ⟨t, 0, none⟩)] ∧ Blk w' pb 108 #[.slice A ats.length c, .int .i64 pg, .bool rw, .bool ru, .bool rx, .bool lg, .bool false])) (by kernel_rfl) ?_ (fun hHeld => ?_)
      · exact ⟨H10.st.drew, hp3.drew⟩
      (refine tk 0 (some 82) (v := ?_) rfl ?_ ?_; rotate_left; · (intro w hSw; (try dsimp only at hSw); obtain ⟨hSm, hSp⟩ := hSw; obtain ⟨c0_, c1_, c2_⟩ := blk3 hSm; obtain ⟨z0_, z1_, z2_, z3_, z4_, z5_, z6_, _, _, _, _, _, _, _⟩ := blk7 hSp; go_simp; (try with_reducible rfl)))
      (try simp only [Act.put, tA, tZ, tS])
      (refine tk 1 (some 83) (v := ?_) rfl ?_ ?_; rotate_left; · (intro w hSw; (try dsimp only at hSw); obtain ⟨hSm, hSp⟩ := hSw; obtain ⟨c0_, c1_, c2_⟩ := blk3 hSm; obtain ⟨z0_, z1_, z2_, z3_, z4_, z5_, z6_, _, _, _, _, _, _, _⟩ := blk7 hSp; go_simp; (try with_reducible rfl)))
      (try simp only [Act.put, tA, tZ, tS])
      (refine tk 2 (some 84) (v := ?_) rfl ?_ ?_; rotate_left; · (intro w hSw; (try dsimp only at hSw); obtain ⟨hSm, hSp⟩ := hSw; obtain ⟨c0_, c1_, c2_⟩ := blk3 hSm; obtain ⟨z0_, z1_, z2_, z3_, z4_, z5_, z6_, _, _, _, _, _, _, _⟩ := blk7 hSp; go_simp; (try with_reducible rfl)))
      (try simp only [Act.put, tA, tZ, tS])
      (refine tk 3 (some 85) (v := ?_) rfl ?_ ?_; rotate_left; · (intro w hSw; (try dsimp only at hSw); obtain ⟨hSm, hSp⟩ := hSw; obtain ⟨c0_, c1_, c2_⟩ := blk3 hSm; obtain ⟨z0_, z1_, z2_, z3_, z4_, z5_, z6_, _, _, _, _, _, _, _⟩ := blk7 hSp; go_simp; (try with_reducible rfl)))
      (try simp only [Act.put, tA, tZ, tS])
      (refine tk 4 (some 86) (v := ?_) rfl ?_ ?_; rotate_left; · (intro w hSw; (try dsimp only at hSw); obtain ⟨hSm, hSp⟩ := hSw; obtain ⟨c0_, c1_, c2_⟩ := blk3 hSm; obtain ⟨z0_, z1_, z2_, z3_, z4_, z5_, z6_, _, _, _, _, _, _, _⟩ := blk7 hSp; go_simp; (try with_reducible rfl)))
      (try simp only [Act.put, tA, tZ, tS])
      (refine tk 5 (some 87) (v := ?_) rfl ?_ ?_; rotate_left; · (intro w hSw; (try dsimp only at hSw); obtain ⟨hSm, hSp⟩ := hSw; obtain ⟨c0_, c1_, c2_⟩ := blk3 hSm; obtain ⟨z0_, z1_, z2_, z3_, z4_, z5_, z6_, _, _, _, _, _, _, _⟩ := blk7 hSp; go_simp; (try with_reducible rfl)))
      (try simp only [Act.put, tA, tZ, tS])
      (refine tk 6 (some 88) (v := ?_) rfl ?_ ?_; rotate_left; · (intro w hSw; (try dsimp only at hSw); obtain ⟨hSm, hSp⟩ := hSw; obtain ⟨c0_, c1_, c2_⟩ := blk3 hSm; obtain ⟨z0_, z1_, z2_, z3_, z4_, z5_, z6_, _, _, _, _, _, _, _⟩ := blk7 hSp; go_simp; (try with_reducible rfl)))
      (try simp only [Act.put, tA, tZ, tS])
      refine wpAnyH_ready (rs := [7]) (by kernel_rfl) (by simp) ?_; refine AllReadyH.cons (o := _) rfl (fun K hK => ?_) AllReadyH.nil
      go_simp
      (go_at_call 60; refine (hmk _ ((Chg.refl [] w3).drew)).mono ?_; rintro e w4 ⟨rfl, y4, g4_⟩; have pr := (H10.new ((Chg.refl [] w3).drew)).setW y4 g4_ hokm)
      refine hK.out _ _ (by (try dsimp only); exact ⟨pr.1.st, pr.2.blk hHeld.2 (by simp)⟩) (fun hHeld => ?_)
      clear hK K
      (try simp only [Act.put, tA, tZ, tS])
      refine wpAnyH_done (by kernel_rfl) ?_ _
      refine NoPanic.normal ?_
      have f11 := (Far.of_new ((Chg.refl [] w3).drew)).trans pr.2
      have H11 := pr.1
      have o11 := f11.blk o10 (by simp)
      have b11 := f11.blk b10 (by simp)
      have p11 := f11.blk hp3 (by simp)
      clear hHeld hmk hsl hap y4 g4_ hp3 r3 H10 o10 b10 pr hokm
      generalize hW4 : markP n L ats true sW = W4 at *
      have HW4 := Lib.hid hW4
      clear hW4
      have f12 := f10.trans (f11.less (G := F) (fun i hi => by simp [hi]))
      clear f10 f11
      obtain ⟨z0_, z1_, z2_, z3_, z4_, z5_, z6_, _, _, _, _, _, _, _⟩ := blk7 p11
      obtain ⟨x0_, x1_, x2_, x3_, x4_, x5_, x6_, y0_, y1_, y2_, y3_, y4_, y5_, y6_⟩ := blk7 b11
      have hne : gx ≠ pb := fun e => by subst e; exact Blk.type_ne b11 p11 (by decide) rfl
      have hne2 : ¬ pb = gx := fun e => hne e.symm
      go_wp2_with fail
      have hk7 := chg7 (y0 := .int .i64 0) (y1 := .int .i64 (pageN a : Int)) (y2 := .int .i64 pg) (y3 := .bool rw) (y4 := .bool ru) (y5 := .bool rx) (y6 := .bool true) (g := gx) (Chg.refl [gx] w4) (by simp)
      have H12 := H11.turn (by simp) hk7 hgx.1
      have o12 := o11.chg_ hk7 (by simpa using hgx.2)
      have b12 := set7 (y0 := .int .i64 0) (y1 := .int .i64 (pageN a : Int)) (y2 := .int .i64 pg) (y3 := .bool rw) (y4 := .bool ru) (y5 := .bool rx) (y6 := .bool true) b11
      have f13 := f12.trans ⟨_, hk7, by simp; exact hgF⟩
      generalize ((((((w4.setCell ⟨gx, 0, none⟩ (.int .i64 0)).setCell ⟨gx, 1, none⟩ (.int .i64 (pageN a : Int))).setCell ⟨gx, 2, none⟩ (.int .i64 pg)).setCell ⟨gx, 3, none⟩ (.bool rw)).setCell ⟨gx, 4, none⟩ (.bool ru)).setCell ⟨gx, 5, none⟩ (.bool rx)).setCell ⟨gx, 6, none⟩ (.bool true) = w5 at *
      clear hk7 H11 o11 b11 p11 f12 z0_ z1_ z2_ z3_ z4_ z5_ z6_ x0_ x1_ x2_ x3_ x4_ x5_ x6_ y0_ y1_ y2_ y3_ y4_ y5_ y6_
      refine wp_region_noPanic ?_
      refine wp_region_held_drew (S := (fun w' => Blk w' m 95 #[.pointer (some ⟨q, 0, none⟩), .int .i64 sr, .pointer (some ⟨t, 0, none⟩)] ∧ Blk w' gx 62 #[.int .i64 0, .int .i64 (pageN a : Int), .int .i64 pg, .bool rw, .bool ru, .bool rx, .bool true])) (by kernel_rfl) ?_ (fun hHeld => ?_)
      · exact ⟨H12.st.drew, b12.drew⟩
      (refine tk 0 (some 102) (v := ?_) rfl ?_ ?_; rotate_left; · (intro w hSw; (try dsimp only at hSw); obtain ⟨hSm, hSp⟩ := hSw; obtain ⟨c0_, c1_, c2_⟩ := blk3 hSm; obtain ⟨q0_, q1_, q2_, q3_, q4_, q5_, q6_, _, _, _, _, _, _, _⟩ := blk7 hSp; go_simp; (try with_reducible rfl)))
      (try simp only [Act.put, tA, tZ, tS])
      (refine tk 1 (some 103) (v := ?_) rfl ?_ ?_; rotate_left; · (intro w hSw; (try dsimp only at hSw); obtain ⟨hSm, hSp⟩ := hSw; obtain ⟨c0_, c1_, c2_⟩ := blk3 hSm; obtain ⟨q0_, q1_, q2_, q3_, q4_, q5_, q6_, _, _, _, _, _, _, _⟩ := blk7 hSp; go_simp; (try with_reducible rfl)))
      (try simp only [Act.put, tA, tZ, tS])
      (refine tk 2 (some 104) (v := ?_) rfl ?_ ?_; rotate_left; · (intro w hSw; (try dsimp only at hSw); obtain ⟨hSm, hSp⟩ := hSw; obtain ⟨c0_, c1_, c2_⟩ := blk3 hSm; obtain ⟨q0_, q1_, q2_, q3_, q4_, q5_, q6_, _, _, _, _, _, _, _⟩ := blk7 hSp; go_simp; (try with_reducible rfl)))
      (try simp only [Act.put, tA, tZ, tS])
      (refine tk 3 (some 105) (v := ?_) rfl ?_ ?_; rotate_left; · (intro w hSw; (try dsimp only at hSw); obtain ⟨hSm, hSp⟩ := hSw; obtain ⟨c0_, c1_, c2_⟩ := blk3 hSm; obtain ⟨q0_, q1_, q2_, q3_, q4_, q5_, q6_, _, _, _, _, _, _, _⟩ := blk7 hSp; go_simp; (try with_reducible rfl)))
      (try simp only [Act.put, tA, tZ, tS])
      (refine tk 4 (some 106) (v := ?_) rfl ?_ ?_; rotate_left; · (intro w hSw; (try dsimp only at hSw); obtain ⟨hSm, hSp⟩ := hSw; obtain ⟨c0_, c1_, c2_⟩ := blk3 hSm; obtain ⟨q0_, q1_, q2_, q3_, q4_, q5_, q6_, _, _, _, _, _, _, _⟩ := blk7 hSp; go_simp; (try with_reducible rfl)))
      (try simp only [Act.put, tA, tZ, tS])
      refine wpAnyH_ready (rs := [5]) (by kernel_rfl) (by simp) ?_; refine AllReadyH.cons (o := _) rfl (fun K hK => ?_) AllReadyH.nil
      go_simp
      (go_at_call 61; refine (RTPut_b ⟨0, (pageN a : Int), pg, rw, ru, rx, true⟩ (H12.new ((Chg.refl [] w5).drew)).tb).mono ?_; rintro e w6 ⟨rfl, h6, f6⟩)
      refine hK.out _ _ (by (try dsimp only); exact ⟨f6.blk hHeld.1 (by simp [mB]), f6.blk hHeld.2 (by simp)⟩) (fun hHeld => ?_)
      clear hK K
      (try simp only [Act.put, tA, tZ, tS])
      refine wpAnyH_done (by kernel_rfl) ?_ _
      refine NoPanic.normal ?_
      have H13 := (H12.new ((Chg.refl [] w5).drew)).setT h6 f6 (H12.ok.put (x := ⟨0, (pageN a : Int), pg, rw, ru, rx, true⟩) ⟨rfl, path_g0 hgl.1, hgl.2.2⟩)
      have o13 := f6.blk (o12.drew) (by simp)
      have b13 := f6.blk (b12.drew) (by simp)
      have f14 := f13.trans ((Far.of_new ((Chg.refl [] w5).drew)).trans (f6.less (G := F) (fun i hi => by simp [hi])))
      clear hHeld H12 o12 b12 f13 h6 f6
      have hW2 := hWd
      go_wp2_with fail
      refine (hW2 _).mono ?_; rintro e t1 ⟨rfl, y1⟩
      have Ht1 := H13.new y1; have ot1 := o13.chg_ y1 (by simp); have bt1 := b13.chg_ y1 (by simp)
      go_wp2_with fail
      refine wp_region_noPanic ?_
      refine wp_region_held_drew (S := (fun w' => Blk w' m 95 #[.pointer (some ⟨q, 0, none⟩), .int .i64 sr, .pointer (some ⟨t, 0, none⟩)] ∧ Blk w' gx 62 #[.int .i64 0, .int .i64 (pageN a : Int), .int .i64 pg, .bool rw, .bool ru, .bool rx, .bool true])) (by kernel_rfl) ?_ (fun hHeld => ?_)
      · exact ⟨Ht1.st.drew, bt1.drew⟩
      (refine tk 0 (some 112) (v := ?_) rfl ?_ ?_; rotate_left; · (intro w hSw; (try dsimp only at hSw); obtain ⟨hSm, hSp⟩ := hSw; obtain ⟨c0_, c1_, c2_⟩ := blk3 hSm; obtain ⟨q0_, q1_, q2_, q3_, q4_, q5_, q6_, _, _, _, _, _, _, _⟩ := blk7 hSp; go_simp; (try with_reducible rfl)))
      (try simp only [Act.put, tA, tZ, tS])
      (refine tk 1 (some 113) (v := ?_) rfl ?_ ?_; rotate_left; · (intro w hSw; (try dsimp only at hSw); obtain ⟨hSm, hSp⟩ := hSw; obtain ⟨c0_, c1_, c2_⟩ := blk3 hSm; obtain ⟨q0_, q1_, q2_, q3_, q4_, q5_, q6_, _, _, _, _, _, _, _⟩ := blk7 hSp; go_simp; (try with_reducible rfl)))
      (try simp only [Act.put, tA, tZ, tS])
      (refine tk 2 (some 114) (v := ?_) rfl ?_ ?_; rotate_left; · (intro w hSw; (try dsimp only at hSw); obtain ⟨hSm, hSp⟩ := hSw; obtain ⟨c0_, c1_, c2_⟩ := blk3 hSm; obtain ⟨q0_, q1_, q2_, q3_, q4_, q5_, q6_, _, _, _, _, _, _, _⟩ := blk7 hSp; go_simp; (try with_reducible rfl)))
      (try simp only [Act.put, tA, tZ, tS])
      (refine tk 3 (some 115) (v := ?_) rfl ?_ ?_; rotate_left; · (intro w hSw; (try dsimp only at hSw); obtain ⟨hSm, hSp⟩ := hSw; obtain ⟨c0_, c1_, c2_⟩ := blk3 hSm; obtain ⟨q0_, q1_, q2_, q3_, q4_, q5_, q6_, _, _, _, _, _, _, _⟩ := blk7 hSp; go_simp; (try with_reducible rfl)))
      (try simp only [Act.put, tA, tZ, tS])
      (refine tk 4 (some 116) (v := ?_) rfl ?_ ?_; rotate_left; · (intro w hSw; (try dsimp only at hSw); obtain ⟨hSm, hSp⟩ := hSw; obtain ⟨c0_, c1_, c2_⟩ := blk3 hSm; obtain ⟨q0_, q1_, q2_, q3_, q4_, q5_, q6_, _, _, _, _, _, _, _⟩ := blk7 hSp; go_simp; (try with_reducible rfl)))
      (try simp only [Act.put, tA, tZ, tS])
      (refine tk 5 (some 117) (v := ?_) rfl ?_ ?_; rotate_left; · (intro w hSw; (try dsimp only at hSw); obtain ⟨hSm, hSp⟩ := hSw; obtain ⟨c0_, c1_, c2_⟩ := blk3 hSm; obtain ⟨q0_, q1_, q2_, q3_, q4_, q5_, q6_, _, _, _, _, _, _, _⟩ := blk7 hSp; go_simp; (try with_reducible rfl)))
      (try simp only [Act.put, tA, tZ, tS])
      (refine tk 6 (some 118) (v := ?_) rfl ?_ ?_; rotate_left; · (intro w hSw; (try dsimp only at hSw); obtain ⟨hSm, hSp⟩ := hSw; obtain ⟨c0_, c1_, c2_⟩ := blk3 hSm; obtain ⟨q0_, q1_, q2_, q3_, q4_, q5_, q6_, _, _, _, _, _, _, _⟩ := blk7 hSp; go_simp; (try with_reducible rfl)))
      (try simp only [Act.put, tA, tZ, tS])
      (refine tk 7 (some 119) (v := ?_) rfl ?_ ?_; rotate_left; · (intro w hSw; (try dsimp only at hSw); obtain ⟨hSm, hSp⟩ := hSw; obtain ⟨c0_, c1_, c2_⟩ := blk3 hSm; obtain ⟨q0_, q1_, q2_, q3_, q4_, q5_, q6_, _, _, _, _, _, _, _⟩ := blk7 hSp; go_simp; (try with_reducible rfl)))
      (try simp only [Act.put, tA, tZ, tS])
      refine wpAnyH_ready (rs := [8]) (by kernel_rfl) (by simp) ?_; refine AllReadyH.cons (o := _) rfl (fun K hK => ?_) AllReadyH.nil
      go_simp
      (go_at_call 40; refine (RGuSet_at q S p L h b n _ pg (wordN a) v _ (Ht1.new ((Chg.refl [] t1).drew)).gu).mono ?_; rintro e t2 ⟨rfl, y2, g2⟩; have o2 := ((Ht1.new ((Chg.refl [] t1).drew)).setW y2 g2 (Ht1.ok.set _ _ hv)))
      refine hK.out _ _ (by (try dsimp only); exact ⟨o2.1.st, o2.2.blk hHeld.2 (by simp)⟩) (fun hHeld => ?_)
      clear hK K
      (try simp only [Act.put, tA, tZ, tS])
      refine wpAnyH_done (by kernel_rfl) ?_ _
      refine NoPanic.normal ?_
      have ft := (Far.of_new ((Chg.refl [] t1).drew)).trans o2.2
      have Ht2 := o2.1
      have ot2 := ft.blk ot1 (by simp)
      obtain ⟨r0, r1, r2, r3, z0, z1, z2, z3⟩ := blk4 ot2
      go_wp2_with fail
      refine bodyPost_ret (cell_ret rfl (set4 ot2) rfl Tryz.underlying39 rfl (by kernel_rfl)) rfl ?_
      have hk := chg4 (y0 := .int .i64 0) (y1 := .int .u64 0) (y2 := .int .i64 0) (y3 := .int .u64 0) (g := w.heap.size) (Chg.refl [w.heap.size] t2) (by simp)
      have hrl := (Ht2.turn (by simp) hk hs0).less (G := F) (fun i hi => by simp only [List.mem_append]; first | exact .inr hi | exact .inr (.inr hi) | exact .inr (.inr (.inr hi)))
      have hW4 := HW4.out
      clear HW4
      subst hW4
      exact ⟨rfl, hrl, (f14.trans ((Far.of_new y1).trans (ft.less (G := F) (fun i hi => by simp [hi])))).trans ⟨_, hk, by simpa using nF.out 0⟩⟩

set_option maxRecDepth 100000 in
set_option maxHeartbeats 16000000 in
theorem racc_go_ld_true (k : Int) (u : Bool) (a : Nat) (v : Int) (ha : a < 18446744073709551616) (_hv : 0 ≤ v ∧ v < 18446744073709551616) (H : RModB w0 F w m t q S p L h b n s) (P : Pa) (h1 : aliB a = true) (h2 : canB a = true) (hns : (hasT s.T 0 (pageN a : Int) && servesB (getT s.T 0 (pageN a : Int)) k u) = false) (hr : walkP n s.W L s.r (pageN a : Int) k u = (P, 0, 0)) (hdy : P.dirty = true) (hk : ¬ k = 1) :
    Calls Tryz.prog 15 #[.pointer (some ⟨m, 0, none⟩), .int .i64 k, .bool u, .int .u64 a, .int .u64 v] w fun e w' => e = .returned (.agg #[.int .i64 0, .int .u64 (getG n (markP n L P.ats (k == 1) s.W) L P.g (wordN a)), .int .i64 0, .int .u64 0]) ∧ RModB w0 F w' m t q S p L h b n ⟨markP n L P.ats (k == 1) s.W, s.r, putT 512 (dropT s.T 0 (pageN a : Int)) (hitP (pageN a : Int) P (k == 1))⟩ ∧ Far F w w' := by
  have hkb : (k == 1) = false := by simpa using hk
  have hlen := walk_len hr
  have hall : P.ats.length ≤ 9223372036854775807 := by omega
  have hgl := (done_of hr).2
  have hit0 : hitP (pageN a : Int) P false = ⟨0, (pageN a : Int), P.g, P.r.w, P.r.u, P.r.x, true⟩ := by unfold hitP; rw [hdy]; rfl
  rw [hkb]
  rw [hit0]
  clear hit0
  have hc1 : Chg [] w (w.alloc (.cells #[.int .i64 0, .int .u64 0, .int .i64 0, .int .u64 0] 39)) := (Chg.refl [] w).alloc _
  have o1 := Blk.new w 39 #[.int .i64 0, .int .u64 0, .int .i64 0, .int .u64 0]
  have H1 := H.more (G := [w.heap.size]) hc1 (by intro i hi; simp at hi; subst hi; simp)
  have hs0 := H.c0.size
  have nF : Hid (∀ j, w.heap.size + j ∉ F) := Lib.hid (fun j hm => by have := H.tb.2.1 _ (List.mem_append.2 (.inr hm)); omega)
  have hAl := fun w9 => (RAligned_any a w9 ha).mono fun e w' (h : _ ∧ _) => (⟨h.1, by first | exact h.2.chg | exact h.2 ▸ Chg.refl [] w9⟩ : _ ∧ Chg [] w9 w')
  have hCa := fun w9 => (RCanon_any a w9 ha).mono fun e w' (h : _ ∧ _) => (⟨h.1, by first | exact h.2.chg | exact h.2 ▸ Chg.refl [] w9⟩ : _ ∧ Chg [] w9 w')
  have hPg := fun w9 => (RPage_any a w9 ha).mono fun e w' (h : _ ∧ _) => (⟨h.1, by first | exact h.2.chg | exact h.2 ▸ Chg.refl [] w9⟩ : _ ∧ Chg [] w9 w')
  have hWd := fun w9 => (RWord_any a w9 ha).mono fun e w' (h : _ ∧ _) => (⟨h.1, by first | exact h.2.chg | exact h.2 ▸ Chg.refl [] w9⟩ : _ ∧ Chg [] w9 w')
  rw [h1] at hAl
  rw [h2] at hCa
  have hKn := fun F w9 (H9 : RModB w0 F w9 m t q S p L h b n s) => RMKnown_b (pageN a : Int) H9
  generalize hX : getT s.T 0 (pageN a : Int) = X at *
  generalize hU : hasT s.T 0 (pageN a : Int) = U at *
  clear hX hU
  obtain ⟨xa, xp, xf, xw, xu, xx, xd⟩ := X
  simp only [Ht.v, Ht.rg, servesB] at *
  obtain ⟨sW, sr, sT⟩ := s
  simp only at *
  have hM := fun w9 => RMay_any ⟨xw, xu, xx⟩ k u w9
  generalize mayB ⟨xw, xu, xx⟩ k u = my at *
  simp only [Rg.cs] at hM
  have hWk0 := fun F w9 (H9 : RModB w0 F w9 m t q S p L h b n ⟨sW, sr, dropT sT 0 (pageN a : Int)⟩) => H9.walk (pageN a : Int) k u P 0 0 hr
  simp only at hWk0
  have hFo := fun F w9 (H9 : RModB w0 F w9 m t q S p L h b n ⟨sW, sr, sT⟩) => RMForget_b (pageN a : Int) H9
  simp only [forgetM] at hFo
  obtain ⟨ats, pg, ⟨rw, ru, rx⟩, lg, dy⟩ := P
  simp only at hdy
  subst hdy
  simp only [pathV] at *
  go_enter Tryz.func15, Tryz.ntmps15
  go_wp2_with fail
  refine (hAl _).mono ?_; rintro e w2 ⟨rfl, y2⟩
  have o2 := o1.chg_ y2 (by simp)
  have H2 := H1.new y2
  go_wp2_with fail
  refine (hCa _).mono ?_; rintro e w3 ⟨rfl, y3⟩
  have o3 := o2.chg_ y3 (by simp)
  have H3 := H2.new y3
  go_wp2_with fail
  refine (hPg _).mono ?_; rintro e w4 ⟨rfl, y4⟩
  have o4 := o3.chg_ y4 (by simp)
  have H4 := H3.new y4
  have k4 := ((hc1.trans y2 (by simp)).trans y3 (by simp)).trans y4 (by simp)
  clear o1 o2 o3 H1 H2 H3 y2 y3 y4 hAl hCa hPg hc1
  go_wp2_with fail
  refine (hKn _ _ H4).mono ?_; rintro e w5 ⟨rfl, y5⟩
  have al := (Chg.refl [] w5).alloc (.cells #[.int .i64 xa, .int .i64 xp, .int .i64 xf, .bool xw, .bool xu, .bool xx, .bool xd] 62)
  have y6 := y5.trans al (by simp)
  have H6 := H4.more (G := [w5.heap.size]) y6 (by intro i hi; simp at hi; subst hi; exact ⟨y5.size, by simp⟩)
  have o6 := o4.chg_ y6 (by simp)
  have b6 := Blk.new w5 62 #[.int .i64 xa, .int .i64 xp, .int .i64 xf, .bool xw, .bool xu, .bool xx, .bool xd]
  have k6 := k4.trans y6 (by simp)
  have hgx : w0.heap.size ≤ w5.heap.size ∧ w.heap.size ≠ w5.heap.size := ⟨Nat.le_trans hs0 (Nat.le_trans k4.size y5.size), by have := o4.lt; have := y5.size; omega⟩
  have hgF : w5.heap.size ∉ F := fun hm => by have h1 := H4.tb.2.1 _ (List.mem_append.2 (.inr (List.mem_append.2 (.inr hm)))); have h2 := y5.size; omega
  clear H4 o4 k4 y5 al y6 hKn
  obtain ⟨x0_, x1_, x2_, x3_, x4_, x5_, x6_, _, _, _, _, _, _, _⟩ := blk7 b6
  go_upto_region 7 with fail
  generalize w5.alloc (.cells #[.int .i64 xa, .int .i64 xp, .int .i64 xf, .bool xw, .bool xu, .bool xx, .bool xd] 62) = w6 at *
  generalize w5.heap.size = gx at *
  go_cut [56] from 38 to 56 (fun cv wx => cv = .bool true ∧ Chg [] w6 wx)
  case first =>
    clear hWk0 hFo
    cases U
    case false =>
      go_wp2_with fail
      go_meet
      exact ⟨rfl, Chg.refl [] _⟩
    case true =>
      cases my
      case false =>
        go_wp2_with fail
        refine (hM _).mono ?_; rintro e w7 ⟨rfl, y7⟩
        obtain ⟨x0b, x1b, x2b, x3b, x4b, x5b, x6b, _, _, _, _, _, _, _⟩ := blk7 (b6.chg_ y7 (by simp))
        go_wp2_with fail
        go_meet
        exact ⟨rfl, y7⟩
      case true =>
        exact absurd hns (by simp [hkb])
  case rest =>
    obtain ⟨rfl, y7⟩ := hcut
    have H7 := H6.new y7; have o7 := o6.chg_ y7 (by simp); have b7 := b6.chg_ y7 (by simp); have k7 := k6.trans y7 (by simp)
    clear H6 o6 b6 k6 y7 x0_ x1_ x2_ x3_ x4_ x5_ x6_ hM hns
    go_wp2_with fail
    refine (hFo _ _ H7).mono ?_; rintro e w1 ⟨rfl, H8, f8⟩
    have o8 := f8.blk o7 (by simp)
    have b8 := f8.blk b7 (by simp)
    have hm1 : Blk w1 m 95 #[.pointer (some ⟨q, 0, none⟩), .int .i64 sr, .pointer (some ⟨t, 0, none⟩)] := H8.st
    have hbl := H8.lt b (by simp [mB])
    have hWk := hWk0 _ w1 H8
    have f9 := (Far.of_new (F := F) k7).trans (f8.less (fun i hi => by simp [hi]))
    clear hFo hWk0 H7 o7 b7 f8 k7
    go_wp2_with fail
    refine wp_region_noPanic ?_
    refine wp_region_held_drew (S := (fun w' => Blk w' m 95 #[.pointer (some ⟨q, 0, none⟩), .int .i64 sr, .pointer (some ⟨t, 0, none⟩)])) (by kernel_rfl) ?_ (fun hHeld => ?_)
    · exact hm1.drew
    (refine tk 0 (some 61) (v := ?_) rfl ?_ ?_; rotate_left; · (intro w hSw; (try dsimp only at hSw); obtain ⟨c0_, c1_, c2_⟩ := blk3 hSw; go_simp; (try with_reducible rfl)))
    (try simp only [Act.put, tA, tZ, tS])
    (refine tk 1 (some 62) (v := ?_) rfl ?_ ?_; rotate_left; · (intro w hSw; (try dsimp only at hSw); obtain ⟨c0_, c1_, c2_⟩ := blk3 hSw; go_simp; (try with_reducible rfl)))
    (try simp only [Act.put, tA, tZ, tS])
    (refine tk 2 (some 63) (v := ?_) rfl ?_ ?_; rotate_left; · (intro w hSw; (try dsimp only at hSw); obtain ⟨c0_, c1_, c2_⟩ := blk3 hSw; go_simp; (try with_reducible rfl)))
    (try simp only [Act.put, tA, tZ, tS])
    (refine tk 3 (some 64) (v := ?_) rfl ?_ ?_; rotate_left; · (intro w hSw; (try dsimp only at hSw); obtain ⟨c0_, c1_, c2_⟩ := blk3 hSw; go_simp; (try with_reducible rfl)))
    (try simp only [Act.put, tA, tZ, tS])
    (refine tk 4 (some 65) (v := ?_) rfl ?_ ?_; rotate_left; · (intro w hSw; (try dsimp only at hSw); obtain ⟨c0_, c1_, c2_⟩ := blk3 hSw; go_simp; (try with_reducible rfl)))
    (try simp only [Act.put, tA, tZ, tS])
    (refine tk 5 (some 66) (v := ?_) rfl ?_ ?_; rotate_left; · (intro w hSw; (try dsimp only at hSw); obtain ⟨c0_, c1_, c2_⟩ := blk3 hSw; go_simp; (try with_reducible rfl)))
    (try simp only [Act.put, tA, tZ, tS])
    (refine tk 6 (some 67) (v := ?_) rfl ?_ ?_; rotate_left; · (intro w hSw; (try dsimp only at hSw); obtain ⟨c0_, c1_, c2_⟩ := blk3 hSw; go_simp; (try with_reducible rfl)))
    (try simp only [Act.put, tA, tZ, tS])
    (refine tk 7 (some 68) (v := ?_) rfl ?_ ?_; rotate_left; · (intro w hSw; (try dsimp only at hSw); obtain ⟨c0_, c1_, c2_⟩ := blk3 hSw; go_simp; (try with_reducible rfl)))
    (try simp only [Act.put, tA, tZ, tS])
    (refine tk 8 (some 69) (v := ?_) rfl ?_ ?_; rotate_left; · (intro w hSw; (try dsimp only at hSw); obtain ⟨c0_, c1_, c2_⟩ := blk3 hSw; go_simp; (try with_reducible rfl)))
    (try simp only [Act.put, tA, tZ, tS])
    (refine tk 9 (some 70) (v := ?_) rfl ?_ ?_; rotate_left; · (intro w hSw; (try dsimp only at hSw); obtain ⟨c0_, c1_, c2_⟩ := blk3 hSw; go_simp; (try with_reducible rfl)))
    (try simp only [Act.put, tA, tZ, tS])
    (refine tk 10 (some 71) (v := ?_) rfl ?_ ?_; rotate_left; · (intro w hSw; (try dsimp only at hSw); obtain ⟨c0_, c1_, c2_⟩ := blk3 hSw; go_simp; (try with_reducible rfl)))
    (try simp only [Act.put, tA, tZ, tS])
    refine wpAnyH_ready (rs := [11, 16]) (by kernel_rfl) (by simp) ?_; refine AllReadyH.cons (o := _) rfl (fun K hK => ?_) (AllReadyH.cons (o := _) rfl (fun K hK => ?_) AllReadyH.nil)
    · go_simp
      (go_at_call 59; refine (hWk _ ((Chg.refl [] w1).drew)).mono ?_; rintro e u1 ⟨A, c, rfl, r1, l1, y1⟩; simp only at *)
      refine hK.out _ _ (by (try dsimp only); exact hHeld.chg_ y1 (by simp)) (fun hHeld => ?_)
      clear hK K
      (try simp only [Act.put, tA, tZ, tS])
      (refine tk 12 (some 60) (v := ?_) rfl ?_ ?_; rotate_left; · (intro w hSw; (try dsimp only at hSw); go_simp; (try with_reducible rfl)))
      (try simp only [Act.put, tA, tZ, tS])
      (refine tk 13 (some 73) (v := ?_) rfl ?_ ?_; rotate_left; · (intro w hSw; (try dsimp only at hSw); go_simp; (try with_reducible rfl)))
      (try simp only [Act.put, tA, tZ, tS])
      (refine tk 14 (some 74) (v := ?_) rfl ?_ ?_; rotate_left; · (intro w hSw; (try dsimp only at hSw); go_simp; (try with_reducible rfl)))
      (try simp only [Act.put, tA, tZ, tS])
      (refine tk 15 (some 75) (v := ?_) rfl ?_ ?_; rotate_left; · (intro w hSw; (try dsimp only at hSw); go_simp; (try with_reducible rfl)))
      (try simp only [Act.put, tA, tZ, tS])
      refine wpAnyH_ready (rs := [16]) (by kernel_rfl) (by simp) ?_; refine AllReadyH.cons (o := _) rfl (fun K hK => ?_) AllReadyH.nil
      go_simp
      skip
      refine hK.out _ _ (by (try dsimp only); exact Blk.alloc hHeld _) (fun hHeld => ?_)
      clear hK K
      (try simp only [Act.put, tA, tZ, tS])
      have x0 : Chg [] w1 (u1.alloc (.cells #[.slice none 0 0, .int .i64 0, .bool false, .bool false, .bool false, .bool false, .bool false] 108)) := (((Chg.refl [] w1).drew).trans y1 (by simp)).alloc _
      have hp0 := Blk.new u1 108 #[.slice none 0 0, .int .i64 0, .bool false, .bool false, .bool false, .bool false, .bool false]
      have hne : m ≠ u1.heap.size := by have h1 := hm1.lt; have h2 := x0.size; have h3 := y1.size; simp at h2 h3; omega
      have hlo : ∀ g ∈ (Value.slice A ats.length c).ownBlock.toList, w1.heap.size ≤ g ∧ g ≠ u1.heap.size := fun g hg => ⟨by simpa using l1 g hg, by have := OwnA.lt r1 g hg; omega⟩
      have r2 := OwnA.self r1 ((Chg.refl [] u1).alloc (.cells #[.slice none 0 0, .int .i64 0, .bool false, .bool false, .bool false, .bool false, .bool false] 108))
      have hpl : w1.heap.size ≤ u1.heap.size := by simpa using y1.size
      clear r1 l1 y1
      generalize hu2 : u1.alloc (.cells #[.slice none 0 0, .int .i64 0, .bool false, .bool false, .bool false, .bool false, .bool false] 108) = u2 at *
      generalize u1.heap.size = pb at *
      clear hu2
      obtain ⟨z0, z1, z2, z3, z4, z5, z6, g0, g1, g2, g3, g4, g5, g6⟩ := blk7 hp0
      refine wpAnyH_ready (rs := [17]) (by kernel_rfl) (by simp) ?_; refine AllReadyH.cons (o := _) rfl (fun K hK => ?_) AllReadyH.nil
      go_simp
      skip
      refine hK.out _ _ (by (try dsimp only); exact far7 hHeld hne) (fun hHeld => ?_)
      clear hK K
      (try simp only [Act.put, tA, tZ, tS])
      (refine tk 18 (some 15) (v := ?_) rfl ?_ ?_; rotate_left; · (intro w hSw; (try dsimp only at hSw); go_simp; (try with_reducible rfl)))
      (try simp only [Act.put, tA, tZ, tS])
      (refine tk 19 (some 16) (v := ?_) rfl ?_ ?_; rotate_left; · (intro w hSw; (try dsimp only at hSw); go_simp; (try with_reducible rfl)))
      (try simp only [Act.put, tA, tZ, tS])
      refine wpAnyH_done (by kernel_rfl) ?_ _
      refine NoPanic.normal ?_
      have hp3 := set7 (y0 := .slice A ats.length c) (y1 := .int .i64 pg) (y2 := .bool rw) (y3 := .bool ru) (y4 := .bool rx) (y5 := .bool lg) (y6 := .bool true) hp0
      have x3 : Chg [] w1 _ := x0.trans (chg7 (y0 := .slice A ats.length c) (y1 := .int .i64 pg) (y2 := .bool rw) (y3 := .bool ru) (y4 := .bool rx) (y5 := .bool lg) (y6 := .bool true) (g := pb) (Chg.refl [pb] u2) (by simp)) (by intro i hi hm; simp at hm; subst hm; omega)
      have r3 := OwnA.chg r2 (chg7 (y0 := .slice A ats.length c) (y1 := .int .i64 pg) (y2 := .bool rw) (y3 := .bool ru) (y4 := .bool rx) (y5 := .bool lg) (y6 := .bool true) (g := pb) (Chg.refl [pb] u2) (by simp)) (fun g hg hm => by simp at hm; exact (hlo g hg).2 hm)
      have hpb := hp3.lt
      clear hHeld r2 hp0 x0 z0 z1 z2 z3 z4 z5 z6 g0 g1 g2 g3 g4 g5 g6
      generalize ((((((u2.setCell ⟨pb, 0, none⟩ (.slice A ats.length c)).setCell ⟨pb, 1, none⟩ (.int .i64 pg)).setCell ⟨pb, 2, none⟩ (.bool rw)).setCell ⟨pb, 3, none⟩ (.bool ru)).setCell ⟨pb, 4, none⟩ (.bool rx)).setCell ⟨pb, 5, none⟩ (.bool lg)).setCell ⟨pb, 6, none⟩ (.bool true) = w3 at *
      have hlo := fun g hg => (hlo g hg).1
      clear hne hWk
      have H10 := H8.more (G := [pb]) x3 (by intro i hi; simp at hi; subst hi; exact ⟨hpl, hpb⟩)
      have o10 := o8.chg_ x3 (by simp)
      have b10 := b8.chg_ x3 (by simp)
      have f10 := f9.trans (Far.of_new x3)
      clear H8 o8 b8 f9 hm1 x3
      have hsl := OwnA.sla r3
      have hap : ∀ g o, A = some ⟨g, o, none⟩ → g ≠ b := fun g o e => by have h1 := hlo g (by rw [e]; simp [Value.ownBlock]); have h2 := hbl; omega
      have hmk := fun w9 (k9 : Chg [] w3 w9) => RMark_at q S p L h b n sW A c ⟨ats, pg, ⟨rw, ru, rx⟩, lg, true⟩ false w9 (H10.gu.self k9) H10.ok.wd (hsl.self k9) hall hap
      simp only [pathV] at hmk
      have hokm := H10.ok.mark ats false
      go_wp2_with fail
      refine wp_region_noPanic ?_
      refine wp_region_held_drew (S := (fun w' => Blk w' m 95 #[.pointer (some ⟨q, 0, none⟩), .int .i64 sr, .pointer (some ⟨t, 0, none⟩)] ∧ Blk w' pb 108 #[.slice A ats.length c, .int .i64 pg, .bool rw, .bool ru, .bool rx, .bool lg, .bool true])) (by kernel_rfl) ?_ (fun hHeld => ?_)
      · exact ⟨H10.st.drew, hp3.drew⟩
      (refine tk 0 (some 82) (v := ?_) rfl ?_ ?_; rotate_left; · (intro w hSw; (try dsimp only at hSw); obtain ⟨hSm, hSp⟩ := hSw; obtain ⟨c0_, c1_, c2_⟩ := blk3 hSm; obtain ⟨z0_, z1_, z2_, z3_, z4_, z5_, z6_, _, _, _, _, _, _, _⟩ := blk7 hSp; go_simp; (try with_reducible rfl)))
      (try simp only [Act.put, tA, tZ, tS])
      (refine tk 1 (some 83) (v := ?_) rfl ?_ ?_; rotate_left; · (intro w hSw; (try dsimp only at hSw); obtain ⟨hSm, hSp⟩ := hSw; obtain ⟨c0_, c1_, c2_⟩ := blk3 hSm; obtain ⟨z0_, z1_, z2_, z3_, z4_, z5_, z6_, _, _, _, _, _, _, _⟩ := blk7 hSp; go_simp; (try with_reducible rfl)))
      (try simp only [Act.put, tA, tZ, tS])
      (refine tk 2 (some 84) (v := ?_) rfl ?_ ?_; rotate_left; · (intro w hSw; (try dsimp only at hSw); obtain ⟨hSm, hSp⟩ := hSw; obtain ⟨c0_, c1_, c2_⟩ := blk3 hSm; obtain ⟨z0_, z1_, z2_, z3_, z4_, z5_, z6_, _, _, _, _, _, _, _⟩ := blk7 hSp; go_simp; (try with_reducible rfl)))
      (try simp only [Act.put, tA, tZ, tS])
      (refine tk 3 (some 85) (v := ?_) rfl ?_ ?_; rotate_left; · (intro w hSw; (try dsimp only at hSw); obtain ⟨hSm, hSp⟩ := hSw; obtain ⟨c0_, c1_, c2_⟩ := blk3 hSm; obtain ⟨z0_, z1_, z2_, z3_, z4_, z5_, z6_, _, _, _, _, _, _, _⟩ := blk7 hSp; go_simp; (try with_reducible rfl)))
      (try simp only [Act.put, tA, tZ, tS])
      (refine tk 4 (some 86) (v := ?_) rfl ?_ ?_; rotate_left; · (intro w hSw; (try dsimp only at hSw); obtain ⟨hSm, hSp⟩ := hSw; obtain ⟨c0_, c1_, c2_⟩ := blk3 hSm; obtain ⟨z0_, z1_, z2_, z3_, z4_, z5_, z6_, _, _, _, _, _, _, _⟩ := blk7 hSp; go_simp; (try with_reducible rfl)))
      (try simp only [Act.put, tA, tZ, tS])
      (refine tk 5 (some 87) (v := ?_) rfl ?_ ?_; rotate_left; · (intro w hSw; (try dsimp only at hSw); obtain ⟨hSm, hSp⟩ := hSw; obtain ⟨c0_, c1_, c2_⟩ := blk3 hSm; obtain ⟨z0_, z1_, z2_, z3_, z4_, z5_, z6_, _, _, _, _, _, _, _⟩ := blk7 hSp; go_simp; (try with_reducible rfl)))
      (try simp only [Act.put, tA, tZ, tS])
      (refine tk 6 (some 88) (v := ?_) rfl ?_ ?_; rotate_left; · (intro w hSw; (try dsimp only at hSw); obtain ⟨hSm, hSp⟩ := hSw; obtain ⟨c0_, c1_, c2_⟩ := blk3 hSm; obtain ⟨z0_, z1_, z2_, z3_, z4_, z5_, z6_, _, _, _, _, _, _, _⟩ := blk7 hSp; go_simp; (try with_reducible rfl)))
      (try simp only [Act.put, tA, tZ, tS])
      refine wpAnyH_ready (rs := [7]) (by kernel_rfl) (by simp) ?_; refine AllReadyH.cons (o := _) rfl (fun K hK => ?_) AllReadyH.nil
      go_simp
      (go_at_call 60; refine (hmk _ ((Chg.refl [] w3).drew)).mono ?_; rintro e w4 ⟨rfl, y4, g4_⟩; have pr := (H10.new ((Chg.refl [] w3).drew)).setW y4 g4_ hokm)
      refine hK.out _ _ (by (try dsimp only); exact ⟨pr.1.st, pr.2.blk hHeld.2 (by simp)⟩) (fun hHeld => ?_)
      clear hK K
      (try simp only [Act.put, tA, tZ, tS])
      refine wpAnyH_done (by kernel_rfl) ?_ _
      refine NoPanic.normal ?_
      have f11 := (Far.of_new ((Chg.refl [] w3).drew)).trans pr.2
      have H11 := pr.1
      have o11 := f11.blk o10 (by simp)
      have b11 := f11.blk b10 (by simp)
      have p11 := f11.blk hp3 (by simp)
      clear hHeld hmk hsl hap y4 g4_ hp3 r3 H10 o10 b10 pr hokm
      generalize hW4 : markP n L ats false sW = W4 at *
      have HW4 := Lib.hid hW4
      clear hW4
      have f12 := f10.trans (f11.less (G := F) (fun i hi => by simp [hi]))
      clear f10 f11
      obtain ⟨z0_, z1_, z2_, z3_, z4_, z5_, z6_, _, _, _, _, _, _, _⟩ := blk7 p11
      obtain ⟨x0_, x1_, x2_, x3_, x4_, x5_, x6_, y0_, y1_, y2_, y3_, y4_, y5_, y6_⟩ := blk7 b11
      have hne : gx ≠ pb := fun e => by subst e; exact Blk.type_ne b11 p11 (by decide) rfl
      have hne2 : ¬ pb = gx := fun e => hne e.symm
      go_wp2_with fail
      have hk7 := chg7 (y0 := .int .i64 0) (y1 := .int .i64 (pageN a : Int)) (y2 := .int .i64 pg) (y3 := .bool rw) (y4 := .bool ru) (y5 := .bool rx) (y6 := .bool true) (g := gx) (Chg.refl [gx] w4) (by simp)
      have H12 := H11.turn (by simp) hk7 hgx.1
      have o12 := o11.chg_ hk7 (by simpa using hgx.2)
      have b12 := set7 (y0 := .int .i64 0) (y1 := .int .i64 (pageN a : Int)) (y2 := .int .i64 pg) (y3 := .bool rw) (y4 := .bool ru) (y5 := .bool rx) (y6 := .bool true) b11
      have f13 := f12.trans ⟨_, hk7, by simp; exact hgF⟩
      generalize ((((((w4.setCell ⟨gx, 0, none⟩ (.int .i64 0)).setCell ⟨gx, 1, none⟩ (.int .i64 (pageN a : Int))).setCell ⟨gx, 2, none⟩ (.int .i64 pg)).setCell ⟨gx, 3, none⟩ (.bool rw)).setCell ⟨gx, 4, none⟩ (.bool ru)).setCell ⟨gx, 5, none⟩ (.bool rx)).setCell ⟨gx, 6, none⟩ (.bool true) = w5 at *
      clear hk7 H11 o11 b11 p11 f12 z0_ z1_ z2_ z3_ z4_ z5_ z6_ x0_ x1_ x2_ x3_ x4_ x5_ x6_ y0_ y1_ y2_ y3_ y4_ y5_ y6_
      refine wp_region_noPanic ?_
      refine wp_region_held_drew (S := (fun w' => Blk w' m 95 #[.pointer (some ⟨q, 0, none⟩), .int .i64 sr, .pointer (some ⟨t, 0, none⟩)] ∧ Blk w' gx 62 #[.int .i64 0, .int .i64 (pageN a : Int), .int .i64 pg, .bool rw, .bool ru, .bool rx, .bool true])) (by kernel_rfl) ?_ (fun hHeld => ?_)
      · exact ⟨H12.st.drew, b12.drew⟩
      (refine tk 0 (some 102) (v := ?_) rfl ?_ ?_; rotate_left; · (intro w hSw; (try dsimp only at hSw); obtain ⟨hSm, hSp⟩ := hSw; obtain ⟨c0_, c1_, c2_⟩ := blk3 hSm; obtain ⟨q0_, q1_, q2_, q3_, q4_, q5_, q6_, _, _, _, _, _, _, _⟩ := blk7 hSp; go_simp; (try with_reducible rfl)))
      (try simp only [Act.put, tA, tZ, tS])
      (refine tk 1 (some 103) (v := ?_) rfl ?_ ?_; rotate_left; · (intro w hSw; (try dsimp only at hSw); obtain ⟨hSm, hSp⟩ := hSw; obtain ⟨c0_, c1_, c2_⟩ := blk3 hSm; obtain ⟨q0_, q1_, q2_, q3_, q4_, q5_, q6_, _, _, _, _, _, _, _⟩ := blk7 hSp; go_simp; (try with_reducible rfl)))
      (try simp only [Act.put, tA, tZ, tS])
      (refine tk 2 (some 104) (v := ?_) rfl ?_ ?_; rotate_left; · (intro w hSw; (try dsimp only at hSw); obtain ⟨hSm, hSp⟩ := hSw; obtain ⟨c0_, c1_, c2_⟩ := blk3 hSm; obtain ⟨q0_, q1_, q2_, q3_, q4_, q5_, q6_, _, _, _, _, _, _, _⟩ := blk7 hSp; go_simp; (try with_reducible rfl)))
      (try simp only [Act.put, tA, tZ, tS])
      (refine tk 3 (some 105) (v := ?_) rfl ?_ ?_; rotate_left; · (intro w hSw; (try dsimp only at hSw); obtain ⟨hSm, hSp⟩ := hSw; obtain ⟨c0_, c1_, c2_⟩ := blk3 hSm; obtain ⟨q0_, q1_, q2_, q3_, q4_, q5_, q6_, _, _, _, _, _, _, _⟩ := blk7 hSp; go_simp; (try with_reducible rfl)))
      (try simp only [Act.put, tA, tZ, tS])
      (refine tk 4 (some 106) (v := ?_) rfl ?_ ?_; rotate_left; · (intro w hSw; (try dsimp only at hSw); obtain ⟨hSm, hSp⟩ := hSw; obtain ⟨c0_, c1_, c2_⟩ := blk3 hSm; obtain ⟨q0_, q1_, q2_, q3_, q4_, q5_, q6_, _, _, _, _, _, _, _⟩ := blk7 hSp; go_simp; (try with_reducible rfl)))
      (try simp only [Act.put, tA, tZ, tS])
      refine wpAnyH_ready (rs := [5]) (by kernel_rfl) (by simp) ?_; refine AllReadyH.cons (o := _) rfl (fun K hK => ?_) AllReadyH.nil
      go_simp
      (go_at_call 61; refine (RTPut_b ⟨0, (pageN a : Int), pg, rw, ru, rx, true⟩ (H12.new ((Chg.refl [] w5).drew)).tb).mono ?_; rintro e w6 ⟨rfl, h6, f6⟩)
      refine hK.out _ _ (by (try dsimp only); exact ⟨f6.blk hHeld.1 (by simp [mB]), f6.blk hHeld.2 (by simp)⟩) (fun hHeld => ?_)
      clear hK K
      (try simp only [Act.put, tA, tZ, tS])
      refine wpAnyH_done (by kernel_rfl) ?_ _
      refine NoPanic.normal ?_
      have H13 := (H12.new ((Chg.refl [] w5).drew)).setT h6 f6 (H12.ok.put (x := ⟨0, (pageN a : Int), pg, rw, ru, rx, true⟩) ⟨rfl, path_g0 hgl.1, hgl.2.2⟩)
      have o13 := f6.blk (o12.drew) (by simp)
      have b13 := f6.blk (b12.drew) (by simp)
      have f14 := f13.trans ((Far.of_new ((Chg.refl [] w5).drew)).trans (f6.less (G := F) (fun i hi => by simp [hi])))
      clear hHeld H12 o12 b12 f13 h6 f6
      have hW2 := hWd
      go_wp2_with fail
      refine (hW2 _).mono ?_; rintro e t1 ⟨rfl, y1⟩
      have Ht1 := H13.new y1; have ot1 := o13.chg_ y1 (by simp); have bt1 := b13.chg_ y1 (by simp)
      go_wp2_with fail
      refine wp_region_noPanic ?_
      refine wp_region_held_drew (S := (fun w' => Blk w' m 95 #[.pointer (some ⟨q, 0, none⟩), .int .i64 sr, .pointer (some ⟨t, 0, none⟩)] ∧ Blk w' gx 62 #[.int .i64 0, .int .i64 (pageN a : Int), .int .i64 pg, .bool rw, .bool ru, .bool rx, .bool true])) (by kernel_rfl) ?_ (fun hHeld => ?_)
      · exact ⟨Ht1.st.drew, bt1.drew⟩
      (refine tk 0 (some 123) (v := ?_) rfl ?_ ?_; rotate_left; · (intro w hSw; (try dsimp only at hSw); obtain ⟨hSm, hSp⟩ := hSw; obtain ⟨c0_, c1_, c2_⟩ := blk3 hSm; obtain ⟨q0_, q1_, q2_, q3_, q4_, q5_, q6_, _, _, _, _, _, _, _⟩ := blk7 hSp; go_simp; (try with_reducible rfl)))
      (try simp only [Act.put, tA, tZ, tS])
      (refine tk 1 (some 124) (v := ?_) rfl ?_ ?_; rotate_left; · (intro w hSw; (try dsimp only at hSw); obtain ⟨hSm, hSp⟩ := hSw; obtain ⟨c0_, c1_, c2_⟩ := blk3 hSm; obtain ⟨q0_, q1_, q2_, q3_, q4_, q5_, q6_, _, _, _, _, _, _, _⟩ := blk7 hSp; go_simp; (try with_reducible rfl)))
      (try simp only [Act.put, tA, tZ, tS])
      (refine tk 2 (some 125) (v := ?_) rfl ?_ ?_; rotate_left; · (intro w hSw; (try dsimp only at hSw); obtain ⟨hSm, hSp⟩ := hSw; obtain ⟨c0_, c1_, c2_⟩ := blk3 hSm; obtain ⟨q0_, q1_, q2_, q3_, q4_, q5_, q6_, _, _, _, _, _, _, _⟩ := blk7 hSp; go_simp; (try with_reducible rfl)))
      (try simp only [Act.put, tA, tZ, tS])
      (refine tk 3 (some 126) (v := ?_) rfl ?_ ?_; rotate_left; · (intro w hSw; (try dsimp only at hSw); obtain ⟨hSm, hSp⟩ := hSw; obtain ⟨c0_, c1_, c2_⟩ := blk3 hSm; obtain ⟨q0_, q1_, q2_, q3_, q4_, q5_, q6_, _, _, _, _, _, _, _⟩ := blk7 hSp; go_simp; (try with_reducible rfl)))
      (try simp only [Act.put, tA, tZ, tS])
      (refine tk 4 (some 127) (v := ?_) rfl ?_ ?_; rotate_left; · (intro w hSw; (try dsimp only at hSw); obtain ⟨hSm, hSp⟩ := hSw; obtain ⟨c0_, c1_, c2_⟩ := blk3 hSm; obtain ⟨q0_, q1_, q2_, q3_, q4_, q5_, q6_, _, _, _, _, _, _, _⟩ := blk7 hSp; go_simp; (try with_reducible rfl)))
      (try simp only [Act.put, tA, tZ, tS])
      (refine tk 5 (some 128) (v := ?_) rfl ?_ ?_; rotate_left; · (intro w hSw; (try dsimp only at hSw); obtain ⟨hSm, hSp⟩ := hSw; obtain ⟨c0_, c1_, c2_⟩ := blk3 hSm; obtain ⟨q0_, q1_, q2_, q3_, q4_, q5_, q6_, _, _, _, _, _, _, _⟩ := blk7 hSp; go_simp; (try with_reducible rfl)))
      (try simp only [Act.put, tA, tZ, tS])
      (refine tk 6 (some 129) (v := ?_) rfl ?_ ?_; rotate_left; · (intro w hSw; (try dsimp only at hSw); obtain ⟨hSm, hSp⟩ := hSw; obtain ⟨c0_, c1_, c2_⟩ := blk3 hSm; obtain ⟨q0_, q1_, q2_, q3_, q4_, q5_, q6_, _, _, _, _, _, _, _⟩ := blk7 hSp; go_simp; (try with_reducible rfl)))
      (try simp only [Act.put, tA, tZ, tS])
      refine wpAnyH_ready (rs := [7]) (by kernel_rfl) (by simp) ?_; refine AllReadyH.cons (o := _) rfl (fun K hK => ?_) AllReadyH.nil
      go_simp
      (go_at_call 63; refine (RGuGet_at q S p L h b n _ pg (wordN a) _ (Ht1.new ((Chg.refl [] t1).drew)).gu).mono ?_; rintro e t2 ⟨rfl, rfl⟩)
      refine hK.out _ _ (by (try dsimp only); exact hHeld) (fun hHeld => ?_)
      clear hK K
      (try simp only)
      (refine tk 8 (some 122) (v := ?_) rfl ?_ ?_; rotate_left; · (intro w hSw; (try dsimp only at hSw); go_simp; (try with_reducible rfl)))
      (try simp only [Act.put, tA, tZ, tS])
      (refine tk 9 (some 131) (v := ?_) rfl ?_ ?_; rotate_left; · (intro w hSw; (try dsimp only at hSw); go_simp; (try with_reducible rfl)))
      (try simp only [Act.put, tA, tZ, tS])
      (refine tk 10 (some 132) (v := ?_) rfl ?_ ?_; rotate_left; · (intro w hSw; (try dsimp only at hSw); go_simp; (try with_reducible rfl)))
      (try simp only [Act.put, tA, tZ, tS])
      (refine tk 11 (some 18) (v := ?_) rfl ?_ ?_; rotate_left; · (intro w hSw; (try dsimp only at hSw); go_simp; (try with_reducible rfl)))
      (try simp only [Act.put, tA, tZ, tS])
      (refine tk 12 (some 19) (v := ?_) rfl ?_ ?_; rotate_left; · (intro w hSw; (try dsimp only at hSw); go_simp; (try with_reducible rfl)))
      (try simp only [Act.put, tA, tZ, tS])
      refine wpAnyH_done (by kernel_rfl) ?_ _
      refine NoPanic.normal ?_
      have Ht2 := Ht1.new ((Chg.refl [] t1).drew)
      have ot2 := ot1.drew
      obtain ⟨ra0, ra1, ra2, ra3, za0, za1, za2, za3⟩ := blk4 ot1
      obtain ⟨r0, r1, r2, r3, z0, z1, z2, z3⟩ := blk4 ot2
      go_wp2_with fail
      refine bodyPost_ret (cell_ret rfl (set4 ot2) rfl Tryz.underlying39 rfl (by kernel_rfl)) rfl ?_
      have hk := chg4 (y0 := .int .i64 0) (y1 := .int .u64 (getG n W4 L pg (wordN a))) (y2 := .int .i64 0) (y3 := .int .u64 0) (g := w.heap.size) (Chg.refl [w.heap.size] t1.drew) (by simp)
      have hrl := (Ht2.turn (by simp) hk hs0).less (G := F) (fun i hi => by simp only [List.mem_append]; first | exact .inr hi | exact .inr (.inr hi) | exact .inr (.inr (.inr hi)))
      have hW4 := HW4.out
      clear HW4
      subst hW4
      exact ⟨rfl, hrl, (f14.trans (Far.of_new (y1.trans ((Chg.refl [] t1).drew) (by simp)))).trans ⟨_, hk, by simpa using nF.out 0⟩⟩
    · go_simp
      skip
      refine hK.out _ _ (by (try dsimp only); exact Blk.alloc hHeld _) (fun hHeld => ?_)
      clear hK K
      (try simp only [Act.put, tA, tZ, tS])
      have x9 : Chg [] w1 (w1.drew.alloc (.cells #[.slice none 0 0, .int .i64 0, .bool false, .bool false, .bool false, .bool false, .bool false] 108)) := ((Chg.refl [] w1).drew).alloc _
      have hp9 : Blk (w1.drew.alloc (.cells #[.slice none 0 0, .int .i64 0, .bool false, .bool false, .bool false, .bool false, .bool false] 108)) w1.heap.size 108 #[.slice none 0 0, .int .i64 0, .bool false, .bool false, .bool false, .bool false, .bool false] := Blk.new w1.drew _ _
      refine wpAnyH_ready (rs := [11]) (by kernel_rfl) (by simp) ?_; refine AllReadyH.cons (o := _) rfl (fun K hK => ?_) AllReadyH.nil
      go_simp
      (go_at_call 59; refine (hWk _ x9).mono ?_; rintro e u1 ⟨A, c, rfl, r1, l1, y1⟩; simp only at *)
      refine hK.out _ _ (by (try dsimp only); exact hHeld.chg_ y1 (by simp)) (fun hHeld => ?_)
      clear hK K
      (try simp only [Act.put, tA, tZ, tS])
      (refine tk 12 (some 60) (v := ?_) rfl ?_ ?_; rotate_left; · (intro w hSw; (try dsimp only at hSw); go_simp; (try with_reducible rfl)))
      (try simp only [Act.put, tA, tZ, tS])
      (refine tk 13 (some 73) (v := ?_) rfl ?_ ?_; rotate_left; · (intro w hSw; (try dsimp only at hSw); go_simp; (try with_reducible rfl)))
      (try simp only [Act.put, tA, tZ, tS])
      (refine tk 14 (some 74) (v := ?_) rfl ?_ ?_; rotate_left; · (intro w hSw; (try dsimp only at hSw); go_simp; (try with_reducible rfl)))
      (try simp only [Act.put, tA, tZ, tS])
      (refine tk 15 (some 75) (v := ?_) rfl ?_ ?_; rotate_left; · (intro w hSw; (try dsimp only at hSw); go_simp; (try with_reducible rfl)))
      (try simp only [Act.put, tA, tZ, tS])
      have x0 : Chg [] w1 u1 := x9.trans y1 (by simp)
      have hp0 := hp9.chg_ y1 (by simp)
      obtain ⟨pb, hpe⟩ : ∃ pb, pb = w1.heap.size := ⟨_, rfl⟩
      have hne : m ≠ pb := by have h1 := hm1.lt; omega
      have hlo : ∀ g ∈ (Value.slice A ats.length c).ownBlock.toList, w1.heap.size ≤ g ∧ g ≠ pb := fun g hg => by have := l1 g hg; simp at this; omega
      have hpl : w1.heap.size ≤ pb := by omega
      rw [← hpe] at hp0 ⊢
      have r2 := r1
      clear r1 l1 y1 x9 hp9 hpe
      generalize hu2 : u1 = u2 at *
      clear hu2
      obtain ⟨z0, z1, z2, z3, z4, z5, z6, g0, g1, g2, g3, g4, g5, g6⟩ := blk7 hp0
      refine wpAnyH_ready (rs := [17]) (by kernel_rfl) (by simp) ?_; refine AllReadyH.cons (o := _) rfl (fun K hK => ?_) AllReadyH.nil
      go_simp
      skip
      refine hK.out _ _ (by (try dsimp only); exact far7 hHeld hne) (fun hHeld => ?_)
      clear hK K
      (try simp only [Act.put, tA, tZ, tS])
      (refine tk 18 (some 15) (v := ?_) rfl ?_ ?_; rotate_left; · (intro w hSw; (try dsimp only at hSw); go_simp; (try with_reducible rfl)))
      (try simp only [Act.put, tA, tZ, tS])
      (refine tk 19 (some 16) (v := ?_) rfl ?_ ?_; rotate_left; · (intro w hSw; (try dsimp only at hSw); go_simp; (try with_reducible rfl)))
      (try simp only [Act.put, tA, tZ, tS])
      refine wpAnyH_done (by kernel_rfl) ?_ _
      refine NoPanic.normal ?_
      have hp3 := set7 (y0 := .slice A ats.length c) (y1 := .int .i64 pg) (y2 := .bool rw) (y3 := .bool ru) (y4 := .bool rx) (y5 := .bool lg) (y6 := .bool true) hp0
      have x3 : Chg [] w1 _ := x0.trans (chg7 (y0 := .slice A ats.length c) (y1 := .int .i64 pg) (y2 := .bool rw) (y3 := .bool ru) (y4 := .bool rx) (y5 := .bool lg) (y6 := .bool true) (g := pb) (Chg.refl [pb] u2) (by simp)) (by intro i hi hm; simp at hm; subst hm; omega)
      have r3 := OwnA.chg r2 (chg7 (y0 := .slice A ats.length c) (y1 := .int .i64 pg) (y2 := .bool rw) (y3 := .bool ru) (y4 := .bool rx) (y5 := .bool lg) (y6 := .bool true) (g := pb) (Chg.refl [pb] u2) (by simp)) (fun g hg hm => by simp at hm; exact (hlo g hg).2 hm)
      have hpb := hp3.lt
      clear hHeld r2 hp0 x0 z0 z1 z2 z3 z4 z5 z6 g0 g1 g2 g3 g4 g5 g6
      generalize ((((((u2.setCell ⟨pb, 0, none⟩ (.slice A ats.length c)).setCell ⟨pb, 1, none⟩ (.int .i64 pg)).setCell ⟨pb, 2, none⟩ (.bool rw)).setCell ⟨pb, 3, none⟩ (.bool ru)).setCell ⟨pb, 4, none⟩ (.bool rx)).setCell ⟨pb, 5, none⟩ (.bool lg)).setCell ⟨pb, 6, none⟩ (.bool true) = w3 at *
      have hlo := fun g hg => (hlo g hg).1
      clear hne hWk
      have H10 := H8.more (G := [pb]) x3 (by intro i hi; simp at hi; subst hi; exact ⟨hpl, hpb⟩)
      have o10 := o8.chg_ x3 (by simp)
      have b10 := b8.chg_ x3 (by simp)
      have f10 := f9.trans (Far.of_new x3)
      clear H8 o8 b8 f9 hm1 x3
      have hsl := OwnA.sla r3
      have hap : ∀ g o, A = some ⟨g, o, none⟩ → g ≠ b := fun g o e => by have h1 := hlo g (by rw [e]; simp [Value.ownBlock]); have h2 := hbl; omega
      have hmk := fun w9 (k9 : Chg [] w3 w9) => RMark_at q S p L h b n sW A c ⟨ats, pg, ⟨rw, ru, rx⟩, lg, true⟩ false w9 (H10.gu.self k9) H10.ok.wd (hsl.self k9) hall hap
      simp only [pathV] at hmk
      have hokm := H10.ok.mark ats false
      go_wp2_with fail
      refine wp_region_noPanic ?_
      refine wp_region_held_drew (S := (fun w' => Blk w' m 95 #[.pointer (some ⟨q, 0, none⟩), .int .i64 sr, .pointer (some ⟨t, 0, none⟩)] ∧ Blk w' pb 108 #[.slice A ats.length c, .int .i64 pg, .bool rw, .bool ru, .bool rx, .bool lg, .bool true])) (by kernel_rfl) ?_ (fun hHeld => ?_)
      · exact ⟨H10.st.drew, hp3.drew⟩
      (refine tk 0 (some 82) (v := ?_) rfl ?_ ?_; rotate_left; · (intro w hSw; (try dsimp only at hSw); obtain ⟨hSm, hSp⟩ := hSw; obtain ⟨c0_, c1_, c2_⟩ := blk3 hSm; obtain ⟨z0_, z1_, z2_, z3_, z4_, z5_, z6_, _, _, _, _, _, _, _⟩ := blk7 hSp; go_simp; (try with_reducible rfl)))
      (try simp only [Act.put, tA, tZ, tS])
      (refine tk 1 (some 83) (v := ?_) rfl ?_ ?_; rotate_left; · (intro w hSw; (try dsimp only at hSw); obtain ⟨hSm, hSp⟩ := hSw; obtain ⟨c0_, c1_, c2_⟩ := blk3 hSm; obtain ⟨z0_, z1_, z2_, z3_, z4_, z5_, z6_, _, _, _, _, _, _, _⟩ := blk7 hSp; go_simp; (try with_reducible rfl)))
      (try simp only [Act.put, tA, tZ, tS])
      (refine tk 2 (some 84) (v := ?_) rfl ?_ ?_; rotate_left; · (intro w hSw; (try dsimp only at hSw); obtain ⟨hSm, hSp⟩ := hSw; obtain ⟨c0_, c1_, c2_⟩ := blk3 hSm; obtain ⟨z0_, z1_, z2_, z3_, z4_, z5_, z6_, _, _, _, _, _, _, _⟩ := blk7 hSp; go_simp; (try with_reducible rfl)))
      (try simp only [Act.put, tA, tZ, tS])
      (refine tk 3 (some 85) (v := ?_) rfl ?_ ?_; rotate_left; · (intro w hSw; (try dsimp only at hSw); obtain ⟨hSm, hSp⟩ := hSw; obtain ⟨c0_, c1_, c2_⟩ := blk3 hSm; obtain ⟨z0_, z1_, z2_, z3_, z4_, z5_, z6_, _, _, _, _, _, _, _⟩ := blk7 hSp; go_simp; (try with_reducible rfl)))
      (try simp only [Act.put, tA, tZ, tS])
      (refine tk 4 (some 86) (v := ?_) rfl ?_ ?_; rotate_left; · (intro w hSw; (try dsimp only at hSw); obtain ⟨hSm, hSp⟩ := hSw; obtain ⟨c0_, c1_, c2_⟩ := blk3 hSm; obtain ⟨z0_, z1_, z2_, z3_, z4_, z5_, z6_, _, _, _, _, _, _, _⟩ := blk7 hSp; go_simp; (try with_reducible rfl)))
      (try simp only [Act.put, tA, tZ, tS])
      (refine tk 5 (some 87) (v := ?_) rfl ?_ ?_; rotate_left; · (intro w hSw; (try dsimp only at hSw); obtain ⟨hSm, hSp⟩ := hSw; obtain ⟨c0_, c1_, c2_⟩ := blk3 hSm; obtain ⟨z0_, z1_, z2_, z3_, z4_, z5_, z6_, _, _, _, _, _, _, _⟩ := blk7 hSp; go_simp; (try with_reducible rfl)))
      (try simp only [Act.put, tA, tZ, tS])
      (refine tk 6 (some 88) (v := ?_) rfl ?_ ?_; rotate_left; · (intro w hSw; (try dsimp only at hSw); obtain ⟨hSm, hSp⟩ := hSw; obtain ⟨c0_, c1_, c2_⟩ := blk3 hSm; obtain ⟨z0_, z1_, z2_, z3_, z4_, z5_, z6_, _, _, _, _, _, _, _⟩ := blk7 hSp; go_simp; (try with_reducible rfl)))
      (try simp only [Act.put, tA, tZ, tS])
      refine wpAnyH_ready (rs := [7]) (by kernel_rfl) (by simp) ?_; refine AllReadyH.cons (o := _) rfl (fun K hK => ?_) AllReadyH.nil
      go_simp
      (go_at_call 60; refine (hmk _ ((Chg.refl [] w3).drew)).mono ?_; rintro e w4 ⟨rfl, y4, g4_⟩; have pr := (H10.new ((Chg.refl [] w3).drew)).setW y4 g4_ hokm)
      refine hK.out _ _ (by (try dsimp only); exact ⟨pr.1.st, pr.2.blk hHeld.2 (by simp)⟩) (fun hHeld => ?_)
      clear hK K
      (try simp only [Act.put, tA, tZ, tS])
      refine wpAnyH_done (by kernel_rfl) ?_ _
      refine NoPanic.normal ?_
      have f11 := (Far.of_new ((Chg.refl [] w3).drew)).trans pr.2
      have H11 := pr.1
      have o11 := f11.blk o10 (by simp)
      have b11 := f11.blk b10 (by simp)
      have p11 := f11.blk hp3 (by simp)
      clear hHeld hmk hsl hap y4 g4_ hp3 r3 H10 o10 b10 pr hokm
      generalize hW4 : markP n L ats false sW = W4 at *
      have HW4 := Lib.hid hW4
      clear hW4
      have f12 := f10.trans (f11.less (G := F) (fun i hi => by simp [hi]))
      clear f10 f11
      obtain ⟨z0_, z1_, z2_, z3_, z4_, z5_, z6_, _, _, _, _, _, _, _⟩ := blk7 p11
      obtain ⟨x0_, x1_, x2_, x3_, x4_, x5_, x6_, y0_, y1_, y2_, y3_, y4_, y5_, y6_⟩ := blk7 b11
      have hne : gx ≠ pb := fun e => by subst e; exact Blk.type_ne b11 p11 (by decide) rfl
      have hne2 : ¬ pb = gx := fun e => hne e.symm
      go_wp2_with fail
      have hk7 := chg7 (y0 := .int .i64 0) (y1 := .int .i64 (pageN a : Int)) (y2 := .int .i64 pg) (y3 := .bool rw) (y4 := .bool ru) (y5 := .bool rx) (y6 := .bool true) (g := gx) (Chg.refl [gx] w4) (by simp)
      have H12 := H11.turn (by simp) hk7 hgx.1
      have o12 := o11.chg_ hk7 (by simpa using hgx.2)
      have b12 := set7 (y0 := .int .i64 0) (y1 := .int .i64 (pageN a : Int)) (y2 := .int .i64 pg) (y3 := .bool rw) (y4 := .bool ru) (y5 := .bool rx) (y6 := .bool true) b11
      have f13 := f12.trans ⟨_, hk7, by simp; exact hgF⟩
      generalize ((((((w4.setCell ⟨gx, 0, none⟩ (.int .i64 0)).setCell ⟨gx, 1, none⟩ (.int .i64 (pageN a : Int))).setCell ⟨gx, 2, none⟩ (.int .i64 pg)).setCell ⟨gx, 3, none⟩ (.bool rw)).setCell ⟨gx, 4, none⟩ (.bool ru)).setCell ⟨gx, 5, none⟩ (.bool rx)).setCell ⟨gx, 6, none⟩ (.bool true) = w5 at *
      clear hk7 H11 o11 b11 p11 f12 z0_ z1_ z2_ z3_ z4_ z5_ z6_ x0_ x1_ x2_ x3_ x4_ x5_ x6_ y0_ y1_ y2_ y3_ y4_ y5_ y6_
      refine wp_region_noPanic ?_
      refine wp_region_held_drew (S := (fun w' => Blk w' m 95 #[.pointer (some ⟨q, 0, none⟩), .int .i64 sr, .pointer (some ⟨t, 0, none⟩)] ∧ Blk w' gx 62 #[.int .i64 0, .int .i64 (pageN a : Int), .int .i64 pg, .bool rw, .bool ru, .bool rx, .bool true])) (by kernel_rfl) ?_ (fun hHeld => ?_)
      · exact ⟨H12.st.drew, b12.drew⟩
      (refine tk 0 (some 102) (v := ?_) rfl ?_ ?_; rotate_left; · (intro w hSw; (try dsimp only at hSw); obtain ⟨hSm, hSp⟩ := hSw; obtain ⟨c0_, c1_, c2_⟩ := blk3 hSm; obtain ⟨q0_, q1_, q2_, q3_, q4_, q5_, q6_, _, _, _, _, _, _, _⟩ := blk7 hSp; go_simp; (try with_reducible rfl)))
      (try simp only [Act.put, tA, tZ, tS])
      (refine tk 1 (some 103) (v := ?_) rfl ?_ ?_; rotate_left; · (intro w hSw; (try dsimp only at hSw); obtain ⟨hSm, hSp⟩ := hSw; obtain ⟨c0_, c1_, c2_⟩ := blk3 hSm; obtain ⟨q0_, q1_, q2_, q3_, q4_, q5_, q6_, _, _, _, _, _, _, _⟩ := blk7 hSp; go_simp; (try with_reducible rfl)))
      (try simp only [Act.put, tA, tZ, tS])
      (refine tk 2 (some 104) (v := ?_) rfl ?_ ?_; rotate_left; · (intro w hSw; (try dsimp only at hSw); obtain ⟨hSm, hSp⟩ := hSw; obtain ⟨c0_, c1_, c2_⟩ := blk3 hSm; obtain ⟨q0_, q1_, q2_, q3_, q4_, q5_, q6_, _, _, _, _, _, _, _⟩ := blk7 hSp; go_simp; (try with_reducible rfl)))
      (try simp only [Act.put, tA, tZ, tS])
      (refine tk 3 (some 105) (v := ?_) rfl ?_ ?_; rotate_left; · (intro w hSw; (try dsimp only at hSw); obtain ⟨hSm, hSp⟩ := hSw; obtain ⟨c0_, c1_, c2_⟩ := blk3 hSm; obtain ⟨q0_, q1_, q2_, q3_, q4_, q5_, q6_, _, _, _, _, _, _, _⟩ := blk7 hSp; go_simp; (try with_reducible rfl)))
      (try simp only [Act.put, tA, tZ, tS])
      (refine tk 4 (some 106) (v := ?_) rfl ?_ ?_; rotate_left; · (intro w hSw; (try dsimp only at hSw); obtain ⟨hSm, hSp⟩ := hSw; obtain ⟨c0_, c1_, c2_⟩ := blk3 hSm; obtain ⟨q0_, q1_, q2_, q3_, q4_, q5_, q6_, _, _, _, _, _, _, _⟩ := blk7 hSp; go_simp; (try with_reducible rfl)))
      (try simp only [Act.put, tA, tZ, tS])
      refine wpAnyH_ready (rs := [5]) (by kernel_rfl) (by simp) ?_; refine AllReadyH.cons (o := _) rfl (fun K hK => ?_) AllReadyH.nil
      go_simp
      (go_at_call 61; refine (RTPut_b ⟨0, (pageN a : Int), pg, rw, ru, rx, true⟩ (H12.new ((Chg.refl [] w5).drew)).tb).mono ?_; rintro e w6 ⟨rfl, h6, f6⟩)
      refine hK.out _ _ (by (try dsimp only); exact ⟨f6.blk hHeld.1 (by simp [mB]), f6.blk hHeld.2 (by simp)⟩) (fun hHeld => ?_)
      clear hK K
      (try simp only [Act.put, tA, tZ, tS])
      refine wpAnyH_done (by kernel_rfl) ?_ _
      refine NoPanic.normal ?_
      have H13 := (H12.new ((Chg.refl [] w5).drew)).setT h6 f6 (H12.ok.put (x := ⟨0, (pageN a : Int), pg, rw, ru, rx, true⟩) ⟨rfl, path_g0 hgl.1, hgl.2.2⟩)
      have o13 := f6.blk (o12.drew) (by simp)
      have b13 := f6.blk (b12.drew) (by simp)
      have f14 := f13.trans ((Far.of_new ((Chg.refl [] w5).drew)).trans (f6.less (G := F) (fun i hi => by simp [hi])))
      clear hHeld H12 o12 b12 f13 h6 f6
      have hW2 := hWd
      go_wp2_with fail
      refine (hW2 _).mono ?_; rintro e t1 ⟨rfl, y1⟩
      have Ht1 := H13.new y1; have ot1 := o13.chg_ y1 (by simp); have bt1 := b13.chg_ y1 (by simp)
      go_wp2_with fail
      refine wp_region_noPanic ?_
      refine wp_region_held_drew (S := (fun w' => Blk w' m 95 #[.pointer (some ⟨q, 0, none⟩), .int .i64 sr, .pointer (some ⟨t, 0, none⟩)] ∧ Blk w' gx 62 #[.int .i64 0, .int .i64 (pageN a : Int), .int .i64 pg, .bool rw, .bool ru, .bool rx, .bool true])) (by kernel_rfl) ?_ (fun hHeld => ?_)
      · exact ⟨Ht1.st.drew, bt1.drew⟩
      (refine tk 0 (some 123) (v := ?_) rfl ?_ ?_; rotate_left; · (intro w hSw; (try dsimp only at hSw); obtain ⟨hSm, hSp⟩ := hSw; obtain ⟨c0_, c1_, c2_⟩ := blk3 hSm; obtain ⟨q0_, q1_, q2_, q3_, q4_, q5_, q6_, _, _, _, _, _, _, _⟩ := blk7 hSp; go_simp; (try with_reducible rfl)))
      (try simp only [Act.put, tA, tZ, tS])
      (refine tk 1 (some 124) (v := ?_) rfl ?_ ?_; rotate_left; · (intro w hSw; (try dsimp only at hSw); obtain ⟨hSm, hSp⟩ := hSw; obtain ⟨c0_, c1_, c2_⟩ := blk3 hSm; obtain ⟨q0_, q1_, q2_, q3_, q4_, q5_, q6_, _, _, _, _, _, _, _⟩ := blk7 hSp; go_simp; (try with_reducible rfl)))
      (try simp only [Act.put, tA, tZ, tS])
      (refine tk 2 (some 125) (v := ?_) rfl ?_ ?_; rotate_left; · (intro w hSw; (try dsimp only at hSw); obtain ⟨hSm, hSp⟩ := hSw; obtain ⟨c0_, c1_, c2_⟩ := blk3 hSm; obtain ⟨q0_, q1_, q2_, q3_, q4_, q5_, q6_, _, _, _, _, _, _, _⟩ := blk7 hSp; go_simp; (try with_reducible rfl)))
      (try simp only [Act.put, tA, tZ, tS])
      (refine tk 3 (some 126) (v := ?_) rfl ?_ ?_; rotate_left; · (intro w hSw; (try dsimp only at hSw); obtain ⟨hSm, hSp⟩ := hSw; obtain ⟨c0_, c1_, c2_⟩ := blk3 hSm; obtain ⟨q0_, q1_, q2_, q3_, q4_, q5_, q6_, _, _, _, _, _, _, _⟩ := blk7 hSp; go_simp; (try with_reducible rfl)))
      (try simp only [Act.put, tA, tZ, tS])
      (refine tk 4 (some 127) (v := ?_) rfl ?_ ?_; rotate_left; · (intro w hSw; (try dsimp only at hSw); obtain ⟨hSm, hSp⟩ := hSw; obtain ⟨c0_, c1_, c2_⟩ := blk3 hSm; obtain ⟨q0_, q1_, q2_, q3_, q4_, q5_, q6_, _, _, _, _, _, _, _⟩ := blk7 hSp; go_simp; (try with_reducible rfl)))
      (try simp only [Act.put, tA, tZ, tS])
      (refine tk 5 (some 128) (v := ?_) rfl ?_ ?_; rotate_left; · (intro w hSw; (try dsimp only at hSw); obtain ⟨hSm, hSp⟩ := hSw; obtain ⟨c0_, c1_, c2_⟩ := blk3 hSm; obtain ⟨q0_, q1_, q2_, q3_, q4_, q5_, q6_, _, _, _, _, _, _, _⟩ := blk7 hSp; go_simp; (try with_reducible rfl)))
      (try simp only [Act.put, tA, tZ, tS])
      (refine tk 6 (some 129) (v := ?_) rfl ?_ ?_; rotate_left; · (intro w hSw; (try dsimp only at hSw); obtain ⟨hSm, hSp⟩ := hSw; obtain ⟨c0_, c1_, c2_⟩ := blk3 hSm; obtain ⟨q0_, q1_, q2_, q3_, q4_, q5_, q6_, _, _, _, _, _, _, _⟩ := blk7 hSp; go_simp; (try with_reducible rfl)))
      (try simp only [Act.put, tA, tZ, tS])
      refine wpAnyH_ready (rs := [7]) (by kernel_rfl) (by simp) ?_; refine AllReadyH.cons (o := _) rfl (fun K hK => ?_) AllReadyH.nil
      go_simp
      (go_at_call 63; refine (RGuGet_at q S p L h b n _ pg (wordN a) _ (Ht1.new ((Chg.refl [] t1).drew)).gu).mono ?_; rintro e t2 ⟨rfl, rfl⟩)
      refine hK.out _ _ (by (try dsimp only); exact hHeld) (fun hHeld => ?_)
      clear hK K
      (try simp only)
      (refine tk 8 (some 122) (v := ?_) rfl ?_ ?_; rotate_left; · (intro w hSw; (try dsimp only at hSw); go_simp; (try with_reducible rfl)))
      (try simp only [Act.put, tA, tZ, tS])
      (refine tk 9 (some 131) (v := ?_) rfl ?_ ?_; rotate_left; · (intro w hSw; (try dsimp only at hSw); go_simp; (try with_reducible rfl)))
      (try simp only [Act.put, tA, tZ, tS])
      (refine tk 10 (some 132) (v := ?_) rfl ?_ ?_; rotate_left; · (intro w hSw; (try dsimp only at hSw); go_simp; (try with_reducible rfl)))
      (try simp only [Act.put, tA, tZ, tS])
      (refine tk 11 (some 18) (v := ?_) rfl ?_ ?_; rotate_left; · (intro w hSw; (try dsimp only at hSw); go_simp; (try with_reducible rfl)))
      (try simp only [Act.put, tA, tZ, tS])
      (refine tk 12 (some 19) (v := ?_) rfl ?_ ?_; rotate_left; · (intro w hSw; (try dsimp only at hSw); go_simp; (try with_reducible rfl)))
      (try simp only [Act.put, tA, tZ, tS])
      refine wpAnyH_done (by kernel_rfl) ?_ _
      refine NoPanic.normal ?_
      have Ht2 := Ht1.new ((Chg.refl [] t1).drew)
      have ot2 := ot1.drew
      obtain ⟨ra0, ra1, ra2, ra3, za0, za1, za2, za3⟩ := blk4 ot1
      obtain ⟨r0, r1, r2, r3, z0, z1, z2, z3⟩ := blk4 ot2
      go_wp2_with fail
      refine bodyPost_ret (cell_ret rfl (set4 ot2) rfl Tryz.underlying39 rfl (by kernel_rfl)) rfl ?_
      have hk := chg4 (y0 := .int .i64 0) (y1 := .int .u64 (getG n W4 L pg (wordN a))) (y2 := .int .i64 0) (y3 := .int .u64 0) (g := w.heap.size) (Chg.refl [w.heap.size] t1.drew) (by simp)
      have hrl := (Ht2.turn (by simp) hk hs0).less (G := F) (fun i hi => by simp only [List.mem_append]; first | exact .inr hi | exact .inr (.inr hi) | exact .inr (.inr (.inr hi)))
      have hW4 := HW4.out
      clear HW4
      subst hW4
      exact ⟨rfl, hrl, (f14.trans (Far.of_new (y1.trans ((Chg.refl [] t1).drew) (by simp)))).trans ⟨_, hk, by simpa using nF.out 0⟩⟩

set_option maxRecDepth 100000 in
set_option maxHeartbeats 16000000 in
theorem racc_go_ld_false (k : Int) (u : Bool) (a : Nat) (v : Int) (ha : a < 18446744073709551616) (_hv : 0 ≤ v ∧ v < 18446744073709551616) (H : RModB w0 F w m t q S p L h b n s) (P : Pa) (h1 : aliB a = true) (h2 : canB a = true) (hns : (hasT s.T 0 (pageN a : Int) && servesB (getT s.T 0 (pageN a : Int)) k u) = false) (hr : walkP n s.W L s.r (pageN a : Int) k u = (P, 0, 0)) (hdy : P.dirty = false) (hk : ¬ k = 1) :
    Calls Tryz.prog 15 #[.pointer (some ⟨m, 0, none⟩), .int .i64 k, .bool u, .int .u64 a, .int .u64 v] w fun e w' => e = .returned (.agg #[.int .i64 0, .int .u64 (getG n (markP n L P.ats (k == 1) s.W) L P.g (wordN a)), .int .i64 0, .int .u64 0]) ∧ RModB w0 F w' m t q S p L h b n ⟨markP n L P.ats (k == 1) s.W, s.r, putT 512 (dropT s.T 0 (pageN a : Int)) (hitP (pageN a : Int) P (k == 1))⟩ ∧ Far F w w' := by
  have hkb : (k == 1) = false := by simpa using hk
  have hlen := walk_len hr
  have hall : P.ats.length ≤ 9223372036854775807 := by omega
  have hgl := (done_of hr).2
  have hit0 : hitP (pageN a : Int) P false = ⟨0, (pageN a : Int), P.g, P.r.w, P.r.u, P.r.x, false⟩ := by unfold hitP; rw [hdy]; rfl
  rw [hkb]
  rw [hit0]
  clear hit0
  have hc1 : Chg [] w (w.alloc (.cells #[.int .i64 0, .int .u64 0, .int .i64 0, .int .u64 0] 39)) := (Chg.refl [] w).alloc _
  have o1 := Blk.new w 39 #[.int .i64 0, .int .u64 0, .int .i64 0, .int .u64 0]
  have H1 := H.more (G := [w.heap.size]) hc1 (by intro i hi; simp at hi; subst hi; simp)
  have hs0 := H.c0.size
  have nF : Hid (∀ j, w.heap.size + j ∉ F) := Lib.hid (fun j hm => by have := H.tb.2.1 _ (List.mem_append.2 (.inr hm)); omega)
  have hAl := fun w9 => (RAligned_any a w9 ha).mono fun e w' (h : _ ∧ _) => (⟨h.1, by first | exact h.2.chg | exact h.2 ▸ Chg.refl [] w9⟩ : _ ∧ Chg [] w9 w')
  have hCa := fun w9 => (RCanon_any a w9 ha).mono fun e w' (h : _ ∧ _) => (⟨h.1, by first | exact h.2.chg | exact h.2 ▸ Chg.refl [] w9⟩ : _ ∧ Chg [] w9 w')
  have hPg := fun w9 => (RPage_any a w9 ha).mono fun e w' (h : _ ∧ _) => (⟨h.1, by first | exact h.2.chg | exact h.2 ▸ Chg.refl [] w9⟩ : _ ∧ Chg [] w9 w')
  have hWd := fun w9 => (RWord_any a w9 ha).mono fun e w' (h : _ ∧ _) => (⟨h.1, by first | exact h.2.chg | exact h.2 ▸ Chg.refl [] w9⟩ : _ ∧ Chg [] w9 w')
  rw [h1] at hAl
  rw [h2] at hCa
  have hKn := fun F w9 (H9 : RModB w0 F w9 m t q S p L h b n s) => RMKnown_b (pageN a : Int) H9
  generalize hX : getT s.T 0 (pageN a : Int) = X at *
  generalize hU : hasT s.T 0 (pageN a : Int) = U at *
  clear hX hU
  obtain ⟨xa, xp, xf, xw, xu, xx, xd⟩ := X
  simp only [Ht.v, Ht.rg, servesB] at *
  obtain ⟨sW, sr, sT⟩ := s
  simp only at *
  have hM := fun w9 => RMay_any ⟨xw, xu, xx⟩ k u w9
  generalize mayB ⟨xw, xu, xx⟩ k u = my at *
  simp only [Rg.cs] at hM
  have hWk0 := fun F w9 (H9 : RModB w0 F w9 m t q S p L h b n ⟨sW, sr, dropT sT 0 (pageN a : Int)⟩) => H9.walk (pageN a : Int) k u P 0 0 hr
  simp only at hWk0
  have hFo := fun F w9 (H9 : RModB w0 F w9 m t q S p L h b n ⟨sW, sr, sT⟩) => RMForget_b (pageN a : Int) H9
  simp only [forgetM] at hFo
  obtain ⟨ats, pg, ⟨rw, ru, rx⟩, lg, dy⟩ := P
  simp only at hdy
  subst hdy
  simp only [pathV] at *
  go_enter Tryz.func15, Tryz.ntmps15
  go_wp2_with fail
  refine (hAl _).mono ?_; rintro e w2 ⟨rfl, y2⟩
  have o2 := o1.chg_ y2 (by simp)
  have H2 := H1.new y2
  go_wp2_with fail
  refine (hCa _).mono ?_; rintro e w3 ⟨rfl, y3⟩
  have o3 := o2.chg_ y3 (by simp)
  have H3 := H2.new y3
  go_wp2_with fail
  refine (hPg _).mono ?_; rintro e w4 ⟨rfl, y4⟩
  have o4 := o3.chg_ y4 (by simp)
  have H4 := H3.new y4
  have k4 := ((hc1.trans y2 (by simp)).trans y3 (by simp)).trans y4 (by simp)
  clear o1 o2 o3 H1 H2 H3 y2 y3 y4 hAl hCa hPg hc1
  go_wp2_with fail
  refine (hKn _ _ H4).mono ?_; rintro e w5 ⟨rfl, y5⟩
  have al := (Chg.refl [] w5).alloc (.cells #[.int .i64 xa, .int .i64 xp, .int .i64 xf, .bool xw, .bool xu, .bool xx, .bool xd] 62)
  have y6 := y5.trans al (by simp)
  have H6 := H4.more (G := [w5.heap.size]) y6 (by intro i hi; simp at hi; subst hi; exact ⟨y5.size, by simp⟩)
  have o6 := o4.chg_ y6 (by simp)
  have b6 := Blk.new w5 62 #[.int .i64 xa, .int .i64 xp, .int .i64 xf, .bool xw, .bool xu, .bool xx, .bool xd]
  have k6 := k4.trans y6 (by simp)
  have hgx : w0.heap.size ≤ w5.heap.size ∧ w.heap.size ≠ w5.heap.size := ⟨Nat.le_trans hs0 (Nat.le_trans k4.size y5.size), by have := o4.lt; have := y5.size; omega⟩
  have hgF : w5.heap.size ∉ F := fun hm => by have h1 := H4.tb.2.1 _ (List.mem_append.2 (.inr (List.mem_append.2 (.inr hm)))); have h2 := y5.size; omega
  clear H4 o4 k4 y5 al y6 hKn
  obtain ⟨x0_, x1_, x2_, x3_, x4_, x5_, x6_, _, _, _, _, _, _, _⟩ := blk7 b6
  go_upto_region 7 with fail
  generalize w5.alloc (.cells #[.int .i64 xa, .int .i64 xp, .int .i64 xf, .bool xw, .bool xu, .bool xx, .bool xd] 62) = w6 at *
  generalize w5.heap.size = gx at *
  go_cut [56] from 38 to 56 (fun cv wx => cv = .bool true ∧ Chg [] w6 wx)
  case first =>
    clear hWk0 hFo
    cases U
    case false =>
      go_wp2_with fail
      go_meet
      exact ⟨rfl, Chg.refl [] _⟩
    case true =>
      cases my
      case false =>
        go_wp2_with fail
        refine (hM _).mono ?_; rintro e w7 ⟨rfl, y7⟩
        obtain ⟨x0b, x1b, x2b, x3b, x4b, x5b, x6b, _, _, _, _, _, _, _⟩ := blk7 (b6.chg_ y7 (by simp))
        go_wp2_with fail
        go_meet
        exact ⟨rfl, y7⟩
      case true =>
        exact absurd hns (by simp [hkb])
  case rest =>
    obtain ⟨rfl, y7⟩ := hcut
    have H7 := H6.new y7; have o7 := o6.chg_ y7 (by simp); have b7 := b6.chg_ y7 (by simp); have k7 := k6.trans y7 (by simp)
    clear H6 o6 b6 k6 y7 x0_ x1_ x2_ x3_ x4_ x5_ x6_ hM hns
    go_wp2_with fail
    refine (hFo _ _ H7).mono ?_; rintro e w1 ⟨rfl, H8, f8⟩
    have o8 := f8.blk o7 (by simp)
    have b8 := f8.blk b7 (by simp)
    have hm1 : Blk w1 m 95 #[.pointer (some ⟨q, 0, none⟩), .int .i64 sr, .pointer (some ⟨t, 0, none⟩)] := H8.st
    have hbl := H8.lt b (by simp [mB])
    have hWk := hWk0 _ w1 H8
    have f9 := (Far.of_new (F := F) k7).trans (f8.less (fun i hi => by simp [hi]))
    clear hFo hWk0 H7 o7 b7 f8 k7
    go_wp2_with fail
    refine wp_region_noPanic ?_
    refine wp_region_held_drew (S := (fun w' => Blk w' m 95 #[.pointer (some ⟨q, 0, none⟩), .int .i64 sr, .pointer (some ⟨t, 0, none⟩)])) (by kernel_rfl) ?_ (fun hHeld => ?_)
    · exact hm1.drew
    (refine tk 0 (some 61) (v := ?_) rfl ?_ ?_; rotate_left; · (intro w hSw; (try dsimp only at hSw); obtain ⟨c0_, c1_, c2_⟩ := blk3 hSw; go_simp; (try with_reducible rfl)))
    (try simp only [Act.put, tA, tZ, tS])
    (refine tk 1 (some 62) (v := ?_) rfl ?_ ?_; rotate_left; · (intro w hSw; (try dsimp only at hSw); obtain ⟨c0_, c1_, c2_⟩ := blk3 hSw; go_simp; (try with_reducible rfl)))
    (try simp only [Act.put, tA, tZ, tS])
    (refine tk 2 (some 63) (v := ?_) rfl ?_ ?_; rotate_left; · (intro w hSw; (try dsimp only at hSw); obtain ⟨c0_, c1_, c2_⟩ := blk3 hSw; go_simp; (try with_reducible rfl)))
    (try simp only [Act.put, tA, tZ, tS])
    (refine tk 3 (some 64) (v := ?_) rfl ?_ ?_; rotate_left; · (intro w hSw; (try dsimp only at hSw); obtain ⟨c0_, c1_, c2_⟩ := blk3 hSw; go_simp; (try with_reducible rfl)))
    (try simp only [Act.put, tA, tZ, tS])
    (refine tk 4 (some 65) (v := ?_) rfl ?_ ?_; rotate_left; · (intro w hSw; (try dsimp only at hSw); obtain ⟨c0_, c1_, c2_⟩ := blk3 hSw; go_simp; (try with_reducible rfl)))
    (try simp only [Act.put, tA, tZ, tS])
    (refine tk 5 (some 66) (v := ?_) rfl ?_ ?_; rotate_left; · (intro w hSw; (try dsimp only at hSw); obtain ⟨c0_, c1_, c2_⟩ := blk3 hSw; go_simp; (try with_reducible rfl)))
    (try simp only [Act.put, tA, tZ, tS])
    (refine tk 6 (some 67) (v := ?_) rfl ?_ ?_; rotate_left; · (intro w hSw; (try dsimp only at hSw); obtain ⟨c0_, c1_, c2_⟩ := blk3 hSw; go_simp; (try with_reducible rfl)))
    (try simp only [Act.put, tA, tZ, tS])
    (refine tk 7 (some 68) (v := ?_) rfl ?_ ?_; rotate_left; · (intro w hSw; (try dsimp only at hSw); obtain ⟨c0_, c1_, c2_⟩ := blk3 hSw; go_simp; (try with_reducible rfl)))
    (try simp only [Act.put, tA, tZ, tS])
    (refine tk 8 (some 69) (v := ?_) rfl ?_ ?_; rotate_left; · (intro w hSw; (try dsimp only at hSw); obtain ⟨c0_, c1_, c2_⟩ := blk3 hSw; go_simp; (try with_reducible rfl)))
    (try simp only [Act.put, tA, tZ, tS])
    (refine tk 9 (some 70) (v := ?_) rfl ?_ ?_; rotate_left; · (intro w hSw; (try dsimp only at hSw); obtain ⟨c0_, c1_, c2_⟩ := blk3 hSw; go_simp; (try with_reducible rfl)))
    (try simp only [Act.put, tA, tZ, tS])
    (refine tk 10 (some 71) (v := ?_) rfl ?_ ?_; rotate_left; · (intro w hSw; (try dsimp only at hSw); obtain ⟨c0_, c1_, c2_⟩ := blk3 hSw; go_simp; (try with_reducible rfl)))
    (try simp only [Act.put, tA, tZ, tS])
    refine wpAnyH_ready (rs := [11, 16]) (by kernel_rfl) (by simp) ?_; refine AllReadyH.cons (o := _) rfl (fun K hK => ?_) (AllReadyH.cons (o := _) rfl (fun K hK => ?_) AllReadyH.nil)
    · go_simp
      (go_at_call 59; refine (hWk _ ((Chg.refl [] w1).drew)).mono ?_; rintro e u1 ⟨A, c, rfl, r1, l1, y1⟩; simp only at *)
      refine hK.out _ _ (by (try dsimp only); exact hHeld.chg_ y1 (by simp)) (fun hHeld => ?_)
      clear hK K
      (try simp only [Act.put, tA, tZ, tS])
      (refine tk 12 (some 60) (v := ?_) rfl ?_ ?_; rotate_left; · (intro w hSw; (try dsimp only at hSw); go_simp; (try with_reducible rfl)))
      (try simp only [Act.put, tA, tZ, tS])
      (refine tk 13 (some 73) (v := ?_) rfl ?_ ?_; rotate_left; · (intro w hSw; (try dsimp only at hSw); go_simp; (try with_reducible rfl)))
      (try simp only [Act.put, tA, tZ, tS])
      (refine tk 14 (some 74) (v := ?_) rfl ?_ ?_; rotate_left; · (intro w hSw; (try dsimp only at hSw); go_simp; (try with_reducible rfl)))
      (try simp only [Act.put, tA, tZ, tS])
      (refine tk 15 (some 75) (v := ?_) rfl ?_ ?_; rotate_left; · (intro w hSw; (try dsimp only at hSw); go_simp; (try with_reducible rfl)))
      (try simp only [Act.put, tA, tZ, tS])
      refine wpAnyH_ready (rs := [16]) (by kernel_rfl) (by simp) ?_; refine AllReadyH.cons (o := _) rfl (fun K hK => ?_) AllReadyH.nil
      go_simp
      skip
      refine hK.out _ _ (by (try dsimp only); exact Blk.alloc hHeld _) (fun hHeld => ?_)
      clear hK K
      (try simp only [Act.put, tA, tZ, tS])
      have x0 : Chg [] w1 (u1.alloc (.cells #[.slice none 0 0, .int .i64 0, .bool false, .bool false, .bool false, .bool false, .bool false] 108)) := (((Chg.refl [] w1).drew).trans y1 (by simp)).alloc _
      have hp0 := Blk.new u1 108 #[.slice none 0 0, .int .i64 0, .bool false, .bool false, .bool false, .bool false, .bool false]
      have hne : m ≠ u1.heap.size := by have h1 := hm1.lt; have h2 := x0.size; have h3 := y1.size; simp at h2 h3; omega
      have hlo : ∀ g ∈ (Value.slice A ats.length c).ownBlock.toList, w1.heap.size ≤ g ∧ g ≠ u1.heap.size := fun g hg => ⟨by simpa using l1 g hg, by have := OwnA.lt r1 g hg; omega⟩
      have r2 := OwnA.self r1 ((Chg.refl [] u1).alloc (.cells #[.slice none 0 0, .int .i64 0, .bool false, .bool false, .bool false, .bool false, .bool false] 108))
      have hpl : w1.heap.size ≤ u1.heap.size := by simpa using y1.size
      clear r1 l1 y1
      generalize hu2 : u1.alloc (.cells #[.slice none 0 0, .int .i64 0, .bool false, .bool false, .bool false, .bool false, .bool false] 108) = u2 at *
      generalize u1.heap.size = pb at *
      clear hu2
      obtain ⟨z0, z1, z2, z3, z4, z5, z6, g0, g1, g2, g3, g4, g5, g6⟩ := blk7 hp0
      refine wpAnyH_ready (rs := [17]) (by kernel_rfl) (by simp) ?_; refine AllReadyH.cons (o := _) rfl (fun K hK => ?_) AllReadyH.nil
      go_simp
      skip
      refine hK.out _ _ (by (try dsimp only); exact far7 hHeld hne) (fun hHeld => ?_)
      clear hK K
      (try simp only [Act.put, tA, tZ, tS])
      (refine tk 18 (some 15) (v := ?_) rfl ?_ ?_; rotate_left; · (intro w hSw; (try dsimp only at hSw); go_simp; (try with_reducible rfl)))
      (try simp only [Act.put, tA, tZ, tS])
      (refine tk 19 (some 16) (v := ?_) rfl ?_ ?_; rotate_left; · (intro w hSw; (try dsimp only at hSw); go_simp; (try with_reducible rfl)))
      (try simp only [Act.put, tA, tZ, tS])
      refine wpAnyH_done (by kernel_rfl) ?_ _
      refine NoPanic.normal ?_
      have hp3 := set7 (y0 := .slice A ats.length c) (y1 := .int .i64 pg) (y2 := .bool rw) (y3 := .bool ru) (y4 := .bool rx) (y5 := .bool lg) (y6 := .bool false) hp0
      have x3 : Chg [] w1 _ := x0.trans (chg7 (y0 := .slice A ats.length c) (y1 := .int .i64 pg) (y2 := .bool rw) (y3 := .bool ru) (y4 := .bool rx) (y5 := .bool lg) (y6 := .bool false) (g := pb) (Chg.refl [pb] u2) (by simp)) (by intro i hi hm; simp at hm; subst hm; omega)
      have r3 := OwnA.chg r2 (chg7 (y0 := .slice A ats.length c) (y1 := .int .i64 pg) (y2 := .bool rw) (y3 := .bool ru) (y4 := .bool rx) (y5 := .bool lg) (y6 := .bool false) (g := pb) (Chg.refl [pb] u2) (by simp)) (fun g hg hm => by simp at hm; exact (hlo g hg).2 hm)
      have hpb := hp3.lt
      clear hHeld r2 hp0 x0 z0 z1 z2 z3 z4 z5 z6 g0 g1 g2 g3 g4 g5 g6
      generalize ((((((u2.setCell ⟨pb, 0, none⟩ (.slice A ats.length c)).setCell ⟨pb, 1, none⟩ (.int .i64 pg)).setCell ⟨pb, 2, none⟩ (.bool rw)).setCell ⟨pb, 3, none⟩ (.bool ru)).setCell ⟨pb, 4, none⟩ (.bool rx)).setCell ⟨pb, 5, none⟩ (.bool lg)).setCell ⟨pb, 6, none⟩ (.bool false) = w3 at *
      have hlo := fun g hg => (hlo g hg).1
      clear hne hWk
      have H10 := H8.more (G := [pb]) x3 (by intro i hi; simp at hi; subst hi; exact ⟨hpl, hpb⟩)
      have o10 := o8.chg_ x3 (by simp)
      have b10 := b8.chg_ x3 (by simp)
      have f10 := f9.trans (Far.of_new x3)
      clear H8 o8 b8 f9 hm1 x3
      have hsl := OwnA.sla r3
      have hap : ∀ g o, A = some ⟨g, o, none⟩ → g ≠ b := fun g o e => by have h1 := hlo g (by rw [e]; simp [Value.ownBlock]); have h2 := hbl; omega
      have hmk := fun w9 (k9 : Chg [] w3 w9) => RMark_at q S p L h b n sW A c ⟨ats, pg, ⟨rw, ru, rx⟩, lg, false⟩ false w9 (H10.gu.self k9) H10.ok.wd (hsl.self k9) hall hap
      simp only [pathV] at hmk
      have hokm := H10.ok.mark ats false
      go_wp2_with fail
      refine wp_region_noPanic ?_
      refine wp_region_held_drew (S := (fun w' => Blk w' m 95 #[.pointer (some ⟨q, 0, none⟩), .int .i64 sr, .pointer (some ⟨t, 0, none⟩)] ∧ Blk w' pb 108 #[.slice A ats.length c, .int .i64 pg, .bool rw, .bool ru, .bool rx, .bool lg, .bool false])) (by kernel_rfl) ?_ (fun hHeld => ?_)
      · exact ⟨H10.st.drew, hp3.drew⟩
      (refine tk 0 (some 82) (v := ?_) rfl ?_ ?_; rotate_left; · (intro w hSw; (try dsimp only at hSw); obtain ⟨hSm, hSp⟩ := hSw; obtain ⟨c0_, c1_, c2_⟩ := blk3 hSm; obtain ⟨z0_, z1_, z2_, z3_, z4_, z5_, z6_, _, _, _, _, _, _, _⟩ := blk7 hSp; go_simp; (try with_reducible rfl)))
      (try simp only [Act.put, tA, tZ, tS])
      (refine tk 1 (some 83) (v := ?_) rfl ?_ ?_; rotate_left; · (intro w hSw; (try dsimp only at hSw); obtain ⟨hSm, hSp⟩ := hSw; obtain ⟨c0_, c1_, c2_⟩ := blk3 hSm; obtain ⟨z0_, z1_, z2_, z3_, z4_, z5_, z6_, _, _, _, _, _, _, _⟩ := blk7 hSp; go_simp; (try with_reducible rfl)))
      (try simp only [Act.put, tA, tZ, tS])
      (refine tk 2 (some 84) (v := ?_) rfl ?_ ?_; rotate_left; · (intro w hSw; (try dsimp only at hSw); obtain ⟨hSm, hSp⟩ := hSw; obtain ⟨c0_, c1_, c2_⟩ := blk3 hSm; obtain ⟨z0_, z1_, z2_, z3_, z4_, z5_, z6_, _, _, _, _, _, _, _⟩ := blk7 hSp; go_simp; (try with_reducible rfl)))
      (try simp only [Act.put, tA, tZ, tS])
      (refine tk 3 (some 85) (v := ?_) rfl ?_ ?_; rotate_left; · (intro w hSw; (try dsimp only at hSw); obtain ⟨hSm, hSp⟩ := hSw; obtain ⟨c0_, c1_, c2_⟩ := blk3 hSm; obtain ⟨z0_, z1_, z2_, z3_, z4_, z5_, z6_, _, _, _, _, _, _, _⟩ := blk7 hSp; go_simp; (try with_reducible rfl)))
      (try simp only [Act.put, tA, tZ, tS])
      (refine tk 4 (some 86) (v := ?_) rfl ?_ ?_; rotate_left; · (intro w hSw; (try dsimp only at hSw); obtain ⟨hSm, hSp⟩ := hSw; obtain ⟨c0_, c1_, c2_⟩ := blk3 hSm; obtain ⟨z0_, z1_, z2_, z3_, z4_, z5_, z6_, _, _, _, _, _, _, _⟩ := blk7 hSp; go_simp; (try with_reducible rfl)))
      (try simp only [Act.put, tA, tZ, tS])
      (refine tk 5 (some 87) (v := ?_) rfl ?_ ?_; rotate_left; · (intro w hSw; (try dsimp only at hSw); obtain ⟨hSm, hSp⟩ := hSw; obtain ⟨c0_, c1_, c2_⟩ := blk3 hSm; obtain ⟨z0_, z1_, z2_, z3_, z4_, z5_, z6_, _, _, _, _, _, _, _⟩ := blk7 hSp; go_simp; (try with_reducible rfl)))
      (try simp only [Act.put, tA, tZ, tS])
      (refine tk 6 (some 88) (v := ?_) rfl ?_ ?_; rotate_left; · (intro w hSw; (try dsimp only at hSw); obtain ⟨hSm, hSp⟩ := hSw; obtain ⟨c0_, c1_, c2_⟩ := blk3 hSm; obtain ⟨z0_, z1_, z2_, z3_, z4_, z5_, z6_, _, _, _, _, _, _, _⟩ := blk7 hSp; go_simp; (try with_reducible rfl)))
      (try simp only [Act.put, tA, tZ, tS])
      refine wpAnyH_ready (rs := [7]) (by kernel_rfl) (by simp) ?_; refine AllReadyH.cons (o := _) rfl (fun K hK => ?_) AllReadyH.nil
      go_simp
      (go_at_call 60; refine (hmk _ ((Chg.refl [] w3).drew)).mono ?_; rintro e w4 ⟨rfl, y4, g4_⟩; have pr := (H10.new ((Chg.refl [] w3).drew)).setW y4 g4_ hokm)
      refine hK.out _ _ (by (try dsimp only); exact ⟨pr.1.st, pr.2.blk hHeld.2 (by simp)⟩) (fun hHeld => ?_)
      clear hK K
      (try simp only [Act.put, tA, tZ, tS])
      refine wpAnyH_done (by kernel_rfl) ?_ _
      refine NoPanic.normal ?_
      have f11 := (Far.of_new ((Chg.refl [] w3).drew)).trans pr.2
      have H11 := pr.1
      have o11 := f11.blk o10 (by simp)
      have b11 := f11.blk b10 (by simp)
      have p11 := f11.blk hp3 (by simp)
      clear hHeld hmk hsl hap y4 g4_ hp3 r3 H10 o10 b10 pr hokm
      generalize hW4 : markP n L ats false sW = W4 at *
      have HW4 := Lib.hid hW4
      clear hW4
      have f12 := f10.trans (f11.less (G := F) (fun i hi => by simp [hi]))
      clear f10 f11
      obtain ⟨z0_, z1_, z2_, z3_, z4_, z5_, z6_, _, _, _, _, _, _, _⟩ := blk7 p11
      obtain ⟨x0_, x1_, x2_, x3_, x4_, x5_, x6_, y0_, y1_, y2_, y3_, y4_, y5_, y6_⟩ := blk7 b11
      have hne : gx ≠ pb := fun e => by subst e; exact Blk.type_ne b11 p11 (by decide) rfl
      have hne2 : ¬ pb = gx := fun e => hne e.symm
      go_wp2_with fail
      have hk7 := chg7 (y0 := .int .i64 0) (y1 := .int .i64 (pageN a : Int)) (y2 := .int .i64 pg) (y3 := .bool rw) (y4 := .bool ru) (y5 := .bool rx) (y6 := .bool false) (g := gx) (Chg.refl [gx] w4) (by simp)
      have H12 := H11.turn (by simp) hk7 hgx.1
      have o12 := o11.chg_ hk7 (by simpa using hgx.2)
      have b12 := set7 (y0 := .int .i64 0) (y1 := .int .i64 (pageN a : Int)) (y2 := .int .i64 pg) (y3 := .bool rw) (y4 := .bool ru) (y5 := .bool rx) (y6 := .bool false) b11
      have f13 := f12.trans ⟨_, hk7, by simp; exact hgF⟩
      generalize ((((((w4.setCell ⟨gx, 0, none⟩ (.int .i64 0)).setCell ⟨gx, 1, none⟩ (.int .i64 (pageN a : Int))).setCell ⟨gx, 2, none⟩ (.int .i64 pg)).setCell ⟨gx, 3, none⟩ (.bool rw)).setCell ⟨gx, 4, none⟩ (.bool ru)).setCell ⟨gx, 5, none⟩ (.bool rx)).setCell ⟨gx, 6, none⟩ (.bool false) = w5 at *
      clear hk7 H11 o11 b11 p11 f12 z0_ z1_ z2_ z3_ z4_ z5_ z6_ x0_ x1_ x2_ x3_ x4_ x5_ x6_ y0_ y1_ y2_ y3_ y4_ y5_ y6_
      refine wp_region_noPanic ?_
      refine wp_region_held_drew (S := (fun w' => Blk w' m 95 #[.pointer (some ⟨q, 0, none⟩), .int .i64 sr, .pointer (some ⟨t, 0, none⟩)] ∧ Blk w' gx 62 #[.int .i64 0, .int .i64 (pageN a : Int), .int .i64 pg, .bool rw, .bool ru, .bool rx, .bool false])) (by kernel_rfl) ?_ (fun hHeld => ?_)
      · exact ⟨H12.st.drew, b12.drew⟩
      (refine tk 0 (some 102) (v := ?_) rfl ?_ ?_; rotate_left; · (intro w hSw; (try dsimp only at hSw); obtain ⟨hSm, hSp⟩ := hSw; obtain ⟨c0_, c1_, c2_⟩ := blk3 hSm; obtain ⟨q0_, q1_, q2_, q3_, q4_, q5_, q6_, _, _, _, _, _, _, _⟩ := blk7 hSp; go_simp; (try with_reducible rfl)))
      (try simp only [Act.put, tA, tZ, tS])
      (refine tk 1 (some 103) (v := ?_) rfl ?_ ?_; rotate_left; · (intro w hSw; (try dsimp only at hSw); obtain ⟨hSm, hSp⟩ := hSw; obtain ⟨c0_, c1_, c2_⟩ := blk3 hSm; obtain ⟨q0_, q1_, q2_, q3_, q4_, q5_, q6_, _, _, _, _, _, _, _⟩ := blk7 hSp; go_simp; (try with_reducible rfl)))
      (try simp only [Act.put, tA, tZ, tS])
      (refine tk 2 (some 104) (v := ?_) rfl ?_ ?_; rotate_left; · (intro w hSw; (try dsimp only at hSw); obtain ⟨hSm, hSp⟩ := hSw; obtain ⟨c0_, c1_, c2_⟩ := blk3 hSm; obtain ⟨q0_, q1_, q2_, q3_, q4_, q5_, q6_, _, _, _, _, _, _, _⟩ := blk7 hSp; go_simp; (try with_reducible rfl)))
      (try simp only [Act.put, tA, tZ, tS])
      (refine tk 3 (some 105) (v := ?_) rfl ?_ ?_; rotate_left; · (intro w hSw; (try dsimp only at hSw); obtain ⟨hSm, hSp⟩ := hSw; obtain ⟨c0_, c1_, c2_⟩ := blk3 hSm; obtain ⟨q0_, q1_, q2_, q3_, q4_, q5_, q6_, _, _, _, _, _, _, _⟩ := blk7 hSp; go_simp; (try with_reducible rfl)))
      (try simp only [Act.put, tA, tZ, tS])
      (refine tk 4 (some 106) (v := ?_) rfl ?_ ?_; rotate_left; · (intro w hSw; (try dsimp only at hSw); obtain ⟨hSm, hSp⟩ := hSw; obtain ⟨c0_, c1_, c2_⟩ := blk3 hSm; obtain ⟨q0_, q1_, q2_, q3_, q4_, q5_, q6_, _, _, _, _, _, _, _⟩ := blk7 hSp; go_simp; (try with_reducible rfl)))
      (try simp only [Act.put, tA, tZ, tS])
      refine wpAnyH_ready (rs := [5]) (by kernel_rfl) (by simp) ?_; refine AllReadyH.cons (o := _) rfl (fun K hK => ?_) AllReadyH.nil
      go_simp
      (go_at_call 61; refine (RTPut_b ⟨0, (pageN a : Int), pg, rw, ru, rx, false⟩ (H12.new ((Chg.refl [] w5).drew)).tb).mono ?_; rintro e w6 ⟨rfl, h6, f6⟩)
      refine hK.out _ _ (by (try dsimp only); exact ⟨f6.blk hHeld.1 (by simp [mB]), f6.blk hHeld.2 (by simp)⟩) (fun hHeld => ?_)
      clear hK K
      (try simp only [Act.put, tA, tZ, tS])
      refine wpAnyH_done (by kernel_rfl) ?_ _
      refine NoPanic.normal ?_
      have H13 := (H12.new ((Chg.refl [] w5).drew)).setT h6 f6 (H12.ok.put (x := ⟨0, (pageN a : Int), pg, rw, ru, rx, false⟩) ⟨rfl, path_g0 hgl.1, hgl.2.2⟩)
      have o13 := f6.blk (o12.drew) (by simp)
      have b13 := f6.blk (b12.drew) (by simp)
      have f14 := f13.trans ((Far.of_new ((Chg.refl [] w5).drew)).trans (f6.less (G := F) (fun i hi => by simp [hi])))
      clear hHeld H12 o12 b12 f13 h6 f6
      have hW2 := hWd
      go_wp2_with fail
      refine (hW2 _).mono ?_; rintro e t1 ⟨rfl, y1⟩
      have Ht1 := H13.new y1; have ot1 := o13.chg_ y1 (by simp); have bt1 := b13.chg_ y1 (by simp)
      go_wp2_with fail
      refine wp_region_noPanic ?_
      refine wp_region_held_drew (S := (fun w' => Blk w' m 95 #[.pointer (some ⟨q, 0, none⟩), .int .i64 sr, .pointer (some ⟨t, 0, none⟩)] ∧ Blk w' gx 62 #[.int .i64 0, .int .i64 (pageN a : Int), .int .i64 pg, .bool rw, .bool ru, .bool rx, .bool false])) (by kernel_rfl) ?_ (fun hHeld => ?_)
      · exact ⟨Ht1.st.drew, bt1.drew⟩
      (refine tk 0 (some 123) (v := ?_) rfl ?_ ?_; rotate_left; · (intro w hSw; (try dsimp only at hSw); obtain ⟨hSm, hSp⟩ := hSw; obtain ⟨c0_, c1_, c2_⟩ := blk3 hSm; obtain ⟨q0_, q1_, q2_, q3_, q4_, q5_, q6_, _, _, _, _, _, _, _⟩ := blk7 hSp; go_simp; (try with_reducible rfl)))
      (try simp only [Act.put, tA, tZ, tS])
      (refine tk 1 (some 124) (v := ?_) rfl ?_ ?_; rotate_left; · (intro w hSw; (try dsimp only at hSw); obtain ⟨hSm, hSp⟩ := hSw; obtain ⟨c0_, c1_, c2_⟩ := blk3 hSm; obtain ⟨q0_, q1_, q2_, q3_, q4_, q5_, q6_, _, _, _, _, _, _, _⟩ := blk7 hSp; go_simp; (try with_reducible rfl)))
      (try simp only [Act.put, tA, tZ, tS])
      (refine tk 2 (some 125) (v := ?_) rfl ?_ ?_; rotate_left; · (intro w hSw; (try dsimp only at hSw); obtain ⟨hSm, hSp⟩ := hSw; obtain ⟨c0_, c1_, c2_⟩ := blk3 hSm; obtain ⟨q0_, q1_, q2_, q3_, q4_, q5_, q6_, _, _, _, _, _, _, _⟩ := blk7 hSp; go_simp; (try with_reducible rfl)))
      (try simp only [Act.put, tA, tZ, tS])
      (refine tk 3 (some 126) (v := ?_) rfl ?_ ?_; rotate_left; · (intro w hSw; (try dsimp only at hSw); obtain ⟨hSm, hSp⟩ := hSw; obtain ⟨c0_, c1_, c2_⟩ := blk3 hSm; obtain ⟨q0_, q1_, q2_, q3_, q4_, q5_, q6_, _, _, _, _, _, _, _⟩ := blk7 hSp; go_simp; (try with_reducible rfl)))
      (try simp only [Act.put, tA, tZ, tS])
      (refine tk 4 (some 127) (v := ?_) rfl ?_ ?_; rotate_left; · (intro w hSw; (try dsimp only at hSw); obtain ⟨hSm, hSp⟩ := hSw; obtain ⟨c0_, c1_, c2_⟩ := blk3 hSm; obtain ⟨q0_, q1_, q2_, q3_, q4_, q5_, q6_, _, _, _, _, _, _, _⟩ := blk7 hSp; go_simp; (try with_reducible rfl)))
      (try simp only [Act.put, tA, tZ, tS])
      (refine tk 5 (some 128) (v := ?_) rfl ?_ ?_; rotate_left; · (intro w hSw; (try dsimp only at hSw); obtain ⟨hSm, hSp⟩ := hSw; obtain ⟨c0_, c1_, c2_⟩ := blk3 hSm; obtain ⟨q0_, q1_, q2_, q3_, q4_, q5_, q6_, _, _, _, _, _, _, _⟩ := blk7 hSp; go_simp; (try with_reducible rfl)))
      (try simp only [Act.put, tA, tZ, tS])
      (refine tk 6 (some 129) (v := ?_) rfl ?_ ?_; rotate_left; · (intro w hSw; (try dsimp only at hSw); obtain ⟨hSm, hSp⟩ := hSw; obtain ⟨c0_, c1_, c2_⟩ := blk3 hSm; obtain ⟨q0_, q1_, q2_, q3_, q4_, q5_, q6_, _, _, _, _, _, _, _⟩ := blk7 hSp; go_simp; (try with_reducible rfl)))
      (try simp only [Act.put, tA, tZ, tS])
      refine wpAnyH_ready (rs := [7]) (by kernel_rfl) (by simp) ?_; refine AllReadyH.cons (o := _) rfl (fun K hK => ?_) AllReadyH.nil
      go_simp
      (go_at_call 63; refine (RGuGet_at q S p L h b n _ pg (wordN a) _ (Ht1.new ((Chg.refl [] t1).drew)).gu).mono ?_; rintro e t2 ⟨rfl, rfl⟩)
      refine hK.out _ _ (by (try dsimp only); exact hHeld) (fun hHeld => ?_)
      clear hK K
      (try simp only)
      (refine tk 8 (some 122) (v := ?_) rfl ?_ ?_; rotate_left; · (intro w hSw; (try dsimp only at hSw); go_simp; (try with_reducible rfl)))
      (try simp only [Act.put, tA, tZ, tS])
      (refine tk 9 (some 131) (v := ?_) rfl ?_ ?_; rotate_left; · (intro w hSw; (try dsimp only at hSw); go_simp; (try with_reducible rfl)))
      (try simp only [Act.put, tA, tZ, tS])
      (refine tk 10 (some 132) (v := ?_) rfl ?_ ?_; rotate_left; · (intro w hSw; (try dsimp only at hSw); go_simp; (try with_reducible rfl)))
      (try simp only [Act.put, tA, tZ, tS])
      (refine tk 11 (some 18) (v := ?_) rfl ?_ ?_; rotate_left; · (intro w hSw; (try dsimp only at hSw); go_simp; (try with_reducible rfl)))
      (try simp only [Act.put, tA, tZ, tS])
      (refine tk 12 (some 19) (v := ?_) rfl ?_ ?_; rotate_left; · (intro w hSw; (try dsimp only at hSw); go_simp; (try with_reducible rfl)))
      (try simp only [Act.put, tA, tZ, tS])
      refine wpAnyH_done (by kernel_rfl) ?_ _
      refine NoPanic.normal ?_
      have Ht2 := Ht1.new ((Chg.refl [] t1).drew)
      have ot2 := ot1.drew
      obtain ⟨ra0, ra1, ra2, ra3, za0, za1, za2, za3⟩ := blk4 ot1
      obtain ⟨r0, r1, r2, r3, z0, z1, z2, z3⟩ := blk4 ot2
      go_wp2_with fail
      refine bodyPost_ret (cell_ret rfl (set4 ot2) rfl Tryz.underlying39 rfl (by kernel_rfl)) rfl ?_
      have hk := chg4 (y0 := .int .i64 0) (y1 := .int .u64 (getG n W4 L pg (wordN a))) (y2 := .int .i64 0) (y3 := .int .u64 0) (g := w.heap.size) (Chg.refl [w.heap.size] t1.drew) (by simp)
      have hrl := (Ht2.turn (by simp) hk hs0).less (G := F) (fun i hi => by simp only [List.mem_append]; first | exact .inr hi | exact .inr (.inr hi) | exact .inr (.inr (.inr hi)))
      have hW4 := HW4.out
      clear HW4
      subst hW4
      exact ⟨rfl, hrl, (f14.trans (Far.of_new (y1.trans ((Chg.refl [] t1).drew) (by simp)))).trans ⟨_, hk, by simpa using nF.out 0⟩⟩
    · go_simp
      skip
      refine hK.out _ _ (by (try dsimp only); exact Blk.alloc hHeld _) (fun hHeld => ?_)
      clear hK K
      (try simp only [Act.put, tA, tZ, tS])
      have x9 : Chg [] w1 (w1.drew.alloc (.cells #[.slice none 0 0, .int .i64 0, .bool false, .bool false, .bool false, .bool false, .bool false] 108)) := ((Chg.refl [] w1).drew).alloc _
      have hp9 : Blk (w1.drew.alloc (.cells #[.slice none 0 0, .int .i64 0, .bool false, .bool false, .bool false, .bool false, .bool false] 108)) w1.heap.size 108 #[.slice none 0 0, .int .i64 0, .bool false, .bool false, .bool false, .bool false, .bool false] := Blk.new w1.drew _ _
      refine wpAnyH_ready (rs := [11]) (by kernel_rfl) (by simp) ?_; refine AllReadyH.cons (o := _) rfl (fun K hK => ?_) AllReadyH.nil
      go_simp
      (go_at_call 59; refine (hWk _ x9).mono ?_; rintro e u1 ⟨A, c, rfl, r1, l1, y1⟩; simp only at *)
      refine hK.out _ _ (by (try dsimp only); exact hHeld.chg_ y1 (by simp)) (fun hHeld => ?_)
      clear hK K
      (try simp only [Act.put, tA, tZ, tS])
      (refine tk 12 (some 60) (v := ?_) rfl ?_ ?_; rotate_left; · (intro w hSw; (try dsimp only at hSw); go_simp; (try with_reducible rfl)))
      (try simp only [Act.put, tA, tZ, tS])
      (refine tk 13 (some 73) (v := ?_) rfl ?_ ?_; rotate_left; · (intro w hSw; (try dsimp only at hSw); go_simp; (try with_reducible rfl)))
      (try simp only [Act.put, tA, tZ, tS])
      (refine tk 14 (some 74) (v := ?_) rfl ?_ ?_; rotate_left; · (intro w hSw; (try dsimp only at hSw); go_simp; (try with_reducible rfl)))
      (try simp only [Act.put, tA, tZ, tS])
      (refine tk 15 (some 75) (v := ?_) rfl ?_ ?_; rotate_left; · (intro w hSw; (try dsimp only at hSw); go_simp; (try with_reducible rfl)))
      (try simp only [Act.put, tA, tZ, tS])
      have x0 : Chg [] w1 u1 := x9.trans y1 (by simp)
      have hp0 := hp9.chg_ y1 (by simp)
      obtain ⟨pb, hpe⟩ : ∃ pb, pb = w1.heap.size := ⟨_, rfl⟩
      have hne : m ≠ pb := by have h1 := hm1.lt; omega
      have hlo : ∀ g ∈ (Value.slice A ats.length c).ownBlock.toList, w1.heap.size ≤ g ∧ g ≠ pb := fun g hg => by have := l1 g hg; simp at this; omega
      have hpl : w1.heap.size ≤ pb := by omega
      rw [← hpe] at hp0 ⊢
      have r2 := r1
      clear r1 l1 y1 x9 hp9 hpe
      generalize hu2 : u1 = u2 at *
      clear hu2
      obtain ⟨z0, z1, z2, z3, z4, z5, z6, g0, g1, g2, g3, g4, g5, g6⟩ := blk7 hp0
      refine wpAnyH_ready (rs := [17]) (by kernel_rfl) (by simp) ?_; refine AllReadyH.cons (o := _) rfl (fun K hK => ?_) AllReadyH.nil
      go_simp
      skip
      refine hK.out _ _ (by (try dsimp only); exact far7 hHeld hne) (fun hHeld => ?_)
      clear hK K
      (try simp only [Act.put, tA, tZ, tS])
      (refine tk 18 (some 15) (v := ?_) rfl ?_ ?_; rotate_left; · (intro w hSw; (try dsimp only at hSw); go_simp; (try with_reducible rfl)))
      (try simp only [Act.put, tA, tZ, tS])
      (refine tk 19 (some 16) (v := ?_) rfl ?_ ?_; rotate_left; · (intro w hSw; (try dsimp only at hSw); go_simp; (try with_reducible rfl)))
      (try simp only [Act.put, tA, tZ, tS])
      refine wpAnyH_done (by kernel_rfl) ?_ _
      refine NoPanic.normal ?_
      have hp3 := set7 (y0 := .slice A ats.length c) (y1 := .int .i64 pg) (y2 := .bool rw) (y3 := .bool ru) (y4 := .bool rx) (y5 := .bool lg) (y6 := .bool false) hp0
      have x3 : Chg [] w1 _ := x0.trans (chg7 (y0 := .slice A ats.length c) (y1 := .int .i64 pg) (y2 := .bool rw) (y3 := .bool ru) (y4 := .bool rx) (y5 := .bool lg) (y6 := .bool false) (g := pb) (Chg.refl [pb] u2) (by simp)) (by intro i hi hm; simp at hm; subst hm; omega)
      have r3 := OwnA.chg r2 (chg7 (y0 := .slice A ats.length c) (y1 := .int .i64 pg) (y2 := .bool rw) (y3 := .bool ru) (y4 := .bool rx) (y5 := .bool lg) (y6 := .bool false) (g := pb) (Chg.refl [pb] u2) (by simp)) (fun g hg hm => by simp at hm; exact (hlo g hg).2 hm)
      have hpb := hp3.lt
      clear hHeld r2 hp0 x0 z0 z1 z2 z3 z4 z5 z6 g0 g1 g2 g3 g4 g5 g6
      generalize ((((((u2.setCell ⟨pb, 0, none⟩ (.slice A ats.length c)).setCell ⟨pb, 1, none⟩ (.int .i64 pg)).setCell ⟨pb, 2, none⟩ (.bool rw)).setCell ⟨pb, 3, none⟩ (.bool ru)).setCell ⟨pb, 4, none⟩ (.bool rx)).setCell ⟨pb, 5, none⟩ (.bool lg)).setCell ⟨pb, 6, none⟩ (.bool false) = w3 at *
      have hlo := fun g hg => (hlo g hg).1
      clear hne hWk
      have H10 := H8.more (G := [pb]) x3 (by intro i hi; simp at hi; subst hi; exact ⟨hpl, hpb⟩)
      have o10 := o8.chg_ x3 (by simp)
      have b10 := b8.chg_ x3 (by simp)
      have f10 := f9.trans (Far.of_new x3)
      clear H8 o8 b8 f9 hm1 x3
      have hsl := OwnA.sla r3
      have hap : ∀ g o, A = some ⟨g, o, none⟩ → g ≠ b := fun g o e => by have h1 := hlo g (by rw [e]; simp [Value.ownBlock]); have h2 := hbl; omega
      have hmk := fun w9 (k9 : Chg [] w3 w9) => RMark_at q S p L h b n sW A c ⟨ats, pg, ⟨rw, ru, rx⟩, lg, false⟩ false w9 (H10.gu.self k9) H10.ok.wd (hsl.self k9) hall hap
      simp only [pathV] at hmk
      have hokm := H10.ok.mark ats false
      go_wp2_with fail
      refine wp_region_noPanic ?_
      refine wp_region_held_drew (S := (fun w' => Blk w' m 95 #[.pointer (some ⟨q, 0, none⟩), .int .i64 sr, .pointer (some ⟨t, 0, none⟩)] ∧ Blk w' pb 108 #[.slice A ats.length c, .int .i64 pg, .bool rw, .bool ru, .bool rx, .bool lg, .bool false])) (by kernel_rfl) ?_ (fun hHeld => ?_)
      · exact ⟨H10.st.drew, hp3.drew⟩
      (refine tk 0 (some 82) (v := ?_) rfl ?_ ?_; rotate_left; · (intro w hSw; (try dsimp only at hSw); obtain ⟨hSm, hSp⟩ := hSw; obtain ⟨c0_, c1_, c2_⟩ := blk3 hSm; obtain ⟨z0_, z1_, z2_, z3_, z4_, z5_, z6_, _, _, _, _, _, _, _⟩ := blk7 hSp; go_simp; (try with_reducible rfl)))
      (try simp only [Act.put, tA, tZ, tS])
      (refine tk 1 (some 83) (v := ?_) rfl ?_ ?_; rotate_left; · (intro w hSw; (try dsimp only at hSw); obtain ⟨hSm, hSp⟩ := hSw; obtain ⟨c0_, c1_, c2_⟩ := blk3 hSm; obtain ⟨z0_, z1_, z2_, z3_, z4_, z5_, z6_, _, _, _, _, _, _, _⟩ := blk7 hSp; go_simp; (try with_reducible rfl)))
      (try simp only [Act.put, tA, tZ, tS])
      (refine tk 2 (some 84) (v := ?_) rfl ?_ ?_; rotate_left; · (intro w hSw; (try dsimp only at hSw); obtain ⟨hSm, hSp⟩ := hSw; obtain ⟨c0_, c1_, c2_⟩ := blk3 hSm; obtain ⟨z0_, z1_, z2_, z3_, z4_, z5_, z6_, _, _, _, _, _, _, _⟩ := blk7 hSp; go_simp; (try with_reducible rfl)))
      (try simp only [Act.put, tA, tZ, tS])
      (refine tk 3 (some 85) (v := ?_) rfl ?_ ?_; rotate_left; · (intro w hSw; (try dsimp only at hSw); obtain ⟨hSm, hSp⟩ := hSw; obtain ⟨c0_, c1_, c2_⟩ := blk3 hSm; obtain ⟨z0_, z1_, z2_, z3_, z4_, z5_, z6_, _, _, _, _, _, _, _⟩ := blk7 hSp; go_simp; (try with_reducible rfl)))
      (try simp only [Act.put, tA, tZ, tS])
      (refine tk 4 (some 86) (v := ?_) rfl ?_ ?_; rotate_left; · (intro w hSw; (try dsimp only at hSw); obtain ⟨hSm, hSp⟩ := hSw; obtain ⟨c0_, c1_, c2_⟩ := blk3 hSm; obtain ⟨z0_, z1_, z2_, z3_, z4_, z5_, z6_, _, _, _, _, _, _, _⟩ := blk7 hSp; go_simp; (try with_reducible rfl)))
      (try simp only [Act.put, tA, tZ, tS])
      (refine tk 5 (some 87) (v := ?_) rfl ?_ ?_; rotate_left; · (intro w hSw; (try dsimp only at hSw); obtain ⟨hSm, hSp⟩ := hSw; obtain ⟨c0_, c1_, c2_⟩ := blk3 hSm; obtain ⟨z0_, z1_, z2_, z3_, z4_, z5_, z6_, _, _, _, _, _, _, _⟩ := blk7 hSp; go_simp; (try with_reducible rfl)))
      (try simp only [Act.put, tA, tZ, tS])
      (refine tk 6 (some 88) (v := ?_) rfl ?_ ?_; rotate_left; · (intro w hSw; (try dsimp only at hSw); obtain ⟨hSm, hSp⟩ := hSw; obtain ⟨c0_, c1_, c2_⟩ := blk3 hSm; obtain ⟨z0_, z1_, z2_, z3_, z4_, z5_, z6_, _, _, _, _, _, _, _⟩ := blk7 hSp; go_simp; (try with_reducible rfl)))
      (try simp only [Act.put, tA, tZ, tS])
      refine wpAnyH_ready (rs := [7]) (by kernel_rfl) (by simp) ?_; refine AllReadyH.cons (o := _) rfl (fun K hK => ?_) AllReadyH.nil
      go_simp
      (go_at_call 60; refine (hmk _ ((Chg.refl [] w3).drew)).mono ?_; rintro e w4 ⟨rfl, y4, g4_⟩; have pr := (H10.new ((Chg.refl [] w3).drew)).setW y4 g4_ hokm)
      refine hK.out _ _ (by (try dsimp only); exact ⟨pr.1.st, pr.2.blk hHeld.2 (by simp)⟩) (fun hHeld => ?_)
      clear hK K
      (try simp only [Act.put, tA, tZ, tS])
      refine wpAnyH_done (by kernel_rfl) ?_ _
      refine NoPanic.normal ?_
      have f11 := (Far.of_new ((Chg.refl [] w3).drew)).trans pr.2
      have H11 := pr.1
      have o11 := f11.blk o10 (by simp)
      have b11 := f11.blk b10 (by simp)
      have p11 := f11.blk hp3 (by simp)
      clear hHeld hmk hsl hap y4 g4_ hp3 r3 H10 o10 b10 pr hokm
      generalize hW4 : markP n L ats false sW = W4 at *
      have HW4 := Lib.hid hW4
      clear hW4
      have f12 := f10.trans (f11.less (G := F) (fun i hi => by simp [hi]))
      clear f10 f11
      obtain ⟨z0_, z1_, z2_, z3_, z4_, z5_, z6_, _, _, _, _, _, _, _⟩ := blk7 p11
      obtain ⟨x0_, x1_, x2_, x3_, x4_, x5_, x6_, y0_, y1_, y2_, y3_, y4_, y5_, y6_⟩ := blk7 b11
      have hne : gx ≠ pb := fun e => by subst e; exact Blk.type_ne b11 p11 (by decide) rfl
      have hne2 : ¬ pb = gx := fun e => hne e.symm
      go_wp2_with fail
      have hk7 := chg7 (y0 := .int .i64 0) (y1 := .int .i64 (pageN a : Int)) (y2 := .int .i64 pg) (y3 := .bool rw) (y4 := .bool ru) (y5 := .bool rx) (y6 := .bool false) (g := gx) (Chg.refl [gx] w4) (by simp)
      have H12 := H11.turn (by simp) hk7 hgx.1
      have o12 := o11.chg_ hk7 (by simpa using hgx.2)
      have b12 := set7 (y0 := .int .i64 0) (y1 := .int .i64 (pageN a : Int)) (y2 := .int .i64 pg) (y3 := .bool rw) (y4 := .bool ru) (y5 := .bool rx) (y6 := .bool false) b11
      have f13 := f12.trans ⟨_, hk7, by simp; exact hgF⟩
      generalize ((((((w4.setCell ⟨gx, 0, none⟩ (.int .i64 0)).setCell ⟨gx, 1, none⟩ (.int .i64 (pageN a : Int))).setCell ⟨gx, 2, none⟩ (.int .i64 pg)).setCell ⟨gx, 3, none⟩ (.bool rw)).setCell ⟨gx, 4, none⟩ (.bool ru)).setCell ⟨gx, 5, none⟩ (.bool rx)).setCell ⟨gx, 6, none⟩ (.bool false) = w5 at *
      clear hk7 H11 o11 b11 p11 f12 z0_ z1_ z2_ z3_ z4_ z5_ z6_ x0_ x1_ x2_ x3_ x4_ x5_ x6_ y0_ y1_ y2_ y3_ y4_ y5_ y6_
      refine wp_region_noPanic ?_
      refine wp_region_held_drew (S := (fun w' => Blk w' m 95 #[.pointer (some ⟨q, 0, none⟩), .int .i64 sr, .pointer (some ⟨t, 0, none⟩)] ∧ Blk w' gx 62 #[.int .i64 0, .int .i64 (pageN a : Int), .int .i64 pg, .bool rw, .bool ru, .bool rx, .bool false])) (by kernel_rfl) ?_ (fun hHeld => ?_)
      · exact ⟨H12.st.drew, b12.drew⟩
      (refine tk 0 (some 102) (v := ?_) rfl ?_ ?_; rotate_left; · (intro w hSw; (try dsimp only at hSw); obtain ⟨hSm, hSp⟩ := hSw; obtain ⟨c0_, c1_, c2_⟩ := blk3 hSm; obtain ⟨q0_, q1_, q2_, q3_, q4_, q5_, q6_, _, _, _, _, _, _, _⟩ := blk7 hSp; go_simp; (try with_reducible rfl)))
      (try simp only [Act.put, tA, tZ, tS])
      (refine tk 1 (some 103) (v := ?_) rfl ?_ ?_; rotate_left; · (intro w hSw; (try dsimp only at hSw); obtain ⟨hSm, hSp⟩ := hSw; obtain ⟨c0_, c1_, c2_⟩ := blk3 hSm; obtain ⟨q0_, q1_, q2_, q3_, q4_, q5_, q6_, _, _, _, _, _, _, _⟩ := blk7 hSp; go_simp; (try with_reducible rfl)))
      (try simp only [Act.put, tA, tZ, tS])
      (refine tk 2 (some 104) (v := ?_) rfl ?_ ?_; rotate_left; · (intro w hSw; (try dsimp only at hSw); obtain ⟨hSm, hSp⟩ := hSw; obtain ⟨c0_, c1_, c2_⟩ := blk3 hSm; obtain ⟨q0_, q1_, q2_, q3_, q4_, q5_, q6_, _, _, _, _, _, _, _⟩ := blk7 hSp; go_simp; (try with_reducible rfl)))
      (try simp only [Act.put, tA, tZ, tS])
      (refine tk 3 (some 105) (v := ?_) rfl ?_ ?_; rotate_left; · (intro w hSw; (try dsimp only at hSw); obtain ⟨hSm, hSp⟩ := hSw; obtain ⟨c0_, c1_, c2_⟩ := blk3 hSm; obtain ⟨q0_, q1_, q2_, q3_, q4_, q5_, q6_, _, _, _, _, _, _, _⟩ := blk7 hSp; go_simp; (try with_reducible rfl)))
      (try simp only [Act.put, tA, tZ, tS])
      (refine tk 4 (some 106) (v := ?_) rfl ?_ ?_; rotate_left; · (intro w hSw; (try dsimp only at hSw); obtain ⟨hSm, hSp⟩ := hSw; obtain ⟨c0_, c1_, c2_⟩ := blk3 hSm; obtain ⟨q0_, q1_, q2_, q3_, q4_, q5_, q6_, _, _, _, _, _, _, _⟩ := blk7 hSp; go_simp; (try with_reducible rfl)))
      (try simp only [Act.put, tA, tZ, tS])
      refine wpAnyH_ready (rs := [5]) (by kernel_rfl) (by simp) ?_; refine AllReadyH.cons (o := _) rfl (fun K hK => ?_) AllReadyH.nil
      go_simp
      (go_at_call 61; refine (RTPut_b ⟨0, (pageN a : Int), pg, rw, ru, rx, false⟩ (H12.new ((Chg.refl [] w5).drew)).tb).mono ?_; rintro e w6 ⟨rfl, h6, f6⟩)
      refine hK.out _ _ (by (try dsimp only); exact ⟨f6.blk hHeld.1 (by simp [mB]), f6.blk hHeld.2 (by simp)⟩) (fun hHeld => ?_)
      clear hK K
      (try simp only [Act.put, tA, tZ, tS])
      refine wpAnyH_done (by kernel_rfl) ?_ _
      refine NoPanic.normal ?_
      have H13 := (H12.new ((Chg.refl [] w5).drew)).setT h6 f6 (H12.ok.put (x := ⟨0, (pageN a : Int), pg, rw, ru, rx, false⟩) ⟨rfl, path_g0 hgl.1, hgl.2.2⟩)
      have o13 := f6.blk (o12.drew) (by simp)
      have b13 := f6.blk (b12.drew) (by simp)
      have f14 := f13.trans ((Far.of_new ((Chg.refl [] w5).drew)).trans (f6.less (G := F) (fun i hi => by simp [hi])))
      clear hHeld H12 o12 b12 f13 h6 f6
      have hW2 := hWd
      go_wp2_with fail
      refine (hW2 _).mono ?_; rintro e t1 ⟨rfl, y1⟩
      have Ht1 := H13.new y1; have ot1 := o13.chg_ y1 (by simp); have bt1 := b13.chg_ y1 (by simp)
      go_wp2_with fail
      refine wp_region_noPanic ?_
      refine wp_region_held_drew (S := (fun w' => Blk w' m 95 #[.pointer (some ⟨q, 0, none⟩), .int .i64 sr, .pointer (some ⟨t, 0, none⟩)] ∧ Blk w' gx 62 #[.int .i64 0, .int .i64 (pageN a : Int), .int .i64 pg, .bool rw, .bool ru, .bool rx, .bool false])) (by kernel_rfl) ?_ (fun hHeld => ?_)
      · exact ⟨Ht1.st.drew, bt1.drew⟩
      (refine tk 0 (some 123) (v := ?_) rfl ?_ ?_; rotate_left; · (intro w hSw; (try dsimp only at hSw); obtain ⟨hSm, hSp⟩ := hSw; obtain ⟨c0_, c1_, c2_⟩ := blk3 hSm; obtain ⟨q0_, q1_, q2_, q3_, q4_, q5_, q6_, _, _, _, _, _, _, _⟩ := blk7 hSp; go_simp; (try with_reducible rfl)))
      (try simp only [Act.put, tA, tZ, tS])
      (refine tk 1 (some 124) (v := ?_) rfl ?_ ?_; rotate_left; · (intro w hSw; (try dsimp only at hSw); obtain ⟨hSm, hSp⟩ := hSw; obtain ⟨c0_, c1_, c2_⟩ := blk3 hSm; obtain ⟨q0_, q1_, q2_, q3_, q4_, q5_, q6_, _, _, _, _, _, _, _⟩ := blk7 hSp; go_simp; (try with_reducible rfl)))
      (try simp only [Act.put, tA, tZ, tS])
      (refine tk 2 (some 125) (v := ?_) rfl ?_ ?_; rotate_left; · (intro w hSw; (try dsimp only at hSw); obtain ⟨hSm, hSp⟩ := hSw; obtain ⟨c0_, c1_, c2_⟩ := blk3 hSm; obtain ⟨q0_, q1_, q2_, q3_, q4_, q5_, q6_, _, _, _, _, _, _, _⟩ := blk7 hSp; go_simp; (try with_reducible rfl)))
      (try simp only [Act.put, tA, tZ, tS])
      (refine tk 3 (some 126) (v := ?_) rfl ?_ ?_; rotate_left; · (intro w hSw; (try dsimp only at hSw); obtain ⟨hSm, hSp⟩ := hSw; obtain ⟨c0_, c1_, c2_⟩ := blk3 hSm; obtain ⟨q0_, q1_, q2_, q3_, q4_, q5_, q6_, _, _, _, _, _, _, _⟩ := blk7 hSp; go_simp; (try with_reducible rfl)))
      (try simp only [Act.put, tA, tZ, tS])
      (refine tk 4 (some 127) (v := ?_) rfl ?_ ?_; rotate_left; · (intro w hSw; (try dsimp only at hSw); obtain ⟨hSm, hSp⟩ := hSw; obtain ⟨c0_, c1_, c2_⟩ := blk3 hSm; obtain ⟨q0_, q1_, q2_, q3_, q4_, q5_, q6_, _, _, _, _, _, _, _⟩ := blk7 hSp; go_simp; (try with_reducible rfl)))
      (try simp only [Act.put, tA, tZ, tS])
      (refine tk 5 (some 128) (v := ?_) rfl ?_ ?_; rotate_left; · (intro w hSw; (try dsimp only at hSw); obtain ⟨hSm, hSp⟩ := hSw; obtain ⟨c0_, c1_, c2_⟩ := blk3 hSm; obtain ⟨q0_, q1_, q2_, q3_, q4_, q5_, q6_, _, _, _, _, _, _, _⟩ := blk7 hSp; go_simp; (try with_reducible rfl)))
      (try simp only [Act.put, tA, tZ, tS])
      (refine tk 6 (some 129) (v := ?_) rfl ?_ ?_; rotate_left; · (intro w hSw; (try dsimp only at hSw); obtain ⟨hSm, hSp⟩ := hSw; obtain ⟨c0_, c1_, c2_⟩ := blk3 hSm; obtain ⟨q0_, q1_, q2_, q3_, q4_, q5_, q6_, _, _, _, _, _, _, _⟩ := blk7 hSp; go_simp; (try with_reducible rfl)))
      (try simp only [Act.put, tA, tZ, tS])
      refine wpAnyH_ready (rs := [7]) (by kernel_rfl) (by simp) ?_; refine AllReadyH.cons (o := _) rfl (fun K hK => ?_) AllReadyH.nil
      go_simp
      (go_at_call 63; refine (RGuGet_at q S p L h b n _ pg (wordN a) _ (Ht1.new ((Chg.refl [] t1).drew)).gu).mono ?_; rintro e t2 ⟨rfl, rfl⟩)
      refine hK.out _ _ (by (try dsimp only); exact hHeld) (fun hHeld => ?_)
      clear hK K
      (try simp only)
      (refine tk 8 (some 122) (v := ?_) rfl ?_ ?_; rotate_left; · (intro w hSw; (try dsimp only at hSw); go_simp; (try with_reducible rfl)))
      (try simp only [Act.put, tA, tZ, tS])
      (refine tk 9 (some 131) (v := ?_) rfl ?_ ?_; rotate_left; · (intro w hSw; (try dsimp only at hSw); go_simp; (try with_reducible rfl)))
      (try simp only [Act.put, tA, tZ, tS])
      (refine tk 10 (some 132) (v := ?_) rfl ?_ ?_; rotate_left; · (intro w hSw; (try dsimp only at hSw); go_simp; (try with_reducible rfl)))
      (try simp only [Act.put, tA, tZ, tS])
      (refine tk 11 (some 18) (v := ?_) rfl ?_ ?_; rotate_left; · (intro w hSw; (try dsimp only at hSw); go_simp; (try with_reducible rfl)))
      (try simp only [Act.put, tA, tZ, tS])
      (refine tk 12 (some 19) (v := ?_) rfl ?_ ?_; rotate_left; · (intro w hSw; (try dsimp only at hSw); go_simp; (try with_reducible rfl)))
      (try simp only [Act.put, tA, tZ, tS])
      refine wpAnyH_done (by kernel_rfl) ?_ _
      refine NoPanic.normal ?_
      have Ht2 := Ht1.new ((Chg.refl [] t1).drew)
      have ot2 := ot1.drew
      obtain ⟨ra0, ra1, ra2, ra3, za0, za1, za2, za3⟩ := blk4 ot1
      obtain ⟨r0, r1, r2, r3, z0, z1, z2, z3⟩ := blk4 ot2
      go_wp2_with fail
      refine bodyPost_ret (cell_ret rfl (set4 ot2) rfl Tryz.underlying39 rfl (by kernel_rfl)) rfl ?_
      have hk := chg4 (y0 := .int .i64 0) (y1 := .int .u64 (getG n W4 L pg (wordN a))) (y2 := .int .i64 0) (y3 := .int .u64 0) (g := w.heap.size) (Chg.refl [w.heap.size] t1.drew) (by simp)
      have hrl := (Ht2.turn (by simp) hk hs0).less (G := F) (fun i hi => by simp only [List.mem_append]; first | exact .inr hi | exact .inr (.inr hi) | exact .inr (.inr (.inr hi)))
      have hW4 := HW4.out
      clear HW4
      subst hW4
      exact ⟨rfl, hrl, (f14.trans (Far.of_new (y1.trans ((Chg.refl [] t1).drew) (by simp)))).trans ⟨_, hk, by simpa using nF.out 0⟩⟩

end

end Go.Proofs.YtgebfagiomcmbaaGreatDoor
