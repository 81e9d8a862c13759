/-
  The contract of the document's Find.
-/
import Derived.Test.YtedginkenmafmaaGreatDoorModelRA
import Derived.Test.YtedginkenmafmaaGreatDoorG0
namespace Go.Proofs.YtedginkenmafmaaGreatDoor
open Go.RowKit Go.Shelf Go.Maps

/-- an operation that is wanted is done (take_on, what goes by itself left to itself) -/
theorem tk {P : Program} {md : Region.Mode} {ops : Array Oper} {Q : Exit → Act → World → Prop} {S : World → Prop} (i : Nat) (d : Option Tmp) {oi : Oper} {v : Value} {fuel : Nat} {listed : Array Bool} {a : Act} {w : World} (hi : ops[i]? = some oi)
    (hy : ∀ w, S w → (execOp a.eval oi).run P w = .ok (.value v) w) (h : wpAnyH P md ops Q S fuel (listed.setIfInBounds i true) (a.put d v) w) (hd : oi.dst = d := by rfl)
    (hs : Region.noSelect ops = true := by kernel_rfl) (hf : Region.free md ops listed i = true := by kernel_rfl) (hr : (Region.ready md ops listed).contains i = true := by kernel_rfl)
    (hQ : ∀ c a w, Q (.panic c) (a.put oi.dst v) w → Q (.panic c) a w := by exact fun _ _ _ h => h) (hw : Region.wanted oi (yielded ops a.tmps) = true := by rfl) (hS : S w := by assumption) : wpAnyH P md ops Q S (fuel + 1) listed a w :=
  take_on i d hi hd hs hf hr hQ hw hS hy h
theorem tA {α : Type} (l : List α) (i : Nat) (a : α) : l.toArray.setIfInBounds i a = (l.set i a).toArray := List.setIfInBounds_toArray ..
theorem tZ {α : Type} {a b : α} {l : List α} : (a :: l).set 0 b = b :: l := rfl
theorem tS {α : Type} {a b : α} {l : List α} {n : Nat} : (a :: l).set (n + 1) b = a :: l.set n b := rfl

section
variable {w0 w : World} {F : List Nat} {m t q p h b n : Nat} {S : List Nat} {L : List Int} {s : Ms}
/-- a Walk from the model's root, anywhere behind w -/
theorem RModB.walk (H : RModB w0 F w m t q S p L h b n s) (page k : Int) (u : Bool) (P : Pa) (how code : Int) (hr : walkP n s.W L s.r page k u = (P, how, code)) :
    ∀ w1, Chg [] w w1 → Calls Tryz.prog 61 #[.pointer (some ⟨q, 0, none⟩), .int .i64 s.r, .int .i64 page, .int .i64 k, .bool u] w1 fun e w' =>
      ∃ A c, e = .returned (.tuple #[.agg (pathV A c P), .int .i64 how, .int .i64 code]) ∧ OwnA w' 66 (.slice A P.ats.length c) P.ats ∧ (∀ g ∈ (Value.slice A P.ats.length c).ownBlock.toList, w1.heap.size ≤ g) ∧ Chg [] w1 w' :=
  fun w1 hc => RWalk_is q S p L h b n s.W s.r page k u P how code w1 (H.new hc).gu H.ok.wd hr

set_option maxRecDepth 100000 in
set_option maxHeartbeats 8000000 in
theorem rfind_known (page : Int) (H : RModB w0 F w m t q S p L h b n s) (P : Pa) (how code : Int) (hu : hasT s.T 0 page = true) (hr : walkP n s.W L s.r page 0 false = (P, how, code)) :
    Calls Tryz.prog 23 #[.pointer (some ⟨m, 0, none⟩), .int .i64 page] w fun e w' => e = .returned (.bool false) ∧ RModB w0 F w' m t q S p L h b n s ∧ Far F w w' := by
  have hP := RMKnown_b page H
  rw [hu] at hP
  clear hu
  generalize getT s.T 0 page = x at hP
  obtain ⟨xa, xp, xf, xw, xu, xx, xd⟩ := x
  simp only [Ht.v] at hP
  have H0 := H
  have hWk0 := fun w9 (k9 : Chg [] w w9) => (H.new k9).walk page 0 false P how code hr
  have hlen := walk_len hr
  have hall : P.ats.length ≤ 9223372036854775807 := by omega
  obtain ⟨ats, pg, ⟨rw, ru, rx⟩, lg, dy⟩ := P
  simp only [pathV] at *
  clear hr
  obtain ⟨sW, sr, sT⟩ := s
  simp only at *
  clear H
  go_enter Tryz.func23, Tryz.ntmps23
  go_wp2_with fail
  refine hP.mono ?_; rintro e u0 ⟨rfl, k0⟩
  have k1 : Chg [] w (u0.alloc (.cells #[.int .i64 xa, .int .i64 xp, .int .i64 xf, .bool xw, .bool xu, .bool xx, .bool xd] 45)) := k0.alloc _
  go_wp2_with fail
  generalize u0.alloc (.cells #[.int .i64 xa, .int .i64 xp, .int .i64 xf, .bool xw, .bool xu, .bool xx, .bool xd] 45) = w1 at *
  have hm1 := k1.blk H0.st (by simp)
  have hWk := hWk0 w1 k1
  clear hWk0 hP k0
  refine wp_region_noPanic ?_
  refine wp_region_held_drew (S := (fun w' => Blk w' m 102 #[.pointer (some ⟨q, 0, none⟩), .int .i64 sr, .pointer (some ⟨t, 0, none⟩)])) (by kernel_rfl) ?_ (fun hHeld => ?_)
  · exact hm1.drew
  (refine tk 0 (some 17) (v := ?_) rfl ?_ ?_; rotate_left; · (intro w hSw; (try dsimp only at hSw); obtain ⟨c0_, c1_, c2_⟩ := blk3 hSw; go_simp; (try with_reducible rfl)))
  (try simp only [Act.put, tA, tZ, tS])
  (refine tk 1 (some 18) (v := ?_) rfl ?_ ?_; rotate_left; · (intro w hSw; (try dsimp only at hSw); obtain ⟨c0_, c1_, c2_⟩ := blk3 hSw; go_simp; (try with_reducible rfl)))
  (try simp only [Act.put, tA, tZ, tS])
  (refine tk 2 (some 19) (v := ?_) rfl ?_ ?_; rotate_left; · (intro w hSw; (try dsimp only at hSw); obtain ⟨c0_, c1_, c2_⟩ := blk3 hSw; go_simp; (try with_reducible rfl)))
  (try simp only [Act.put, tA, tZ, tS])
  (refine tk 3 (some 20) (v := ?_) rfl ?_ ?_; rotate_left; · (intro w hSw; (try dsimp only at hSw); obtain ⟨c0_, c1_, c2_⟩ := blk3 hSw; go_simp; (try with_reducible rfl)))
  (try simp only [Act.put, tA, tZ, tS])
  (refine tk 4 (some 21) (v := ?_) rfl ?_ ?_; rotate_left; · (intro w hSw; (try dsimp only at hSw); obtain ⟨c0_, c1_, c2_⟩ := blk3 hSw; go_simp; (try with_reducible rfl)))
  (try simp only [Act.put, tA, tZ, tS])
  (refine tk 5 (some 22) (v := ?_) rfl ?_ ?_; rotate_left; · (intro w hSw; (try dsimp only at hSw); obtain ⟨c0_, c1_, c2_⟩ := blk3 hSw; go_simp; (try with_reducible rfl)))
  (try simp only [Act.put, tA, tZ, tS])
  (refine tk 6 (some 23) (v := ?_) rfl ?_ ?_; rotate_left; · (intro w hSw; (try dsimp only at hSw); obtain ⟨c0_, c1_, c2_⟩ := blk3 hSw; go_simp; (try with_reducible rfl)))
  (try simp only [Act.put, tA, tZ, tS])
  (refine tk 7 (some 24) (v := ?_) rfl ?_ ?_; rotate_left; · (intro w hSw; (try dsimp only at hSw); obtain ⟨c0_, c1_, c2_⟩ := blk3 hSw; go_simp; (try with_reducible rfl)))
  (try simp only [Act.put, tA, tZ, tS])
  (refine tk 8 (some 25) (v := ?_) rfl ?_ ?_; rotate_left; · (intro w hSw; (try dsimp only at hSw); obtain ⟨c0_, c1_, c2_⟩ := blk3 hSw; go_simp; (try with_reducible rfl)))
  (try simp only [Act.put, tA, tZ, tS])
  refine wpAnyH_ready (rs := [9, 14]) (by kernel_rfl) (by simp) ?_; refine AllReadyH.cons (o := _) rfl (fun K hK => ?_) (AllReadyH.cons (o := _) rfl (fun K hK => ?_) AllReadyH.nil)
  · go_simp
    (go_at_call 61; refine (hWk _ ((Chg.refl [] w1).drew)).mono ?_; rintro e u1 ⟨A, c, rfl, r1, l1, y1⟩; simp only at *)
    refine hK.out _ _ (by (try dsimp only); exact hHeld.chg_ y1 (by simp)) (fun hHeld => ?_)
    clear hK K
    (try simp only [Act.put, tA, tZ, tS])
    (refine tk 10 (some 16) (v := ?_) rfl ?_ ?_; rotate_left; · (intro w hSw; (try dsimp only at hSw); go_simp; (try with_reducible rfl)))
    (try simp only [Act.put, tA, tZ, tS])
    (refine tk 11 (some 27) (v := ?_) rfl ?_ ?_; rotate_left; · (intro w hSw; (try dsimp only at hSw); go_simp; (try with_reducible rfl)))
    (try simp only [Act.put, tA, tZ, tS])
    (refine tk 12 (some 28) (v := ?_) rfl ?_ ?_; rotate_left; · (intro w hSw; (try dsimp only at hSw); go_simp; (try with_reducible rfl)))
    (try simp only [Act.put, tA, tZ, tS])
    (refine tk 13 (some 29) (v := ?_) rfl ?_ ?_; rotate_left; · (intro w hSw; (try dsimp only at hSw); go_simp; (try with_reducible rfl)))
    (try simp only [Act.put, tA, tZ, tS])
    refine wpAnyH_ready (rs := [14]) (by kernel_rfl) (by simp) ?_; refine AllReadyH.cons (o := _) rfl (fun K hK => ?_) AllReadyH.nil
    go_simp
    skip
    refine hK.out _ _ (by (try dsimp only); exact Blk.alloc hHeld _) (fun hHeld => ?_)
    clear hK K
    (try simp only [Act.put, tA, tZ, tS])
    have x0 : Chg [] w1 (u1.alloc (.cells #[.slice none 0 0, .int .i64 0, .bool false, .bool false, .bool false, .bool false, .bool false] 60)) := (((Chg.refl [] w1).drew).trans y1 (by simp)).alloc _
    have hp0 := Blk.new u1 60 #[.slice none 0 0, .int .i64 0, .bool false, .bool false, .bool false, .bool false, .bool false]
    have hne : m ≠ u1.heap.size := by have h1 := hm1.lt; have h2 := x0.size; have h3 := y1.size; simp at h2 h3; omega
    have hlo : ∀ g ∈ (Value.slice A ats.length c).ownBlock.toList, w1.heap.size ≤ g ∧ g ≠ u1.heap.size := fun g hg => ⟨by simpa using l1 g hg, by have := OwnA.lt r1 g hg; omega⟩
    have r2 := OwnA.self r1 ((Chg.refl [] u1).alloc (.cells #[.slice none 0 0, .int .i64 0, .bool false, .bool false, .bool false, .bool false, .bool false] 60))
    have hpl : w1.heap.size ≤ u1.heap.size := by simpa using y1.size
    clear r1 l1 y1
    generalize hu2 : u1.alloc (.cells #[.slice none 0 0, .int .i64 0, .bool false, .bool false, .bool false, .bool false, .bool false] 60) = u2 at *
    generalize u1.heap.size = pb at *
    clear hu2
    obtain ⟨z0, z1, z2, z3, z4, z5, z6, g0, g1, g2, g3, g4, g5, g6⟩ := blk7 hp0
    refine wpAnyH_ready (rs := [15]) (by kernel_rfl) (by simp) ?_; refine AllReadyH.cons (o := _) rfl (fun K hK => ?_) AllReadyH.nil
    go_simp
    skip
    refine hK.out _ _ (by (try dsimp only); exact far7 hHeld hne) (fun hHeld => ?_)
    clear hK K
    (try simp only [Act.put, tA, tZ, tS])
    (refine tk 16 (some 8) (v := ?_) rfl ?_ ?_; rotate_left; · (intro w hSw; (try dsimp only at hSw); go_simp; (try with_reducible rfl)))
    (try simp only [Act.put, tA, tZ, tS])
    (refine tk 17 (some 9) (v := ?_) rfl ?_ ?_; rotate_left; · (intro w hSw; (try dsimp only at hSw); go_simp; (try with_reducible rfl)))
    (try simp only [Act.put, tA, tZ, tS])
    refine wpAnyH_done (by kernel_rfl) ?_ _
    refine NoPanic.normal ?_
    have hp3 := set7 (y0 := .slice A ats.length c) (y1 := .int .i64 pg) (y2 := .bool rw) (y3 := .bool ru) (y4 := .bool rx) (y5 := .bool lg) (y6 := .bool dy) hp0
    have x3 : Chg [] w1 _ := x0.trans (chg7 (y0 := .slice A ats.length c) (y1 := .int .i64 pg) (y2 := .bool rw) (y3 := .bool ru) (y4 := .bool rx) (y5 := .bool lg) (y6 := .bool dy) (g := pb) (Chg.refl [pb] u2) (by simp)) (by intro i hi hm; simp at hm; subst hm; omega)
    have r3 := OwnA.chg r2 (chg7 (y0 := .slice A ats.length c) (y1 := .int .i64 pg) (y2 := .bool rw) (y3 := .bool ru) (y4 := .bool rx) (y5 := .bool lg) (y6 := .bool dy) (g := pb) (Chg.refl [pb] u2) (by simp)) (fun g hg hm => by simp at hm; exact (hlo g hg).2 hm)
    have hpb := hp3.lt
    clear hHeld r2 hp0 x0 z0 z1 z2 z3 z4 z5 z6 g0 g1 g2 g3 g4 g5 g6
    generalize ((((((u2.setCell ⟨pb, 0, none⟩ (.slice A ats.length c)).setCell ⟨pb, 1, none⟩ (.int .i64 pg)).setCell ⟨pb, 2, none⟩ (.bool rw)).setCell ⟨pb, 3, none⟩ (.bool ru)).setCell ⟨pb, 4, none⟩ (.bool rx)).setCell ⟨pb, 5, none⟩ (.bool lg)).setCell ⟨pb, 6, none⟩ (.bool dy) = w3 at *
    have hlo := fun g hg => (hlo g hg).1
    clear hne hWk
    have k3 : Chg [] w w3 := k1.trans x3 (by simp)
    have H3 := H0.more (G := [pb]) k3 (by intro i hi; simp at hi; subst hi; exact ⟨Nat.le_trans k1.size hpl, hpb⟩)
    clear x3 hm1
    go_wp2_with fail
    refine wp_region_cls (by kernel_rfl) (by kernel_rfl) ?_
    repeat (go_big_quiet_step (fail))
    refine wpQuiet_nil ?_
    rintro _ ⟨n5, rfl⟩
    have k5 := k3.trans n5.ok (by simp)
    have H5 := H3.new n5.ok
    have hp5 := n5.blk hp3
    go_wp2_with fail
    go_ret
    exact ⟨rfl, H5.less (fun i hi => by simp [hi]), Far.of_new k5⟩
  · go_simp
    skip
    refine hK.out _ _ (by (try dsimp only); exact Blk.alloc hHeld _) (fun hHeld => ?_)
    clear hK K
    (try simp only [Act.put, tA, tZ, tS])
    have x9 : Chg [] w1 (w1.drew.alloc (.cells #[.slice none 0 0, .int .i64 0, .bool false, .bool false, .bool false, .bool false, .bool false] 60)) := ((Chg.refl [] w1).drew).alloc _
    have hp9 : Blk (w1.drew.alloc (.cells #[.slice none 0 0, .int .i64 0, .bool false, .bool false, .bool false, .bool false, .bool false] 60)) w1.heap.size 60 #[.slice none 0 0, .int .i64 0, .bool false, .bool false, .bool false, .bool false, .bool false] := Blk.new w1.drew _ _
    refine wpAnyH_ready (rs := [9]) (by kernel_rfl) (by simp) ?_; refine AllReadyH.cons (o := _) rfl (fun K hK => ?_) AllReadyH.nil
    go_simp
    (go_at_call 61; refine (hWk _ x9).mono ?_; rintro e u1 ⟨A, c, rfl, r1, l1, y1⟩; simp only at *)
    refine hK.out _ _ (by (try dsimp only); exact hHeld.chg_ y1 (by simp)) (fun hHeld => ?_)
    clear hK K
    (try simp only [Act.put, tA, tZ, tS])
    (refine tk 10 (some 16) (v := ?_) rfl ?_ ?_; rotate_left; · (intro w hSw; (try dsimp only at hSw); go_simp; (try with_reducible rfl)))
    (try simp only [Act.put, tA, tZ, tS])
    (refine tk 11 (some 27) (v := ?_) rfl ?_ ?_; rotate_left; · (intro w hSw; (try dsimp only at hSw); go_simp; (try with_reducible rfl)))
    (try simp only [Act.put, tA, tZ, tS])
    (refine tk 12 (some 28) (v := ?_) rfl ?_ ?_; rotate_left; · (intro w hSw; (try dsimp only at hSw); go_simp; (try with_reducible rfl)))
    (try simp only [Act.put, tA, tZ, tS])
    (refine tk 13 (some 29) (v := ?_) rfl ?_ ?_; rotate_left; · (intro w hSw; (try dsimp only at hSw); go_simp; (try with_reducible rfl)))
    (try simp only [Act.put, tA, tZ, tS])
    have x0 : Chg [] w1 u1 := x9.trans y1 (by simp)
    have hp0 := hp9.chg_ y1 (by simp)
    obtain ⟨pb, hpe⟩ : ∃ pb, pb = w1.heap.size := ⟨_, rfl⟩
    have hne : m ≠ pb := by have h1 := hm1.lt; omega
    have hlo : ∀ g ∈ (Value.slice A ats.length c).ownBlock.toList, w1.heap.size ≤ g ∧ g ≠ pb := fun g hg => by have := l1 g hg; simp at this; omega
    have hpl : w1.heap.size ≤ pb := by omega
    rw [← hpe] at hp0 ⊢
    have r2 := r1
    clear r1 l1 y1 x9 hp9 hpe
    generalize hu2 : u1 = u2 at *
    clear hu2
    obtain ⟨z0, z1, z2, z3, z4, z5, z6, g0, g1, g2, g3, g4, g5, g6⟩ := blk7 hp0
    refine wpAnyH_ready (rs := [15]) (by kernel_rfl) (by simp) ?_; refine AllReadyH.cons (o := _) rfl (fun K hK => ?_) AllReadyH.nil
    go_simp
    skip
    refine hK.out _ _ (by (try dsimp only); exact far7 hHeld hne) (fun hHeld => ?_)
    clear hK K
    (try simp only [Act.put, tA, tZ, tS])
    (refine tk 16 (some 8) (v := ?_) rfl ?_ ?_; rotate_left; · (intro w hSw; (try dsimp only at hSw); go_simp; (try with_reducible rfl)))
    (try simp only [Act.put, tA, tZ, tS])
    (refine tk 17 (some 9) (v := ?_) rfl ?_ ?_; rotate_left; · (intro w hSw; (try dsimp only at hSw); go_simp; (try with_reducible rfl)))
    (try simp only [Act.put, tA, tZ, tS])
    refine wpAnyH_done (by kernel_rfl) ?_ _
    refine NoPanic.normal ?_
    have hp3 := set7 (y0 := .slice A ats.length c) (y1 := .int .i64 pg) (y2 := .bool rw) (y3 := .bool ru) (y4 := .bool rx) (y5 := .bool lg) (y6 := .bool dy) hp0
    have x3 : Chg [] w1 _ := x0.trans (chg7 (y0 := .slice A ats.length c) (y1 := .int .i64 pg) (y2 := .bool rw) (y3 := .bool ru) (y4 := .bool rx) (y5 := .bool lg) (y6 := .bool dy) (g := pb) (Chg.refl [pb] u2) (by simp)) (by intro i hi hm; simp at hm; subst hm; omega)
    have r3 := OwnA.chg r2 (chg7 (y0 := .slice A ats.length c) (y1 := .int .i64 pg) (y2 := .bool rw) (y3 := .bool ru) (y4 := .bool rx) (y5 := .bool lg) (y6 := .bool dy) (g := pb) (Chg.refl [pb] u2) (by simp)) (fun g hg hm => by simp at hm; exact (hlo g hg).2 hm)
    have hpb := hp3.lt
    clear hHeld r2 hp0 x0 z0 z1 z2 z3 z4 z5 z6 g0 g1 g2 g3 g4 g5 g6
    generalize ((((((u2.setCell ⟨pb, 0, none⟩ (.slice A ats.length c)).setCell ⟨pb, 1, none⟩ (.int .i64 pg)).setCell ⟨pb, 2, none⟩ (.bool rw)).setCell ⟨pb, 3, none⟩ (.bool ru)).setCell ⟨pb, 4, none⟩ (.bool rx)).setCell ⟨pb, 5, none⟩ (.bool lg)).setCell ⟨pb, 6, none⟩ (.bool dy) = w3 at *
    have hlo := fun g hg => (hlo g hg).1
    clear hne hWk
    have k3 : Chg [] w w3 := k1.trans x3 (by simp)
    have H3 := H0.more (G := [pb]) k3 (by intro i hi; simp at hi; subst hi; exact ⟨Nat.le_trans k1.size hpl, hpb⟩)
    clear x3 hm1
    go_wp2_with fail
    refine wp_region_cls (by kernel_rfl) (by kernel_rfl) ?_
    repeat (go_big_quiet_step (fail))
    refine wpQuiet_nil ?_
    rintro _ ⟨n5, rfl⟩
    have k5 := k3.trans n5.ok (by simp)
    have H5 := H3.new n5.ok
    have hp5 := n5.blk hp3
    go_wp2_with fail
    go_ret
    exact ⟨rfl, H5.less (fun i hi => by simp [hi]), Far.of_new k5⟩

set_option maxRecDepth 100000 in
set_option maxHeartbeats 8000000 in
theorem rfind_stop (page : Int) (H : RModB w0 F w m t q S p L h b n s) (P : Pa) (how code : Int) (hu : hasT s.T 0 page = false) (hr : walkP n s.W L s.r page 0 false = (P, how, code)) (hne0 : (how == 0) = false) :
    Calls Tryz.prog 23 #[.pointer (some ⟨m, 0, none⟩), .int .i64 page] w fun e w' => e = .returned (.bool false) ∧ RModB w0 F w' m t q S p L h b n s ∧ Far F w w' := by
  have hP := RMKnown_b page H
  rw [hu] at hP
  clear hu
  generalize getT s.T 0 page = x at hP
  obtain ⟨xa, xp, xf, xw, xu, xx, xd⟩ := x
  simp only [Ht.v] at hP
  have H0 := H
  have hWk0 := fun w9 (k9 : Chg [] w w9) => (H.new k9).walk page 0 false P how code hr
  have hlen := walk_len hr
  have hall : P.ats.length ≤ 9223372036854775807 := by omega
  obtain ⟨ats, pg, ⟨rw, ru, rx⟩, lg, dy⟩ := P
  simp only [pathV] at *
  clear hr
  obtain ⟨sW, sr, sT⟩ := s
  simp only at *
  clear H
  go_enter Tryz.func23, Tryz.ntmps23
  go_wp2_with fail
  refine hP.mono ?_; rintro e u0 ⟨rfl, k0⟩
  have k1 : Chg [] w (u0.alloc (.cells #[.int .i64 xa, .int .i64 xp, .int .i64 xf, .bool xw, .bool xu, .bool xx, .bool xd] 45)) := k0.alloc _
  go_wp2_with fail
  generalize u0.alloc (.cells #[.int .i64 xa, .int .i64 xp, .int .i64 xf, .bool xw, .bool xu, .bool xx, .bool xd] 45) = w1 at *
  have hm1 := k1.blk H0.st (by simp)
  have hWk := hWk0 w1 k1
  clear hWk0 hP k0
  refine wp_region_noPanic ?_
  refine wp_region_held_drew (S := (fun w' => Blk w' m 102 #[.pointer (some ⟨q, 0, none⟩), .int .i64 sr, .pointer (some ⟨t, 0, none⟩)])) (by kernel_rfl) ?_ (fun hHeld => ?_)
  · exact hm1.drew
  (refine tk 0 (some 17) (v := ?_) rfl ?_ ?_; rotate_left; · (intro w hSw; (try dsimp only at hSw); obtain ⟨c0_, c1_, c2_⟩ := blk3 hSw; go_simp; (try with_reducible rfl)))
  (try simp only [Act.put, tA, tZ, tS])
  (refine tk 1 (some 18) (v := ?_) rfl ?_ ?_; rotate_left; · (intro w hSw; (try dsimp only at hSw); obtain ⟨c0_, c1_, c2_⟩ := blk3 hSw; go_simp; (try with_reducible rfl)))
  (try simp only [Act.put, tA, tZ, tS])
  (refine tk 2 (some 19) (v := ?_) rfl ?_ ?_; rotate_left; · (intro w hSw; (try dsimp only at hSw); obtain ⟨c0_, c1_, c2_⟩ := blk3 hSw; go_simp; (try with_reducible rfl)))
  (try simp only [Act.put, tA, tZ, tS])
  (refine tk 3 (some 20) (v := ?_) rfl ?_ ?_; rotate_left; · (intro w hSw; (try dsimp only at hSw); obtain ⟨c0_, c1_, c2_⟩ := blk3 hSw; go_simp; (try with_reducible rfl)))
  (try simp only [Act.put, tA, tZ, tS])
  (refine tk 4 (some 21) (v := ?_) rfl ?_ ?_; rotate_left; · (intro w hSw; (try dsimp only at hSw); obtain ⟨c0_, c1_, c2_⟩ := blk3 hSw; go_simp; (try with_reducible rfl)))
  (try simp only [Act.put, tA, tZ, tS])
  (refine tk 5 (some 22) (v := ?_) rfl ?_ ?_; rotate_left; · (intro w hSw; (try dsimp only at hSw); obtain ⟨c0_, c1_, c2_⟩ := blk3 hSw; go_simp; (try with_reducible rfl)))
  (try simp only [Act.put, tA, tZ, tS])
  (refine tk 6 (some 23) (v := ?_) rfl ?_ ?_; rotate_left; · (intro w hSw; (try dsimp only at hSw); obtain ⟨c0_, c1_, c2_⟩ := blk3 hSw; go_simp; (try with_reducible rfl)))
  (try simp only [Act.put, tA, tZ, tS])
  (refine tk 7 (some 24) (v := ?_) rfl ?_ ?_; rotate_left; · (intro w hSw; (try dsimp only at hSw); obtain ⟨c0_, c1_, c2_⟩ := blk3 hSw; go_simp; (try with_reducible rfl)))
  (try simp only [Act.put, tA, tZ, tS])
  (refine tk 8 (some 25) (v := ?_) rfl ?_ ?_; rotate_left; · (intro w hSw; (try dsimp only at hSw); obtain ⟨c0_, c1_, c2_⟩ := blk3 hSw; go_simp; (try with_reducible rfl)))
  (try simp only [Act.put, tA, tZ, tS])
  refine wpAnyH_ready (rs := [9, 14]) (by kernel_rfl) (by simp) ?_; refine AllReadyH.cons (o := _) rfl (fun K hK => ?_) (AllReadyH.cons (o := _) rfl (fun K hK => ?_) AllReadyH.nil)
  · go_simp
    (go_at_call 61; refine (hWk _ ((Chg.refl [] w1).drew)).mono ?_; rintro e u1 ⟨A, c, rfl, r1, l1, y1⟩; simp only at *)
    refine hK.out _ _ (by (try dsimp only); exact hHeld.chg_ y1 (by simp)) (fun hHeld => ?_)
    clear hK K
    (try simp only [Act.put, tA, tZ, tS])
    (refine tk 10 (some 16) (v := ?_) rfl ?_ ?_; rotate_left; · (intro w hSw; (try dsimp only at hSw); go_simp; (try with_reducible rfl)))
    (try simp only [Act.put, tA, tZ, tS])
    (refine tk 11 (some 27) (v := ?_) rfl ?_ ?_; rotate_left; · (intro w hSw; (try dsimp only at hSw); go_simp; (try with_reducible rfl)))
    (try simp only [Act.put, tA, tZ, tS])
    (refine tk 12 (some 28) (v := ?_) rfl ?_ ?_; rotate_left; · (intro w hSw; (try dsimp only at hSw); go_simp; (try with_reducible rfl)))
    (try simp only [Act.put, tA, tZ, tS])
    (refine tk 13 (some 29) (v := ?_) rfl ?_ ?_; rotate_left; · (intro w hSw; (try dsimp only at hSw); go_simp; (try with_reducible rfl)))
    (try simp only [Act.put, tA, tZ, tS])
    refine wpAnyH_ready (rs := [14]) (by kernel_rfl) (by simp) ?_; refine AllReadyH.cons (o := _) rfl (fun K hK => ?_) AllReadyH.nil
    go_simp
    skip
    refine hK.out _ _ (by (try dsimp only); exact Blk.alloc hHeld _) (fun hHeld => ?_)
    clear hK K
    (try simp only [Act.put, tA, tZ, tS])
    have x0 : Chg [] w1 (u1.alloc (.cells #[.slice none 0 0, .int .i64 0, .bool false, .bool false, .bool false, .bool false, .bool false] 60)) := (((Chg.refl [] w1).drew).trans y1 (by simp)).alloc _
    have hp0 := Blk.new u1 60 #[.slice none 0 0, .int .i64 0, .bool false, .bool false, .bool false, .bool false, .bool false]
    have hne : m ≠ u1.heap.size := by have h1 := hm1.lt; have h2 := x0.size; have h3 := y1.size; simp at h2 h3; omega
    have hlo : ∀ g ∈ (Value.slice A ats.length c).ownBlock.toList, w1.heap.size ≤ g ∧ g ≠ u1.heap.size := fun g hg => ⟨by simpa using l1 g hg, by have := OwnA.lt r1 g hg; omega⟩
    have r2 := OwnA.self r1 ((Chg.refl [] u1).alloc (.cells #[.slice none 0 0, .int .i64 0, .bool false, .bool false, .bool false, .bool false, .bool false] 60))
    have hpl : w1.heap.size ≤ u1.heap.size := by simpa using y1.size
    clear r1 l1 y1
    generalize hu2 : u1.alloc (.cells #[.slice none 0 0, .int .i64 0, .bool false, .bool false, .bool false, .bool false, .bool false] 60) = u2 at *
    generalize u1.heap.size = pb at *
    clear hu2
    obtain ⟨z0, z1, z2, z3, z4, z5, z6, g0, g1, g2, g3, g4, g5, g6⟩ := blk7 hp0
    refine wpAnyH_ready (rs := [15]) (by kernel_rfl) (by simp) ?_; refine AllReadyH.cons (o := _) rfl (fun K hK => ?_) AllReadyH.nil
    go_simp
    skip
    refine hK.out _ _ (by (try dsimp only); exact far7 hHeld hne) (fun hHeld => ?_)
    clear hK K
    (try simp only [Act.put, tA, tZ, tS])
    (refine tk 16 (some 8) (v := ?_) rfl ?_ ?_; rotate_left; · (intro w hSw; (try dsimp only at hSw); go_simp; (try with_reducible rfl)))
    (try simp only [Act.put, tA, tZ, tS])
    (refine tk 17 (some 9) (v := ?_) rfl ?_ ?_; rotate_left; · (intro w hSw; (try dsimp only at hSw); go_simp; (try with_reducible rfl)))
    (try simp only [Act.put, tA, tZ, tS])
    refine wpAnyH_done (by kernel_rfl) ?_ _
    refine NoPanic.normal ?_
    have hp3 := set7 (y0 := .slice A ats.length c) (y1 := .int .i64 pg) (y2 := .bool rw) (y3 := .bool ru) (y4 := .bool rx) (y5 := .bool lg) (y6 := .bool dy) hp0
    have x3 : Chg [] w1 _ := x0.trans (chg7 (y0 := .slice A ats.length c) (y1 := .int .i64 pg) (y2 := .bool rw) (y3 := .bool ru) (y4 := .bool rx) (y5 := .bool lg) (y6 := .bool dy) (g := pb) (Chg.refl [pb] u2) (by simp)) (by intro i hi hm; simp at hm; subst hm; omega)
    have r3 := OwnA.chg r2 (chg7 (y0 := .slice A ats.length c) (y1 := .int .i64 pg) (y2 := .bool rw) (y3 := .bool ru) (y4 := .bool rx) (y5 := .bool lg) (y6 := .bool dy) (g := pb) (Chg.refl [pb] u2) (by simp)) (fun g hg hm => by simp at hm; exact (hlo g hg).2 hm)
    have hpb := hp3.lt
    clear hHeld r2 hp0 x0 z0 z1 z2 z3 z4 z5 z6 g0 g1 g2 g3 g4 g5 g6
    generalize ((((((u2.setCell ⟨pb, 0, none⟩ (.slice A ats.length c)).setCell ⟨pb, 1, none⟩ (.int .i64 pg)).setCell ⟨pb, 2, none⟩ (.bool rw)).setCell ⟨pb, 3, none⟩ (.bool ru)).setCell ⟨pb, 4, none⟩ (.bool rx)).setCell ⟨pb, 5, none⟩ (.bool lg)).setCell ⟨pb, 6, none⟩ (.bool dy) = w3 at *
    have hlo := fun g hg => (hlo g hg).1
    clear hne hWk
    have k3 : Chg [] w w3 := k1.trans x3 (by simp)
    have H3 := H0.more (G := [pb]) k3 (by intro i hi; simp at hi; subst hi; exact ⟨Nat.le_trans k1.size hpl, hpb⟩)
    clear x3 hm1
    have hne1 : (how != 0) = true := by simpa [bne] using hne0
    go_wp2_with fail
    refine wp_region_cls (by kernel_rfl) (by kernel_rfl) ?_
    repeat (go_big_quiet_step (fail))
    refine wpQuiet_nil ?_
    rintro _ ⟨n5, rfl⟩
    have k5 := k3.trans n5.ok (by simp)
    have H5 := H3.new n5.ok
    have hp5 := n5.blk hp3
    go_wp2_with fail
    go_ret
    exact ⟨rfl, H5.less (fun i hi => by simp [hi]), Far.of_new k5⟩
  · go_simp
    skip
    refine hK.out _ _ (by (try dsimp only); exact Blk.alloc hHeld _) (fun hHeld => ?_)
    clear hK K
    (try simp only [Act.put, tA, tZ, tS])
    have x9 : Chg [] w1 (w1.drew.alloc (.cells #[.slice none 0 0, .int .i64 0, .bool false, .bool false, .bool false, .bool false, .bool false] 60)) := ((Chg.refl [] w1).drew).alloc _
    have hp9 : Blk (w1.drew.alloc (.cells #[.slice none 0 0, .int .i64 0, .bool false, .bool false, .bool false, .bool false, .bool false] 60)) w1.heap.size 60 #[.slice none 0 0, .int .i64 0, .bool false, .bool false, .bool false, .bool false, .bool false] := Blk.new w1.drew _ _
    refine wpAnyH_ready (rs := [9]) (by kernel_rfl) (by simp) ?_; refine AllReadyH.cons (o := _) rfl (fun K hK => ?_) AllReadyH.nil
    go_simp
    (go_at_call 61; refine (hWk _ x9).mono ?_; rintro e u1 ⟨A, c, rfl, r1, l1, y1⟩; simp only at *)
    refine hK.out _ _ (by (try dsimp only); exact hHeld.chg_ y1 (by simp)) (fun hHeld => ?_)
    clear hK K
    (try simp only [Act.put, tA, tZ, tS])
    (refine tk 10 (some 16) (v := ?_) rfl ?_ ?_; rotate_left; · (intro w hSw; (try dsimp only at hSw); go_simp; (try with_reducible rfl)))
    (try simp only [Act.put, tA, tZ, tS])
    (refine tk 11 (some 27) (v := ?_) rfl ?_ ?_; rotate_left; · (intro w hSw; (try dsimp only at hSw); go_simp; (try with_reducible rfl)))
    (try simp only [Act.put, tA, tZ, tS])
    (refine tk 12 (some 28) (v := ?_) rfl ?_ ?_; rotate_left; · (intro w hSw; (try dsimp only at hSw); go_simp; (try with_reducible rfl)))
    (try simp only [Act.put, tA, tZ, tS])
    (refine tk 13 (some 29) (v := ?_) rfl ?_ ?_; rotate_left; · (intro w hSw; (try dsimp only at hSw); go_simp; (try with_reducible rfl)))
    (try simp only [Act.put, tA, tZ, tS])
    have x0 : Chg [] w1 u1 := x9.trans y1 (by simp)
    have hp0 := hp9.chg_ y1 (by simp)
    obtain ⟨pb, hpe⟩ : ∃ pb, pb = w1.heap.size := ⟨_, rfl⟩
    have hne : m ≠ pb := by have h1 := hm1.lt; omega
    have hlo : ∀ g ∈ (Value.slice A ats.length c).ownBlock.toList, w1.heap.size ≤ g ∧ g ≠ pb := fun g hg => by have := l1 g hg; simp at this; omega
    have hpl : w1.heap.size ≤ pb := by omega
    rw [← hpe] at hp0 ⊢
    have r2 := r1
    clear r1 l1 y1 x9 hp9 hpe
    generalize hu2 : u1 = u2 at *
    clear hu2
    obtain ⟨z0, z1, z2, z3, z4, z5, z6, g0, g1, g2, g3, g4, g5, g6⟩ := blk7 hp0
    refine wpAnyH_ready (rs := [15]) (by kernel_rfl) (by simp) ?_; refine AllReadyH.cons (o := _) rfl (fun K hK => ?_) AllReadyH.nil
    go_simp
    skip
    refine hK.out _ _ (by (try dsimp only); exact far7 hHeld hne) (fun hHeld => ?_)
    clear hK K
    (try simp only [Act.put, tA, tZ, tS])
    (refine tk 16 (some 8) (v := ?_) rfl ?_ ?_; rotate_left; · (intro w hSw; (try dsimp only at hSw); go_simp; (try with_reducible rfl)))
    (try simp only [Act.put, tA, tZ, tS])
    (refine tk 17 (some 9) (v := ?_) rfl ?_ ?_; rotate_left; · (intro w hSw; (try dsimp only at hSw); go_simp; (try with_reducible rfl)))
    (try simp only [Act.put, tA, tZ, tS])
    refine wpAnyH_done (by kernel_rfl) ?_ _
    refine NoPanic.normal ?_
    have hp3 := set7 (y0 := .slice A ats.length c) (y1 := .int .i64 pg) (y2 := .bool rw) (y3 := .bool ru) (y4 := .bool rx) (y5 := .bool lg) (y6 := .bool dy) hp0
    have x3 : Chg [] w1 _ := x0.trans (chg7 (y0 := .slice A ats.length c) (y1 := .int .i64 pg) (y2 := .bool rw) (y3 := .bool ru) (y4 := .bool rx) (y5 := .bool lg) (y6 := .bool dy) (g := pb) (Chg.refl [pb] u2) (by simp)) (by intro i hi hm; simp at hm; subst hm; omega)
    have r3 := OwnA.chg r2 (chg7 (y0 := .slice A ats.length c) (y1 := .int .i64 pg) (y2 := .bool rw) (y3 := .bool ru) (y4 := .bool rx) (y5 := .bool lg) (y6 := .bool dy) (g := pb) (Chg.refl [pb] u2) (by simp)) (fun g hg hm => by simp at hm; exact (hlo g hg).2 hm)
    have hpb := hp3.lt
    clear hHeld r2 hp0 x0 z0 z1 z2 z3 z4 z5 z6 g0 g1 g2 g3 g4 g5 g6
    generalize ((((((u2.setCell ⟨pb, 0, none⟩ (.slice A ats.length c)).setCell ⟨pb, 1, none⟩ (.int .i64 pg)).setCell ⟨pb, 2, none⟩ (.bool rw)).setCell ⟨pb, 3, none⟩ (.bool ru)).setCell ⟨pb, 4, none⟩ (.bool rx)).setCell ⟨pb, 5, none⟩ (.bool lg)).setCell ⟨pb, 6, none⟩ (.bool dy) = w3 at *
    have hlo := fun g hg => (hlo g hg).1
    clear hne hWk
    have k3 : Chg [] w w3 := k1.trans x3 (by simp)
    have H3 := H0.more (G := [pb]) k3 (by intro i hi; simp at hi; subst hi; exact ⟨Nat.le_trans k1.size hpl, hpb⟩)
    clear x3 hm1
    have hne1 : (how != 0) = true := by simpa [bne] using hne0
    go_wp2_with fail
    refine wp_region_cls (by kernel_rfl) (by kernel_rfl) ?_
    repeat (go_big_quiet_step (fail))
    refine wpQuiet_nil ?_
    rintro _ ⟨n5, rfl⟩
    have k5 := k3.trans n5.ok (by simp)
    have H5 := H3.new n5.ok
    have hp5 := n5.blk hp3
    go_wp2_with fail
    go_ret
    exact ⟨rfl, H5.less (fun i hi => by simp [hi]), Far.of_new k5⟩

set_option maxRecDepth 100000 in
set_option maxHeartbeats 8000000 in
theorem rfind_bare (page : Int) (H : RModB w0 F w m t q S p L h b n s) (P : Pa) (hu : hasT s.T 0 page = false) (hr : walkP n s.W L s.r page 0 false = (P, 0, 0)) (hus : usedAts n s.W L P.ats = false) :
    Calls Tryz.prog 23 #[.pointer (some ⟨m, 0, none⟩), .int .i64 page] w fun e w' => e = .returned (.bool false) ∧ RModB w0 F w' m t q S p L h b n s ∧ Far F w w' := by
  have hP := RMKnown_b page H
  rw [hu] at hP
  clear hu
  generalize getT s.T 0 page = x at hP
  obtain ⟨xa, xp, xf, xw, xu, xx, xd⟩ := x
  simp only [Ht.v] at hP
  have H0 := H
  have hWk0 := fun w9 (k9 : Chg [] w w9) => (H.new k9).walk page 0 false P 0 0 hr
  have hlen := walk_len hr
  have hall : P.ats.length ≤ 9223372036854775807 := by omega
  have hgl := (done_of hr).2
  obtain ⟨ats, pg, ⟨rw, ru, rx⟩, lg, dy⟩ := P
  simp only [pathV] at *
  clear hr
  obtain ⟨sW, sr, sT⟩ := s
  simp only at *
  clear H
  go_enter Tryz.func23, Tryz.ntmps23
  go_wp2_with fail
  refine hP.mono ?_; rintro e u0 ⟨rfl, k0⟩
  have k1 : Chg [] w (u0.alloc (.cells #[.int .i64 xa, .int .i64 xp, .int .i64 xf, .bool xw, .bool xu, .bool xx, .bool xd] 45)) := k0.alloc _
  go_wp2_with fail
  generalize u0.alloc (.cells #[.int .i64 xa, .int .i64 xp, .int .i64 xf, .bool xw, .bool xu, .bool xx, .bool xd] 45) = w1 at *
  have hm1 := k1.blk H0.st (by simp)
  have hWk := hWk0 w1 k1
  clear hWk0 hP k0
  refine wp_region_noPanic ?_
  refine wp_region_held_drew (S := (fun w' => Blk w' m 102 #[.pointer (some ⟨q, 0, none⟩), .int .i64 sr, .pointer (some ⟨t, 0, none⟩)])) (by kernel_rfl) ?_ (fun hHeld => ?_)
  · exact hm1.drew
  (refine tk 0 (some 17) (v := ?_) rfl ?_ ?_; rotate_left; · (intro w hSw; (try dsimp only at hSw); obtain ⟨c0_, c1_, c2_⟩ := blk3 hSw; go_simp; (try with_reducible rfl)))
  (try simp only [Act.put, tA, tZ, tS])
  (refine tk 1 (some 18) (v := ?_) rfl ?_ ?_; rotate_left; · (intro w hSw; (try dsimp only at hSw); obtain ⟨c0_, c1_, c2_⟩ := blk3 hSw; go_simp; (try with_reducible rfl)))
  (try simp only [Act.put, tA, tZ, tS])
  (refine tk 2 (some 19) (v := ?_) rfl ?_ ?_; rotate_left; · (intro w hSw; (try dsimp only at hSw); obtain ⟨c0_, c1_, c2_⟩ := blk3 hSw; go_simp; (try with_reducible rfl)))
  (try simp only [Act.put, tA, tZ, tS])
  (refine tk 3 (some 20) (v := ?_) rfl ?_ ?_; rotate_left; · (intro w hSw; (try dsimp only at hSw); obtain ⟨c0_, c1_, c2_⟩ := blk3 hSw; go_simp; (try with_reducible rfl)))
  (try simp only [Act.put, tA, tZ, tS])
  (refine tk 4 (some 21) (v := ?_) rfl ?_ ?_; rotate_left; · (intro w hSw; (try dsimp only at hSw); obtain ⟨c0_, c1_, c2_⟩ := blk3 hSw; go_simp; (try with_reducible rfl)))
  (try simp only [Act.put, tA, tZ, tS])
  (refine tk 5 (some 22) (v := ?_) rfl ?_ ?_; rotate_left; · (intro w hSw; (try dsimp only at hSw); obtain ⟨c0_, c1_, c2_⟩ := blk3 hSw; go_simp; (try with_reducible rfl)))
  (try simp only [Act.put, tA, tZ, tS])
  (refine tk 6 (some 23) (v := ?_) rfl ?_ ?_; rotate_left; · (intro w hSw; (try dsimp only at hSw); obtain ⟨c0_, c1_, c2_⟩ := blk3 hSw; go_simp; (try with_reducible rfl)))
  (try simp only [Act.put, tA, tZ, tS])
  (refine tk 7 (some 24) (v := ?_) rfl ?_ ?_; rotate_left; · (intro w hSw; (try dsimp only at hSw); obtain ⟨c0_, c1_, c2_⟩ := blk3 hSw; go_simp; (try with_reducible rfl)))
  (try simp only [Act.put, tA, tZ, tS])
  (refine tk 8 (some 25) (v := ?_) rfl ?_ ?_; rotate_left; · (intro w hSw; (try dsimp only at hSw); obtain ⟨c0_, c1_, c2_⟩ := blk3 hSw; go_simp; (try with_reducible rfl)))
  (try simp only [Act.put, tA, tZ, tS])
  refine wpAnyH_ready (rs := [9, 14]) (by kernel_rfl) (by simp) ?_; refine AllReadyH.cons (o := _) rfl (fun K hK => ?_) (AllReadyH.cons (o := _) rfl (fun K hK => ?_) AllReadyH.nil)
  · go_simp
    (go_at_call 61; refine (hWk _ ((Chg.refl [] w1).drew)).mono ?_; rintro e u1 ⟨A, c, rfl, r1, l1, y1⟩; simp only at *)
    refine hK.out _ _ (by (try dsimp only); exact hHeld.chg_ y1 (by simp)) (fun hHeld => ?_)
    clear hK K
    (try simp only [Act.put, tA, tZ, tS])
    (refine tk 10 (some 16) (v := ?_) rfl ?_ ?_; rotate_left; · (intro w hSw; (try dsimp only at hSw); go_simp; (try with_reducible rfl)))
    (try simp only [Act.put, tA, tZ, tS])
    (refine tk 11 (some 27) (v := ?_) rfl ?_ ?_; rotate_left; · (intro w hSw; (try dsimp only at hSw); go_simp; (try with_reducible rfl)))
    (try simp only [Act.put, tA, tZ, tS])
    (refine tk 12 (some 28) (v := ?_) rfl ?_ ?_; rotate_left; · (intro w hSw; (try dsimp only at hSw); go_simp; (try with_reducible rfl)))
    (try simp only [Act.put, tA, tZ, tS])
    (refine tk 13 (some 29) (v := ?_) rfl ?_ ?_; rotate_left; · (intro w hSw; (try dsimp only at hSw); go_simp; (try with_reducible rfl)))
    (try simp only [Act.put, tA, tZ, tS])
    refine wpAnyH_ready (rs := [14]) (by kernel_rfl) (by simp) ?_; refine AllReadyH.cons (o := _) rfl (fun K hK => ?_) AllReadyH.nil
    go_simp
    skip
    refine hK.out _ _ (by (try dsimp only); exact Blk.alloc hHeld _) (fun hHeld => ?_)
    clear hK K
    (try simp only [Act.put, tA, tZ, tS])
    have x0 : Chg [] w1 (u1.alloc (.cells #[.slice none 0 0, .int .i64 0, .bool false, .bool false, .bool false, .bool false, .bool false] 60)) := (((Chg.refl [] w1).drew).trans y1 (by simp)).alloc _
    have hp0 := Blk.new u1 60 #[.slice none 0 0, .int .i64 0, .bool false, .bool false, .bool false, .bool false, .bool false]
    have hne : m ≠ u1.heap.size := by have h1 := hm1.lt; have h2 := x0.size; have h3 := y1.size; simp at h2 h3; omega
    have hlo : ∀ g ∈ (Value.slice A ats.length c).ownBlock.toList, w1.heap.size ≤ g ∧ g ≠ u1.heap.size := fun g hg => ⟨by simpa using l1 g hg, by have := OwnA.lt r1 g hg; omega⟩
    have r2 := OwnA.self r1 ((Chg.refl [] u1).alloc (.cells #[.slice none 0 0, .int .i64 0, .bool false, .bool false, .bool false, .bool false, .bool false] 60))
    have hpl : w1.heap.size ≤ u1.heap.size := by simpa using y1.size
    clear r1 l1 y1
    generalize hu2 : u1.alloc (.cells #[.slice none 0 0, .int .i64 0, .bool false, .bool false, .bool false, .bool false, .bool false] 60) = u2 at *
    generalize u1.heap.size = pb at *
    clear hu2
    obtain ⟨z0, z1, z2, z3, z4, z5, z6, g0, g1, g2, g3, g4, g5, g6⟩ := blk7 hp0
    refine wpAnyH_ready (rs := [15]) (by kernel_rfl) (by simp) ?_; refine AllReadyH.cons (o := _) rfl (fun K hK => ?_) AllReadyH.nil
    go_simp
    skip
    refine hK.out _ _ (by (try dsimp only); exact far7 hHeld hne) (fun hHeld => ?_)
    clear hK K
    (try simp only [Act.put, tA, tZ, tS])
    (refine tk 16 (some 8) (v := ?_) rfl ?_ ?_; rotate_left; · (intro w hSw; (try dsimp only at hSw); go_simp; (try with_reducible rfl)))
    (try simp only [Act.put, tA, tZ, tS])
    (refine tk 17 (some 9) (v := ?_) rfl ?_ ?_; rotate_left; · (intro w hSw; (try dsimp only at hSw); go_simp; (try with_reducible rfl)))
    (try simp only [Act.put, tA, tZ, tS])
    refine wpAnyH_done (by kernel_rfl) ?_ _
    refine NoPanic.normal ?_
    have hp3 := set7 (y0 := .slice A ats.length c) (y1 := .int .i64 pg) (y2 := .bool rw) (y3 := .bool ru) (y4 := .bool rx) (y5 := .bool lg) (y6 := .bool dy) hp0
    have x3 : Chg [] w1 _ := x0.trans (chg7 (y0 := .slice A ats.length c) (y1 := .int .i64 pg) (y2 := .bool rw) (y3 := .bool ru) (y4 := .bool rx) (y5 := .bool lg) (y6 := .bool dy) (g := pb) (Chg.refl [pb] u2) (by simp)) (by intro i hi hm; simp at hm; subst hm; omega)
    have r3 := OwnA.chg r2 (chg7 (y0 := .slice A ats.length c) (y1 := .int .i64 pg) (y2 := .bool rw) (y3 := .bool ru) (y4 := .bool rx) (y5 := .bool lg) (y6 := .bool dy) (g := pb) (Chg.refl [pb] u2) (by simp)) (fun g hg hm => by simp at hm; exact (hlo g hg).2 hm)
    have hpb := hp3.lt
    clear hHeld r2 hp0 x0 z0 z1 z2 z3 z4 z5 z6 g0 g1 g2 g3 g4 g5 g6
    generalize ((((((u2.setCell ⟨pb, 0, none⟩ (.slice A ats.length c)).setCell ⟨pb, 1, none⟩ (.int .i64 pg)).setCell ⟨pb, 2, none⟩ (.bool rw)).setCell ⟨pb, 3, none⟩ (.bool ru)).setCell ⟨pb, 4, none⟩ (.bool rx)).setCell ⟨pb, 5, none⟩ (.bool lg)).setCell ⟨pb, 6, none⟩ (.bool dy) = w3 at *
    have hlo := fun g hg => (hlo g hg).1
    clear hne hWk
    have k3 : Chg [] w w3 := k1.trans x3 (by simp)
    have H3 := H0.more (G := [pb]) k3 (by intro i hi; simp at hi; subst hi; exact ⟨Nat.le_trans k1.size hpl, hpb⟩)
    clear x3 hm1
    obtain ⟨c0, c1, c2⟩ := H3.c
    obtain ⟨p0_, p1_, p2_, p3_, p4_, p5_, p6_, _, _, _, _, _, _, _⟩ := blk7 hp3
    have K1 := fun nq : Cls w3 => nq.cell c0
    have J0 := fun nq : Cls w3 => nq.cell p0_
    have J1 := fun nq : Cls w3 => nq.cell p1_
    have J2 := fun nq : Cls w3 => nq.cell p2_
    have J3 := fun nq : Cls w3 => nq.cell p3_
    have J4 := fun nq : Cls w3 => nq.cell p4_
    have J5 := fun nq : Cls w3 => nq.cell p5_
    have J6 := fun nq : Cls w3 => nq.cell p6_
    have hsl := OwnA.sla r3
    have hMk := fun nq : Cls w3 => RMarked_at q S p L h b n sW A c ⟨ats, pg, ⟨rw, ru, rx⟩, lg, dy⟩ nq.val (H3.gu.self nq.ok) H3.ok.wd (hsl.self nq.ok) hall
    simp only [pathV, hus] at hMk
    clear hus
    go_wp2_with fail
    refine wp_region_cls (by kernel_rfl) (by kernel_rfl) ?_
    repeat (go_big_quiet_step (first | (go_at_call 62; with_reducible exact Calls.cls (hMk _))))
    refine wpQuiet_nil ?_
    rintro _ ⟨n5, rfl⟩
    have k5 := k3.trans n5.ok (by simp)
    have H5 := H3.new n5.ok
    have hp5 := n5.blk hp3
    go_wp2_with fail
    go_ret
    exact ⟨rfl, H5.less (fun i hi => by simp [hi]), Far.of_new k5⟩
  · go_simp
    skip
    refine hK.out _ _ (by (try dsimp only); exact Blk.alloc hHeld _) (fun hHeld => ?_)
    clear hK K
    (try simp only [Act.put, tA, tZ, tS])
    have x9 : Chg [] w1 (w1.drew.alloc (.cells #[.slice none 0 0, .int .i64 0, .bool false, .bool false, .bool false, .bool false, .bool false] 60)) := ((Chg.refl [] w1).drew).alloc _
    have hp9 : Blk (w1.drew.alloc (.cells #[.slice none 0 0, .int .i64 0, .bool false, .bool false, .bool false, .bool false, .bool false] 60)) w1.heap.size 60 #[.slice none 0 0, .int .i64 0, .bool false, .bool false, .bool false, .bool false, .bool false] := Blk.new w1.drew _ _
    refine wpAnyH_ready (rs := [9]) (by kernel_rfl) (by simp) ?_; refine AllReadyH.cons (o := _) rfl (fun K hK => ?_) AllReadyH.nil
    go_simp
    (go_at_call 61; refine (hWk _ x9).mono ?_; rintro e u1 ⟨A, c, rfl, r1, l1, y1⟩; simp only at *)
    refine hK.out _ _ (by (try dsimp only); exact hHeld.chg_ y1 (by simp)) (fun hHeld => ?_)
    clear hK K
    (try simp only [Act.put, tA, tZ, tS])
    (refine tk 10 (some 16) (v := ?_) rfl ?_ ?_; rotate_left; · (intro w hSw; (try dsimp only at hSw); go_simp; (try with_reducible rfl)))
    (try simp only [Act.put, tA, tZ, tS])
    (refine tk 11 (some 27) (v := ?_) rfl ?_ ?_; rotate_left; · (intro w hSw; (try dsimp only at hSw); go_simp; (try with_reducible rfl)))
    (try simp only [Act.put, tA, tZ, tS])
    (refine tk 12 (some 28) (v := ?_) rfl ?_ ?_; rotate_left; · (intro w hSw; (try dsimp only at hSw); go_simp; (try with_reducible rfl)))
    (try simp only [Act.put, tA, tZ, tS])
    (refine tk 13 (some 29) (v := ?_) rfl ?_ ?_; rotate_left; · (intro w hSw; (try dsimp only at hSw); go_simp; (try with_reducible rfl)))
    (try simp only [Act.put, tA, tZ, tS])
    have x0 : Chg [] w1 u1 := x9.trans y1 (by simp)
    have hp0 := hp9.chg_ y1 (by simp)
    obtain ⟨pb, hpe⟩ : ∃ pb, pb = w1.heap.size := ⟨_, rfl⟩
    have hne : m ≠ pb := by have h1 := hm1.lt; omega
    have hlo : ∀ g ∈ (Value.slice A ats.length c).ownBlock.toList, w1.heap.size ≤ g ∧ g ≠ pb := fun g hg => by have := l1 g hg; simp at this; omega
    have hpl : w1.heap.size ≤ pb := by omega
    rw [← hpe] at hp0 ⊢
    have r2 := r1
    clear r1 l1 y1 x9 hp9 hpe
    generalize hu2 : u1 = u2 at *
    clear hu2
    obtain ⟨z0, z1, z2, z3, z4, z5, z6, g0, g1, g2, g3, g4, g5, g6⟩ := blk7 hp0
    refine wpAnyH_ready (rs := [15]) (by kernel_rfl) (by simp) ?_; refine AllReadyH.cons (o := _) rfl (fun K hK => ?_) AllReadyH.nil
    go_simp
    skip
    refine hK.out _ _ (by (try dsimp only); exact far7 hHeld hne) (fun hHeld => ?_)
    clear hK K
    (try simp only [Act.put, tA, tZ, tS])
    (refine tk 16 (some 8) (v := ?_) rfl ?_ ?_; rotate_left; · (intro w hSw; (try dsimp only at hSw); go_simp; (try with_reducible rfl)))
    (try simp only [Act.put, tA, tZ, tS])
    (refine tk 17 (some 9) (v := ?_) rfl ?_ ?_; rotate_left; · (intro w hSw; (try dsimp only at hSw); go_simp; (try with_reducible rfl)))
    (try simp only [Act.put, tA, tZ, tS])
    refine wpAnyH_done (by kernel_rfl) ?_ _
    refine NoPanic.normal ?_
    have hp3 := set7 (y0 := .slice A ats.length c) (y1 := .int .i64 pg) (y2 := .bool rw) (y3 := .bool ru) (y4 := .bool rx) (y5 := .bool lg) (y6 := .bool dy) hp0
    have x3 : Chg [] w1 _ := x0.trans (chg7 (y0 := .slice A ats.length c) (y1 := .int .i64 pg) (y2 := .bool rw) (y3 := .bool ru) (y4 := .bool rx) (y5 := .bool lg) (y6 := .bool dy) (g := pb) (Chg.refl [pb] u2) (by simp)) (by intro i hi hm; simp at hm; subst hm; omega)
    have r3 := OwnA.chg r2 (chg7 (y0 := .slice A ats.length c) (y1 := .int .i64 pg) (y2 := .bool rw) (y3 := .bool ru) (y4 := .bool rx) (y5 := .bool lg) (y6 := .bool dy) (g := pb) (Chg.refl [pb] u2) (by simp)) (fun g hg hm => by simp at hm; exact (hlo g hg).2 hm)
    have hpb := hp3.lt
    clear hHeld r2 hp0 x0 z0 z1 z2 z3 z4 z5 z6 g0 g1 g2 g3 g4 g5 g6
    generalize ((((((u2.setCell ⟨pb, 0, none⟩ (.slice A ats.length c)).setCell ⟨pb, 1, none⟩ (.int .i64 pg)).setCell ⟨pb, 2, none⟩ (.bool rw)).setCell ⟨pb, 3, none⟩ (.bool ru)).setCell ⟨pb, 4, none⟩ (.bool rx)).setCell ⟨pb, 5, none⟩ (.bool lg)).setCell ⟨pb, 6, none⟩ (.bool dy) = w3 at *
    have hlo := fun g hg => (hlo g hg).1
    clear hne hWk
    have k3 : Chg [] w w3 := k1.trans x3 (by simp)
    have H3 := H0.more (G := [pb]) k3 (by intro i hi; simp at hi; subst hi; exact ⟨Nat.le_trans k1.size hpl, hpb⟩)
    clear x3 hm1
    obtain ⟨c0, c1, c2⟩ := H3.c
    obtain ⟨p0_, p1_, p2_, p3_, p4_, p5_, p6_, _, _, _, _, _, _, _⟩ := blk7 hp3
    have K1 := fun nq : Cls w3 => nq.cell c0
    have J0 := fun nq : Cls w3 => nq.cell p0_
    have J1 := fun nq : Cls w3 => nq.cell p1_
    have J2 := fun nq : Cls w3 => nq.cell p2_
    have J3 := fun nq : Cls w3 => nq.cell p3_
    have J4 := fun nq : Cls w3 => nq.cell p4_
    have J5 := fun nq : Cls w3 => nq.cell p5_
    have J6 := fun nq : Cls w3 => nq.cell p6_
    have hsl := OwnA.sla r3
    have hMk := fun nq : Cls w3 => RMarked_at q S p L h b n sW A c ⟨ats, pg, ⟨rw, ru, rx⟩, lg, dy⟩ nq.val (H3.gu.self nq.ok) H3.ok.wd (hsl.self nq.ok) hall
    simp only [pathV, hus] at hMk
    clear hus
    go_wp2_with fail
    refine wp_region_cls (by kernel_rfl) (by kernel_rfl) ?_
    repeat (go_big_quiet_step (first | (go_at_call 62; with_reducible exact Calls.cls (hMk _))))
    refine wpQuiet_nil ?_
    rintro _ ⟨n5, rfl⟩
    have k5 := k3.trans n5.ok (by simp)
    have H5 := H3.new n5.ok
    have hp5 := n5.blk hp3
    go_wp2_with fail
    go_ret
    exact ⟨rfl, H5.less (fun i hi => by simp [hi]), Far.of_new k5⟩

set_option maxRecDepth 100000 in
set_option maxHeartbeats 8000000 in
theorem rfind_done (page : Int) (H : RModB w0 F w m t q S p L h b n s) (P : Pa) (hu : hasT s.T 0 page = false) (hr : walkP n s.W L s.r page 0 false = (P, 0, 0)) (hus : usedAts n s.W L P.ats = true) :
    Calls Tryz.prog 23 #[.pointer (some ⟨m, 0, none⟩), .int .i64 page] w fun e w' => e = .returned (.bool true) ∧ RModB w0 F w' m t q S p L h b n ⟨s.W, s.r, putT 512 s.T (hitP page P false)⟩ ∧ Far F w w' := by
  have hP := RMKnown_b page H
  rw [hu] at hP
  clear hu
  generalize getT s.T 0 page = x at hP
  obtain ⟨xa, xp, xf, xw, xu, xx, xd⟩ := x
  simp only [Ht.v] at hP
  have H0 := H
  have hWk0 := fun w9 (k9 : Chg [] w w9) => (H.new k9).walk page 0 false P 0 0 hr
  have hlen := walk_len hr
  have hall : P.ats.length ≤ 9223372036854775807 := by omega
  have hgl := (done_of hr).2
  obtain ⟨ats, pg, ⟨rw, ru, rx⟩, lg, dy⟩ := P
  simp only [pathV] at *
  clear hr
  have HE5 := Lib.hid (show hitP page ⟨ats, pg, ⟨rw, ru, rx⟩, lg, dy⟩ false = ⟨0, page, pg, rw, ru, rx, dy⟩ from by simp [hitP])
  rw [HE5.out]
  generalize hT4 : putT 512 s.T ⟨0, page, pg, rw, ru, rx, dy⟩ = T4 at *
  have HT4 := Lib.hid hT4
  clear hT4
  obtain ⟨sW, sr, sT⟩ := s
  simp only at *
  clear H
  go_enter Tryz.func23, Tryz.ntmps23
  go_wp2_with fail
  refine hP.mono ?_; rintro e u0 ⟨rfl, k0⟩
  have k1 : Chg [] w (u0.alloc (.cells #[.int .i64 xa, .int .i64 xp, .int .i64 xf, .bool xw, .bool xu, .bool xx, .bool xd] 45)) := k0.alloc _
  go_wp2_with fail
  generalize u0.alloc (.cells #[.int .i64 xa, .int .i64 xp, .int .i64 xf, .bool xw, .bool xu, .bool xx, .bool xd] 45) = w1 at *
  have hm1 := k1.blk H0.st (by simp)
  have hWk := hWk0 w1 k1
  clear hWk0 hP k0
  refine wp_region_noPanic ?_
  refine wp_region_held_drew (S := (fun w' => Blk w' m 102 #[.pointer (some ⟨q, 0, none⟩), .int .i64 sr, .pointer (some ⟨t, 0, none⟩)])) (by kernel_rfl) ?_ (fun hHeld => ?_)
  · exact hm1.drew
  (refine tk 0 (some 17) (v := ?_) rfl ?_ ?_; rotate_left; · (intro w hSw; (try dsimp only at hSw); obtain ⟨c0_, c1_, c2_⟩ := blk3 hSw; go_simp; (try with_reducible rfl)))
  (try simp only [Act.put, tA, tZ, tS])
  (refine tk 1 (some 18) (v := ?_) rfl ?_ ?_; rotate_left; · (intro w hSw; (try dsimp only at hSw); obtain ⟨c0_, c1_, c2_⟩ := blk3 hSw; go_simp; (try with_reducible rfl)))
  (try simp only [Act.put, tA, tZ, tS])
  (refine tk 2 (some 19) (v := ?_) rfl ?_ ?_; rotate_left; · (intro w hSw; (try dsimp only at hSw); obtain ⟨c0_, c1_, c2_⟩ := blk3 hSw; go_simp; (try with_reducible rfl)))
  (try simp only [Act.put, tA, tZ, tS])
  (refine tk 3 (some 20) (v := ?_) rfl ?_ ?_; rotate_left; · (intro w hSw; (try dsimp only at hSw); obtain ⟨c0_, c1_, c2_⟩ := blk3 hSw; go_simp; (try with_reducible rfl)))
  (try simp only [Act.put, tA, tZ, tS])
  (refine tk 4 (some 21) (v := ?_) rfl ?_ ?_; rotate_left; · (intro w hSw; (try dsimp only at hSw); obtain ⟨c0_, c1_, c2_⟩ := blk3 hSw; go_simp; (try with_reducible rfl)))
  (try simp only [Act.put, tA, tZ, tS])
  (refine tk 5 (some 22) (v := ?_) rfl ?_ ?_; rotate_left; · (intro w hSw; (try dsimp only at hSw); obtain ⟨c0_, c1_, c2_⟩ := blk3 hSw; go_simp; (try with_reducible rfl)))
  (try simp only [Act.put, tA, tZ, tS])
  (refine tk 6 (some 23) (v := ?_) rfl ?_ ?_; rotate_left; · (intro w hSw; (try dsimp only at hSw); obtain ⟨c0_, c1_, c2_⟩ := blk3 hSw; go_simp; (try with_reducible rfl)))
  (try simp only [Act.put, tA, tZ, tS])
  (refine tk 7 (some 24) (v := ?_) rfl ?_ ?_; rotate_left; · (intro w hSw; (try dsimp only at hSw); obtain ⟨c0_, c1_, c2_⟩ := blk3 hSw; go_simp; (try with_reducible rfl)))
  (try simp only [Act.put, tA, tZ, tS])
  (refine tk 8 (some 25) (v := ?_) rfl ?_ ?_; rotate_left; · (intro w hSw; (try dsimp only at hSw); obtain ⟨c0_, c1_, c2_⟩ := blk3 hSw; go_simp; (try with_reducible rfl)))
  (try simp only [Act.put, tA, tZ, tS])
  refine wpAnyH_ready (rs := [9, 14]) (by kernel_rfl) (by simp) ?_; refine AllReadyH.cons (o := _) rfl (fun K hK => ?_) (AllReadyH.cons (o := _) rfl (fun K hK => ?_) AllReadyH.nil)
  · go_simp
    (go_at_call 61; refine (hWk _ ((Chg.refl [] w1).drew)).mono ?_; rintro e u1 ⟨A, c, rfl, r1, l1, y1⟩; simp only at *)
    refine hK.out _ _ (by (try dsimp only); exact hHeld.chg_ y1 (by simp)) (fun hHeld => ?_)
    clear hK K
    (try simp only [Act.put, tA, tZ, tS])
    (refine tk 10 (some 16) (v := ?_) rfl ?_ ?_; rotate_left; · (intro w hSw; (try dsimp only at hSw); go_simp; (try with_reducible rfl)))
    (try simp only [Act.put, tA, tZ, tS])
    (refine tk 11 (some 27) (v := ?_) rfl ?_ ?_; rotate_left; · (intro w hSw; (try dsimp only at hSw); go_simp; (try with_reducible rfl)))
    (try simp only [Act.put, tA, tZ, tS])
    (refine tk 12 (some 28) (v := ?_) rfl ?_ ?_; rotate_left; · (intro w hSw; (try dsimp only at hSw); go_simp; (try with_reducible rfl)))
    (try simp only [Act.put, tA, tZ, tS])
    (refine tk 13 (some 29) (v := ?_) rfl ?_ ?_; rotate_left; · (intro w hSw; (try dsimp only at hSw); go_simp; (try with_reducible rfl)))
    (try simp only [Act.put, tA, tZ, tS])
    refine wpAnyH_ready (rs := [14]) (by kernel_rfl) (by simp) ?_; refine AllReadyH.cons (o := _) rfl (fun K hK => ?_) AllReadyH.nil
    go_simp
    skip
    refine hK.out _ _ (by (try dsimp only); exact Blk.alloc hHeld _) (fun hHeld => ?_)
    clear hK K
    (try simp only [Act.put, tA, tZ, tS])
    have x0 : Chg [] w1 (u1.alloc (.cells #[.slice none 0 0, .int .i64 0, .bool false, .bool false, .bool false, .bool false, .bool false] 60)) := (((Chg.refl [] w1).drew).trans y1 (by simp)).alloc _
    have hp0 := Blk.new u1 60 #[.slice none 0 0, .int .i64 0, .bool false, .bool false, .bool false, .bool false, .bool false]
    have hne : m ≠ u1.heap.size := by have h1 := hm1.lt; have h2 := x0.size; have h3 := y1.size; simp at h2 h3; omega
    have hlo : ∀ g ∈ (Value.slice A ats.length c).ownBlock.toList, w1.heap.size ≤ g ∧ g ≠ u1.heap.size := fun g hg => ⟨by simpa using l1 g hg, by have := OwnA.lt r1 g hg; omega⟩
    have r2 := OwnA.self r1 ((Chg.refl [] u1).alloc (.cells #[.slice none 0 0, .int .i64 0, .bool false, .bool false, .bool false, .bool false, .bool false] 60))
    have hpl : w1.heap.size ≤ u1.heap.size := by simpa using y1.size
    clear r1 l1 y1
    generalize hu2 : u1.alloc (.cells #[.slice none 0 0, .int .i64 0, .bool false, .bool false, .bool false, .bool false, .bool false] 60) = u2 at *
    generalize u1.heap.size = pb at *
    clear hu2
    obtain ⟨z0, z1, z2, z3, z4, z5, z6, g0, g1, g2, g3, g4, g5, g6⟩ := blk7 hp0
    refine wpAnyH_ready (rs := [15]) (by kernel_rfl) (by simp) ?_; refine AllReadyH.cons (o := _) rfl (fun K hK => ?_) AllReadyH.nil
    go_simp
    skip
    refine hK.out _ _ (by (try dsimp only); exact far7 hHeld hne) (fun hHeld => ?_)
    clear hK K
    (try simp only [Act.put, tA, tZ, tS])
    (refine tk 16 (some 8) (v := ?_) rfl ?_ ?_; rotate_left; · (intro w hSw; (try dsimp only at hSw); go_simp; (try with_reducible rfl)))
    (try simp only [Act.put, tA, tZ, tS])
    (refine tk 17 (some 9) (v := ?_) rfl ?_ ?_; rotate_left; · (intro w hSw; (try dsimp only at hSw); go_simp; (try with_reducible rfl)))
    (try simp only [Act.put, tA, tZ, tS])
    refine wpAnyH_done (by kernel_rfl) ?_ _
    refine NoPanic.normal ?_
    have hp3 := set7 (y0 := .slice A ats.length c) (y1 := .int .i64 pg) (y2 := .bool rw) (y3 := .bool ru) (y4 := .bool rx) (y5 := .bool lg) (y6 := .bool dy) hp0
    have x3 : Chg [] w1 _ := x0.trans (chg7 (y0 := .slice A ats.length c) (y1 := .int .i64 pg) (y2 := .bool rw) (y3 := .bool ru) (y4 := .bool rx) (y5 := .bool lg) (y6 := .bool dy) (g := pb) (Chg.refl [pb] u2) (by simp)) (by intro i hi hm; simp at hm; subst hm; omega)
    have r3 := OwnA.chg r2 (chg7 (y0 := .slice A ats.length c) (y1 := .int .i64 pg) (y2 := .bool rw) (y3 := .bool ru) (y4 := .bool rx) (y5 := .bool lg) (y6 := .bool dy) (g := pb) (Chg.refl [pb] u2) (by simp)) (fun g hg hm => by simp at hm; exact (hlo g hg).2 hm)
    have hpb := hp3.lt
    clear hHeld r2 hp0 x0 z0 z1 z2 z3 z4 z5 z6 g0 g1 g2 g3 g4 g5 g6
    generalize ((((((u2.setCell ⟨pb, 0, none⟩ (.slice A ats.length c)).setCell ⟨pb, 1, none⟩ (.int .i64 pg)).setCell ⟨pb, 2, none⟩ (.bool rw)).setCell ⟨pb, 3, none⟩ (.bool ru)).setCell ⟨pb, 4, none⟩ (.bool rx)).setCell ⟨pb, 5, none⟩ (.bool lg)).setCell ⟨pb, 6, none⟩ (.bool dy) = w3 at *
    have hlo := fun g hg => (hlo g hg).1
    clear hne hWk
    have k3 : Chg [] w w3 := k1.trans x3 (by simp)
    have H3 := H0.more (G := [pb]) k3 (by intro i hi; simp at hi; subst hi; exact ⟨Nat.le_trans k1.size hpl, hpb⟩)
    clear x3 hm1
    obtain ⟨c0, c1, c2⟩ := H3.c
    obtain ⟨p0_, p1_, p2_, p3_, p4_, p5_, p6_, _, _, _, _, _, _, _⟩ := blk7 hp3
    have K1 := fun nq : Cls w3 => nq.cell c0
    have J0 := fun nq : Cls w3 => nq.cell p0_
    have J1 := fun nq : Cls w3 => nq.cell p1_
    have J2 := fun nq : Cls w3 => nq.cell p2_
    have J3 := fun nq : Cls w3 => nq.cell p3_
    have J4 := fun nq : Cls w3 => nq.cell p4_
    have J5 := fun nq : Cls w3 => nq.cell p5_
    have J6 := fun nq : Cls w3 => nq.cell p6_
    have hsl := OwnA.sla r3
    have hMk := fun nq : Cls w3 => RMarked_at q S p L h b n sW A c ⟨ats, pg, ⟨rw, ru, rx⟩, lg, dy⟩ nq.val (H3.gu.self nq.ok) H3.ok.wd (hsl.self nq.ok) hall
    simp only [pathV, hus] at hMk
    clear hus
    go_wp2_with fail
    refine wp_region_cls (by kernel_rfl) (by kernel_rfl) ?_
    repeat (go_big_quiet_step (first | (go_at_call 62; with_reducible exact Calls.cls (hMk _))))
    refine wpQuiet_nil ?_
    rintro _ ⟨n5, rfl⟩
    have k5 := k3.trans n5.ok (by simp)
    have H5 := H3.new n5.ok
    have hp5 := n5.blk hp3
    generalize n5.val = w5 at *
    clear c0 c1 c2 p0_ p1_ p2_ p3_ p4_ p5_ p6_ K1 J0 J1 J2 J3 J4 J5 J6 hMk
    have hle := fun w9 (k9 : Chg [] w5 w9) => RTPut_b ⟨0, page, pg, rw, ru, rx, dy⟩ (H5.new k9).tb
    simp only [Ht.v, HT4.out] at hle
    go_wp2_with fail
    refine wp_region_noPanic ?_
    refine wp_region_held_drew (S := (fun w' => Blk w' m 102 #[.pointer (some ⟨q, 0, none⟩), .int .i64 sr, .pointer (some ⟨t, 0, none⟩)] ∧ Blk w' pb 60 #[.slice A ats.length c, .int .i64 pg, .bool rw, .bool ru, .bool rx, .bool lg, .bool dy])) (by kernel_rfl) ?_ (fun hHeld => ?_)
    · exact ⟨H5.st.drew, hp5.drew⟩
    (refine tk 0 (some 44) (v := ?_) rfl ?_ ?_; rotate_left; · (intro w hSw; (try dsimp only at hSw); obtain ⟨hSm, hSp⟩ := hSw; obtain ⟨c0_, c1_, c2_⟩ := blk3 hSm; obtain ⟨z0_, z1_, z2_, z3_, z4_, z5_, z6_, _, _, _, _, _, _, _⟩ := blk7 hSp; go_simp; (try with_reducible rfl)))
    (try simp only [Act.put, tA, tZ, tS])
    (refine tk 1 (some 45) (v := ?_) rfl ?_ ?_; rotate_left; · (intro w hSw; (try dsimp only at hSw); obtain ⟨hSm, hSp⟩ := hSw; obtain ⟨c0_, c1_, c2_⟩ := blk3 hSm; obtain ⟨z0_, z1_, z2_, z3_, z4_, z5_, z6_, _, _, _, _, _, _, _⟩ := blk7 hSp; go_simp; (try with_reducible rfl)))
    (try simp only [Act.put, tA, tZ, tS])
    (refine tk 2 (some 46) (v := ?_) rfl ?_ ?_; rotate_left; · (intro w hSw; (try dsimp only at hSw); obtain ⟨hSm, hSp⟩ := hSw; obtain ⟨c0_, c1_, c2_⟩ := blk3 hSm; obtain ⟨z0_, z1_, z2_, z3_, z4_, z5_, z6_, _, _, _, _, _, _, _⟩ := blk7 hSp; go_simp; (try with_reducible rfl)))
    (try simp only [Act.put, tA, tZ, tS])
    (refine tk 3 (some 47) (v := ?_) rfl ?_ ?_; rotate_left; · (intro w hSw; (try dsimp only at hSw); obtain ⟨hSm, hSp⟩ := hSw; obtain ⟨c0_, c1_, c2_⟩ := blk3 hSm; obtain ⟨z0_, z1_, z2_, z3_, z4_, z5_, z6_, _, _, _, _, _, _, _⟩ := blk7 hSp; go_simp; (try with_reducible rfl)))
    (try simp only [Act.put, tA, tZ, tS])
    (refine tk 4 (some 48) (v := ?_) rfl ?_ ?_; rotate_left; · (intro w hSw; (try dsimp only at hSw); obtain ⟨hSm, hSp⟩ := hSw; obtain ⟨c0_, c1_, c2_⟩ := blk3 hSm; obtain ⟨z0_, z1_, z2_, z3_, z4_, z5_, z6_, _, _, _, _, _, _, _⟩ := blk7 hSp; go_simp; (try with_reducible rfl)))
    (try simp only [Act.put, tA, tZ, tS])
    (refine tk 5 (some 49) (v := ?_) rfl ?_ ?_; rotate_left; · (intro w hSw; (try dsimp only at hSw); obtain ⟨hSm, hSp⟩ := hSw; obtain ⟨c0_, c1_, c2_⟩ := blk3 hSm; obtain ⟨z0_, z1_, z2_, z3_, z4_, z5_, z6_, _, _, _, _, _, _, _⟩ := blk7 hSp; go_simp; (try with_reducible rfl)))
    (try simp only [Act.put, tA, tZ, tS])
    (refine tk 6 (some 50) (v := ?_) rfl ?_ ?_; rotate_left; · (intro w hSw; (try dsimp only at hSw); obtain ⟨hSm, hSp⟩ := hSw; obtain ⟨c0_, c1_, c2_⟩ := blk3 hSm; obtain ⟨z0_, z1_, z2_, z3_, z4_, z5_, z6_, _, _, _, _, _, _, _⟩ := blk7 hSp; go_simp; (try with_reducible rfl)))
    (try simp only [Act.put, tA, tZ, tS])
    (refine tk 7 (some 51) (v := ?_) rfl ?_ ?_; rotate_left; · (intro w hSw; (try dsimp only at hSw); obtain ⟨hSm, hSp⟩ := hSw; obtain ⟨c0_, c1_, c2_⟩ := blk3 hSm; obtain ⟨z0_, z1_, z2_, z3_, z4_, z5_, z6_, _, _, _, _, _, _, _⟩ := blk7 hSp; go_simp; (try with_reducible rfl)))
    (try simp only [Act.put, tA, tZ, tS])
    (refine tk 8 (some 52) (v := ?_) rfl ?_ ?_; rotate_left; · (intro w hSw; (try dsimp only at hSw); obtain ⟨hSm, hSp⟩ := hSw; obtain ⟨c0_, c1_, c2_⟩ := blk3 hSm; obtain ⟨z0_, z1_, z2_, z3_, z4_, z5_, z6_, _, _, _, _, _, _, _⟩ := blk7 hSp; go_simp; (try with_reducible rfl)))
    (try simp only [Act.put, tA, tZ, tS])
    (refine tk 9 (some 53) (v := ?_) rfl ?_ ?_; rotate_left; · (intro w hSw; (try dsimp only at hSw); obtain ⟨hSm, hSp⟩ := hSw; obtain ⟨c0_, c1_, c2_⟩ := blk3 hSm; obtain ⟨z0_, z1_, z2_, z3_, z4_, z5_, z6_, _, _, _, _, _, _, _⟩ := blk7 hSp; go_simp; (try with_reducible rfl)))
    (try simp only [Act.put, tA, tZ, tS])
    (refine tk 10 (some 54) (v := ?_) rfl ?_ ?_; rotate_left; · (intro w hSw; (try dsimp only at hSw); obtain ⟨hSm, hSp⟩ := hSw; obtain ⟨c0_, c1_, c2_⟩ := blk3 hSm; obtain ⟨z0_, z1_, z2_, z3_, z4_, z5_, z6_, _, _, _, _, _, _, _⟩ := blk7 hSp; go_simp; (try with_reducible rfl)))
    (try simp only [Act.put, tA, tZ, tS])
    (refine tk 11 (some 55) (v := ?_) rfl ?_ ?_; rotate_left; · (intro w hSw; (try dsimp only at hSw); obtain ⟨hSm, hSp⟩ := hSw; obtain ⟨c0_, c1_, c2_⟩ := blk3 hSm; obtain ⟨z0_, z1_, z2_, z3_, z4_, z5_, z6_, _, _, _, _, _, _, _⟩ := blk7 hSp; go_simp; (try with_reducible rfl)))
    (try simp only [Act.put, tA, tZ, tS])
    refine wpAnyH_ready (rs := [12]) (by kernel_rfl) (by simp) ?_; refine AllReadyH.cons (o := _) rfl (fun K hK => ?_) AllReadyH.nil
    go_simp
    (go_at_call 63; refine (hle _ ((Chg.refl [] w5).drew)).mono ?_; rintro e w6 ⟨rfl, h6, f6⟩)
    refine hK.out _ _ (by (try dsimp only); exact ⟨f6.blk hHeld.1 (by simp [mB]), f6.blk hHeld.2 (by simp)⟩) (fun hHeld => ?_)
    clear hK K
    (try simp only [Act.put, tA, tZ, tS])
    refine wpAnyH_done (by kernel_rfl) ?_ _
    refine NoPanic.normal ?_
    have H6 := (H5.new ((Chg.refl [] w5).drew)).setT h6 f6 (H5.ok.put (x := ⟨0, page, pg, rw, ru, rx, dy⟩) ⟨rfl, path_g0 hgl.1, hgl.2.2⟩ |> fun hh => HT4.out ▸ hh)
    go_wp2_with fail
    go_ret
    exact ⟨rfl, H6.less (fun i hi => by simp [hi]), (Far.of_new (k5.trans ((Chg.refl [] w5).drew) (by simp))).trans (f6.less (fun i hi => by simp [hi]))⟩
  · go_simp
    skip
    refine hK.out _ _ (by (try dsimp only); exact Blk.alloc hHeld _) (fun hHeld => ?_)
    clear hK K
    (try simp only [Act.put, tA, tZ, tS])
    have x9 : Chg [] w1 (w1.drew.alloc (.cells #[.slice none 0 0, .int .i64 0, .bool false, .bool false, .bool false, .bool false, .bool false] 60)) := ((Chg.refl [] w1).drew).alloc _
    have hp9 : Blk (w1.drew.alloc (.cells #[.slice none 0 0, .int .i64 0, .bool false, .bool false, .bool false, .bool false, .bool false] 60)) w1.heap.size 60 #[.slice none 0 0, .int .i64 0, .bool false, .bool false, .bool false, .bool false, .bool false] := Blk.new w1.drew _ _
    refine wpAnyH_ready (rs := [9]) (by kernel_rfl) (by simp) ?_; refine AllReadyH.cons (o := _) rfl (fun K hK => ?_) AllReadyH.nil
    go_simp
    (go_at_call 61; refine (hWk _ x9).mono ?_; rintro e u1 ⟨A, c, rfl, r1, l1, y1⟩; simp only at *)
    refine hK.out _ _ (by (try dsimp only); exact hHeld.chg_ y1 (by simp)) (fun hHeld => ?_)
    clear hK K
    (try simp only [Act.put, tA, tZ, tS])
    (refine tk 10 (some 16) (v := ?_) rfl ?_ ?_; rotate_left; · (intro w hSw; (try dsimp only at hSw); go_simp; (try with_reducible rfl)))
    (try simp only [Act.put, tA, tZ, tS])
    (refine tk 11 (some 27) (v := ?_) rfl ?_ ?_; rotate_left; · (intro w hSw; (try dsimp only at hSw); go_simp; (try with_reducible rfl)))
    (try simp only [Act.put, tA, tZ, tS])
    (refine tk 12 (some 28) (v := ?_) rfl ?_ ?_; rotate_left; · (intro w hSw; (try dsimp only at hSw); go_simp; (try with_reducible rfl)))
    (try simp only [Act.put, tA, tZ, tS])
    (refine tk 13 (some 29) (v := ?_) rfl ?_ ?_; rotate_left; · (intro w hSw; (try dsimp only at hSw); go_simp; (try with_reducible rfl)))
    (try simp only [Act.put, tA, tZ, tS])
    have x0 : Chg [] w1 u1 := x9.trans y1 (by simp)
    have hp0 := hp9.chg_ y1 (by simp)
    obtain ⟨pb, hpe⟩ : ∃ pb, pb = w1.heap.size := ⟨_, rfl⟩
    have hne : m ≠ pb := by have h1 := hm1.lt; omega
    have hlo : ∀ g ∈ (Value.slice A ats.length c).ownBlock.toList, w1.heap.size ≤ g ∧ g ≠ pb := fun g hg => by have := l1 g hg; simp at this; omega
    have hpl : w1.heap.size ≤ pb := by omega
    rw [← hpe] at hp0 ⊢
    have r2 := r1
    clear r1 l1 y1 x9 hp9 hpe
    generalize hu2 : u1 = u2 at *
    clear hu2
    obtain ⟨z0, z1, z2, z3, z4, z5, z6, g0, g1, g2, g3, g4, g5, g6⟩ := blk7 hp0
    refine wpAnyH_ready (rs := [15]) (by kernel_rfl) (by simp) ?_; refine AllReadyH.cons (o := _) rfl (fun K hK => ?_) AllReadyH.nil
    go_simp
    skip
    refine hK.out _ _ (by (try dsimp only); exact far7 hHeld hne) (fun hHeld => ?_)
    clear hK K
    (try simp only [Act.put, tA, tZ, tS])
    (refine tk 16 (some 8) (v := ?_) rfl ?_ ?_; rotate_left; · (intro w hSw; (try dsimp only at hSw); go_simp; (try with_reducible rfl)))
    (try simp only [Act.put, tA, tZ, tS])
    (refine tk 17 (some 9) (v := ?_) rfl ?_ ?_; rotate_left; · (intro w hSw; (try dsimp only at hSw); go_simp; (try with_reducible rfl)))
    (try simp only [Act.put, tA, tZ, tS])
    refine wpAnyH_done (by kernel_rfl) ?_ _
    refine NoPanic.normal ?_
    have hp3 := set7 (y0 := .slice A ats.length c) (y1 := .int .i64 pg) (y2 := .bool rw) (y3 := .bool ru) (y4 := .bool rx) (y5 := .bool lg) (y6 := .bool dy) hp0
    have x3 : Chg [] w1 _ := x0.trans (chg7 (y0 := .slice A ats.length c) (y1 := .int .i64 pg) (y2 := .bool rw) (y3 := .bool ru) (y4 := .bool rx) (y5 := .bool lg) (y6 := .bool dy) (g := pb) (Chg.refl [pb] u2) (by simp)) (by intro i hi hm; simp at hm; subst hm; omega)
    have r3 := OwnA.chg r2 (chg7 (y0 := .slice A ats.length c) (y1 := .int .i64 pg) (y2 := .bool rw) (y3 := .bool ru) (y4 := .bool rx) (y5 := .bool lg) (y6 := .bool dy) (g := pb) (Chg.refl [pb] u2) (by simp)) (fun g hg hm => by simp at hm; exact (hlo g hg).2 hm)
    have hpb := hp3.lt
    clear hHeld r2 hp0 x0 z0 z1 z2 z3 z4 z5 z6 g0 g1 g2 g3 g4 g5 g6
    generalize ((((((u2.setCell ⟨pb, 0, none⟩ (.slice A ats.length c)).setCell ⟨pb, 1, none⟩ (.int .i64 pg)).setCell ⟨pb, 2, none⟩ (.bool rw)).setCell ⟨pb, 3, none⟩ (.bool ru)).setCell ⟨pb, 4, none⟩ (.bool rx)).setCell ⟨pb, 5, none⟩ (.bool lg)).setCell ⟨pb, 6, none⟩ (.bool dy) = w3 at *
    have hlo := fun g hg => (hlo g hg).1
    clear hne hWk
    have k3 : Chg [] w w3 := k1.trans x3 (by simp)
    have H3 := H0.more (G := [pb]) k3 (by intro i hi; simp at hi; subst hi; exact ⟨Nat.le_trans k1.size hpl, hpb⟩)
    clear x3 hm1
    obtain ⟨c0, c1, c2⟩ := H3.c
    obtain ⟨p0_, p1_, p2_, p3_, p4_, p5_, p6_, _, _, _, _, _, _, _⟩ := blk7 hp3
    have K1 := fun nq : Cls w3 => nq.cell c0
    have J0 := fun nq : Cls w3 => nq.cell p0_
    have J1 := fun nq : Cls w3 => nq.cell p1_
    have J2 := fun nq : Cls w3 => nq.cell p2_
    have J3 := fun nq : Cls w3 => nq.cell p3_
    have J4 := fun nq : Cls w3 => nq.cell p4_
    have J5 := fun nq : Cls w3 => nq.cell p5_
    have J6 := fun nq : Cls w3 => nq.cell p6_
    have hsl := OwnA.sla r3
    have hMk := fun nq : Cls w3 => RMarked_at q S p L h b n sW A c ⟨ats, pg, ⟨rw, ru, rx⟩, lg, dy⟩ nq.val (H3.gu.self nq.ok) H3.ok.wd (hsl.self nq.ok) hall
    simp only [pathV, hus] at hMk
    clear hus
    go_wp2_with fail
    refine wp_region_cls (by kernel_rfl) (by kernel_rfl) ?_
    repeat (go_big_quiet_step (first | (go_at_call 62; with_reducible exact Calls.cls (hMk _))))
    refine wpQuiet_nil ?_
    rintro _ ⟨n5, rfl⟩
    have k5 := k3.trans n5.ok (by simp)
    have H5 := H3.new n5.ok
    have hp5 := n5.blk hp3
    generalize n5.val = w5 at *
    clear c0 c1 c2 p0_ p1_ p2_ p3_ p4_ p5_ p6_ K1 J0 J1 J2 J3 J4 J5 J6 hMk
    have hle := fun w9 (k9 : Chg [] w5 w9) => RTPut_b ⟨0, page, pg, rw, ru, rx, dy⟩ (H5.new k9).tb
    simp only [Ht.v, HT4.out] at hle
    go_wp2_with fail
    refine wp_region_noPanic ?_
    refine wp_region_held_drew (S := (fun w' => Blk w' m 102 #[.pointer (some ⟨q, 0, none⟩), .int .i64 sr, .pointer (some ⟨t, 0, none⟩)] ∧ Blk w' pb 60 #[.slice A ats.length c, .int .i64 pg, .bool rw, .bool ru, .bool rx, .bool lg, .bool dy])) (by kernel_rfl) ?_ (fun hHeld => ?_)
    · exact ⟨H5.st.drew, hp5.drew⟩
    (refine tk 0 (some 44) (v := ?_) rfl ?_ ?_; rotate_left; · (intro w hSw; (try dsimp only at hSw); obtain ⟨hSm, hSp⟩ := hSw; obtain ⟨c0_, c1_, c2_⟩ := blk3 hSm; obtain ⟨z0_, z1_, z2_, z3_, z4_, z5_, z6_, _, _, _, _, _, _, _⟩ := blk7 hSp; go_simp; (try with_reducible rfl)))
    (try simp only [Act.put, tA, tZ, tS])
    (refine tk 1 (some 45) (v := ?_) rfl ?_ ?_; rotate_left; · (intro w hSw; (try dsimp only at hSw); obtain ⟨hSm, hSp⟩ := hSw; obtain ⟨c0_, c1_, c2_⟩ := blk3 hSm; obtain ⟨z0_, z1_, z2_, z3_, z4_, z5_, z6_, _, _, _, _, _, _, _⟩ := blk7 hSp; go_simp; (try with_reducible rfl)))
    (try simp only [Act.put, tA, tZ, tS])
    (refine tk 2 (some 46) (v := ?_) rfl ?_ ?_; rotate_left; · (intro w hSw; (try dsimp only at hSw); obtain ⟨hSm, hSp⟩ := hSw; obtain ⟨c0_, c1_, c2_⟩ := blk3 hSm; obtain ⟨z0_, z1_, z2_, z3_, z4_, z5_, z6_, _, _, _, _, _, _, _⟩ := blk7 hSp; go_simp; (try with_reducible rfl)))
    (try simp only [Act.put, tA, tZ, tS])
    (refine tk 3 (some 47) (v := ?_) rfl ?_ ?_; rotate_left; · (intro w hSw; (try dsimp only at hSw); obtain ⟨hSm, hSp⟩ := hSw; obtain ⟨c0_, c1_, c2_⟩ := blk3 hSm; obtain ⟨z0_, z1_, z2_, z3_, z4_, z5_, z6_, _, _, _, _, _, _, _⟩ := blk7 hSp; go_simp; (try with_reducible rfl)))
    (try simp only [Act.put, tA, tZ, tS])
    (refine tk 4 (some 48) (v := ?_) rfl ?_ ?_; rotate_left; · (intro w hSw; (try dsimp only at hSw); obtain ⟨hSm, hSp⟩ := hSw; obtain ⟨c0_, c1_, c2_⟩ := blk3 hSm; obtain ⟨z0_, z1_, z2_, z3_, z4_, z5_, z6_, _, _, _, _, _, _, _⟩ := blk7 hSp; go_simp; (try with_reducible rfl)))
    (try simp only [Act.put, tA, tZ, tS])
    (refine tk 5 (some 49) (v := ?_) rfl ?_ ?_; rotate_left; · (intro w hSw; (try dsimp only at hSw); obtain ⟨hSm, hSp⟩ := hSw; obtain ⟨c0_, c1_, c2_⟩ := blk3 hSm; obtain ⟨z0_, z1_, z2_, z3_, z4_, z5_, z6_, _, _, _, _, _, _, _⟩ := blk7 hSp; go_simp; (try with_reducible rfl)))
    (try simp only [Act.put, tA, tZ, tS])
    (refine tk 6 (some 50) (v := ?_) rfl ?_ ?_; rotate_left; · (intro w hSw; (try dsimp only at hSw); obtain ⟨hSm, hSp⟩ := hSw; obtain ⟨c0_, c1_, c2_⟩ := blk3 hSm; obtain ⟨z0_, z1_, z2_, z3_, z4_, z5_, z6_, _, _, _, _, _, _, _⟩ := blk7 hSp; go_simp; (try with_reducible rfl)))
    (try simp only [Act.put, tA, tZ, tS])
    (refine tk 7 (some 51) (v := ?_) rfl ?_ ?_; rotate_left; · (intro w hSw; (try dsimp only at hSw); obtain ⟨hSm, hSp⟩ := hSw; obtain ⟨c0_, c1_, c2_⟩ := blk3 hSm; obtain ⟨z0_, z1_, z2_, z3_, z4_, z5_, z6_, _, _, _, _, _, _, _⟩ := blk7 hSp; go_simp; (try with_reducible rfl)))
    (try simp only [Act.put, tA, tZ, tS])
    (refine tk 8 (some 52) (v := ?_) rfl ?_ ?_; rotate_left; · (intro w hSw; (try dsimp only at hSw); obtain ⟨hSm, hSp⟩ := hSw; obtain ⟨c0_, c1_, c2_⟩ := blk3 hSm; obtain ⟨z0_, z1_, z2_, z3_, z4_, z5_, z6_, _, _, _, _, _, _, _⟩ := blk7 hSp; go_simp; (try with_reducible rfl)))
    (try simp only [Act.put, tA, tZ, tS])
    (refine tk 9 (some 53) (v := ?_) rfl ?_ ?_; rotate_left; · (intro w hSw; (try dsimp only at hSw); obtain ⟨hSm, hSp⟩ := hSw; obtain ⟨c0_, c1_, c2_⟩ := blk3 hSm; obtain ⟨z0_, z1_, z2_, z3_, z4_, z5_, z6_, _, _, _, _, _, _, _⟩ := blk7 hSp; go_simp; (try with_reducible rfl)))
    (try simp only [Act.put, tA, tZ, tS])
    (refine tk 10 (some 54) (v := ?_) rfl ?_ ?_; rotate_left; · (intro w hSw; (try dsimp only at hSw); obtain ⟨hSm, hSp⟩ := hSw; obtain ⟨c0_, c1_, c2_⟩ := blk3 hSm; obtain ⟨z0_, z1_, z2_, z3_, z4_, z5_, z6_, _, _, _, _, _, _, _⟩ := blk7 hSp; go_simp; (try with_reducible rfl)))
    (try simp only [Act.put, tA, tZ, tS])
    (refine tk 11 (some 55) (v := ?_) rfl ?_ ?_; rotate_left; · (intro w hSw; (try dsimp only at hSw); obtain ⟨hSm, hSp⟩ := hSw; obtain ⟨c0_, c1_, c2_⟩ := blk3 hSm; obtain ⟨z0_, z1_, z2_, z3_, z4_, z5_, z6_, _, _, _, _, _, _, _⟩ := blk7 hSp; go_simp; (try with_reducible rfl)))
    (try simp only [Act.put, tA, tZ, tS])
    refine wpAnyH_ready (rs := [12]) (by kernel_rfl) (by simp) ?_; refine AllReadyH.cons (o := _) rfl (fun K hK => ?_) AllReadyH.nil
    go_simp
    (go_at_call 63; refine (hle _ ((Chg.refl [] w5).drew)).mono ?_; rintro e w6 ⟨rfl, h6, f6⟩)
    refine hK.out _ _ (by (try dsimp only); exact ⟨f6.blk hHeld.1 (by simp [mB]), f6.blk hHeld.2 (by simp)⟩) (fun hHeld => ?_)
    clear hK K
    (try simp only [Act.put, tA, tZ, tS])
    refine wpAnyH_done (by kernel_rfl) ?_ _
    refine NoPanic.normal ?_
    have H6 := (H5.new ((Chg.refl [] w5).drew)).setT h6 f6 (H5.ok.put (x := ⟨0, page, pg, rw, ru, rx, dy⟩) ⟨rfl, path_g0 hgl.1, hgl.2.2⟩ |> fun hh => HT4.out ▸ hh)
    go_wp2_with fail
    go_ret
    exact ⟨rfl, H6.less (fun i hi => by simp [hi]), (Far.of_new (k5.trans ((Chg.refl [] w5).drew) (by simp))).trans (f6.less (fun i hi => by simp [hi]))⟩

theorem RMFind_b (page : Int) (H : RModB w0 F w m t q S p L h b n s) :
    Calls Tryz.prog 23 #[.pointer (some ⟨m, 0, none⟩), .int .i64 page] w fun e w' => e = .returned (.bool (findB n L s page)) ∧ RModB w0 F w' m t q S p L h b n (findM n L s page) ∧ Far F w w' := by
  unfold findM
  cases hr : walkP n s.W L s.r page 0 false with
  | mk P hc =>
    obtain ⟨how, code⟩ := hc
    cases hu : hasT s.T 0 page with
    | true =>
      have e : findB n L s page = false := by simp [findB, hu]
      rw [e]; exact rfind_known page H P how code hu hr
    | false =>
      by_cases h0 : how = 0
      · subst h0
        obtain rfl := (done_of hr).1
        cases hus : usedAts n s.W L P.ats with
        | true =>
          have e : findB n L s page = true := by simp [findB, hu, hr, hus]
          rw [e]; exact rfind_done page H P hu hr hus
        | false =>
          have e : findB n L s page = false := by simp [findB, hu, hr, hus]
          rw [e]; exact rfind_bare page H P hu hr hus
      · have e : findB n L s page = false := by simp [findB, hu, hr, h0]
        rw [e]; exact rfind_stop page H P how code hu hr (by simpa using h0)

end

end Go.Proofs.YtedginkenmafmaaGreatDoor
