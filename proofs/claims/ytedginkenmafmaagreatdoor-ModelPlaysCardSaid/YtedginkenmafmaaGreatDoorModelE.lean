/-
  The contracts of model's fresh and Find as wholes; of take.
-/
import Derived.Test.YtedginkenmafmaaGreatDoorModelD
namespace Go.Proofs.YtedginkenmafmaaGreatDoor
open Go.RowKit Go.Shelf

section
variable {w0 w : World} {F : List Nat} {m t q p h b n : Nat} {S : List Nat} {L : List Int} {s : Ms}
theorem MFresh_b (page k : Int) (u : Bool) (H : ModB w0 F w m t q S p L h b n s) :
    Calls Tryz.prog 108 #[.pointer (some ⟨m, 0, none⟩), .int .i64 page, .int .i64 k, .bool u] w fun e w' =>
      e = .returned (.tuple #[(freshM n L s page k u).2.1.v, .int .i64 (freshM n L s page k u).2.2.1, .int .i64 (freshM n L s page k u).2.2.2]) ∧ ModB w0 F w' m t q S p L h b n (freshM n L s page k u).1 ∧ Far F w w' := by
  unfold freshM
  cases hr : walkP n s.W L s.r page k u with
  | mk P hc =>
    obtain ⟨how, code⟩ := hc
    simp only
    by_cases h0 : how = 0
    · subst h0
      obtain rfl := (done_of hr).1
      rw [if_pos rfl]
      exact fresh_done page k u P H hr
    · rw [if_neg h0]
      obtain ⟨rfl, _⟩ := walk_zero hr h0
      exact fresh_not page k u H how code hr (by simpa using h0)
theorem MFind_b (page : Int) (H : ModB w0 F w m t q S p L h b n s) :
    Calls Tryz.prog 22 #[.pointer (some ⟨m, 0, none⟩), .int .i64 page] w fun e w' => e = .returned (.bool (findB n L s page)) ∧ ModB w0 F w' m t q S p L h b n (findM n L s page) ∧ Far F w w' := by
  unfold findM
  cases hu : hasT s.T 0 page with
  | true =>
    have e : findB n L s page = false := by simp [findB, hu]
    rw [e]; exact find_known page H hu
  | false =>
    cases hr : walkP n s.W L s.r page 0 false with
    | mk P hc =>
      obtain ⟨how, code⟩ := hc
      by_cases h0 : how = 0
      · subst h0
        obtain rfl := (done_of hr).1
        cases hus : usedAts n s.W L P.ats with
        | true =>
          have e : findB n L s page = true := by simp [findB, hu, hr, hus]
          rw [e]; exact find_done page H P hu hr hus
        | false =>
          have e : findB n L s page = false := by simp [findB, hu, hr, hus]
          rw [e]; exact find_bare page H P hu hr hus
      · obtain ⟨rfl, _⟩ := walk_zero hr h0
        have e : findB n L s page = false := by simp [findB, hu, hr, h0]
        rw [e]; exact find_stop page H how code hu hr (by simpa using h0)

set_option maxRecDepth 100000 in
set_option maxHeartbeats 4000000 in
theorem take_yes (page k : Int) (u : Bool) (H : ModB w0 F w m t q S p L h b n s) (hu : hasT s.T 0 page = true) (hv : servesB (getT s.T 0 page) k u = true) :
    Calls Tryz.prog 69 #[.pointer (some ⟨m, 0, none⟩), .int .i64 page, .int .i64 k, .bool u] w fun e w' => e = .returned (.tuple #[(getT s.T 0 page).v, .int .i64 0, .int .i64 0]) ∧ ModB w0 F w' m t q S p L h b n s ∧ Far F w w' := by
  have hc1 : Chg [] w (w.alloc (.cells #[.int .i64 0, .int .i64 0, .int .i64 0, .bool false, .bool false, .bool false, .bool false] 45)) := (Chg.refl [] w).alloc _
  have hr1 := Blk.new w 45 #[.int .i64 0, .int .i64 0, .int .i64 0, .bool false, .bool false, .bool false, .bool false]
  have hs0 := H.c0.size
  have hFw : ∀ i ∈ F, i < w.heap.size := fun i hi => H.tb.2.1 i (List.mem_append.2 (.inr hi))
  have H1 := H.more (G := [w.heap.size]) hc1 (by intro i hi; simp at hi; subst hi; simp)
  obtain ⟨c0, c1, c2⟩ := H1.c
  have hP := POf_b page H1.tb
  rw [hu] at hP
  clear hu
  have hV := fun w9 => serves_any (getT s.T 0 page) k u w9
  rw [hv] at hV
  clear hv
  generalize getT s.T 0 page = x at *
  obtain ⟨xa, xp, xf, xw, xu, xx, xd⟩ := x
  simp only [Ht.v] at *
  clear H
  go_enter Tryz.func69, Tryz.ntmps69
  go_wp2_with fail
  refine hP.mono ?_; rintro e u0 ⟨rfl, _, k0⟩
  have k1 : Chg [] (w.alloc (.cells #[.int .i64 0, .int .i64 0, .int .i64 0, .bool false, .bool false, .bool false, .bool false] 45)) (u0.alloc (.cells #[.int .i64 xa, .int .i64 xp, .int .i64 xf, .bool xw, .bool xu, .bool xx, .bool xd] 45)) := k0.alloc _
  have hx1 := Blk.new u0 45 #[.int .i64 xa, .int .i64 xp, .int .i64 xf, .bool xw, .bool xu, .bool xx, .bool xd]
  have hne : u0.heap.size ≠ w.heap.size := by have := k0.size; simp at this; omega
  have hne' : ¬ w.heap.size = u0.heap.size := fun e => hne e.symm
  have hr2 := k1.blk hr1 (by simp)
  have k2 := hc1.trans k1 (by simp)
  have H2 := H1.new k1
  obtain ⟨x0, x1, x2, x3, x4, x5, x6, _, _, _, _, _, _, _⟩ := blk7 hx1
  clear c0 c1 c2 hP k0
  obtain ⟨c0, c1, c2⟩ := H2.c
  go_wp2_with fail
  generalize u0.alloc (.cells #[.int .i64 xa, .int .i64 xp, .int .i64 xf, .bool xw, .bool xu, .bool xx, .bool xd] 45) = u2 at *
  refine (hV _).mono ?_; rintro e u3 ⟨rfl, k3⟩
  have hr3 := k3.blk hr2 (by simp)
  have hx3 := k3.blk hx1 (by simp)
  have k4 := k2.trans k3 (by simp)
  have H3 := H2.new k3
  clear hV x0 x1 x2 x3 x4 x5 x6 c0 c1 c2
  obtain ⟨x0, x1, x2, x3, x4, x5, x6, _, _, _, _, _, _, _⟩ := blk7 hx3
  obtain ⟨c0, c1, c2⟩ := H3.c
  obtain ⟨z0, z1, z2, z3, z4, z5, z6, g0, g1, g2, g3, g4, g5, g6⟩ := blk7 hr3
  go_wp2_with fail
  refine bodyPost_ret (cell_tmps_ret rfl (set7 hr3) rfl Tryz.underlying45 rfl (by kernel_rfl)) rfl ?_
  have hk3 := chg7 (y0 := .int .i64 xa) (y1 := .int .i64 xp) (y2 := .int .i64 xf) (y3 := .bool xw) (y4 := .bool xu) (y5 := .bool xx) (y6 := .bool xd) (g := w.heap.size) (Chg.refl [w.heap.size] u3) (by simp)
  exact ⟨rfl, H3.own hk3 hs0, (Far.of_new k4).trans ⟨_, hk3, by simp; exact fun hm => by have := hFw _ hm; omega⟩⟩
set_option maxRecDepth 100000 in
set_option maxHeartbeats 4000000 in
theorem take_no (page k : Int) (u : Bool) (H : ModB w0 F w m t q S p L h b n s) (hu : hasT s.T 0 page = true) (hv : servesB (getT s.T 0 page) k u = false) :
    Calls Tryz.prog 69 #[.pointer (some ⟨m, 0, none⟩), .int .i64 page, .int .i64 k, .bool u] w fun e w' => e = .returned (.tuple #[(freshM n L ⟨s.W, s.r, dropT s.T 0 page⟩ page k u).2.1.v, .int .i64 (freshM n L ⟨s.W, s.r, dropT s.T 0 page⟩ page k u).2.2.1, .int .i64 (freshM n L ⟨s.W, s.r, dropT s.T 0 page⟩ page k u).2.2.2]) ∧ ModB w0 F w' m t q S p L h b n (freshM n L ⟨s.W, s.r, dropT s.T 0 page⟩ page k u).1 ∧ Far F w w' := by
  have hc1 : Chg [] w (w.alloc (.cells #[.int .i64 0, .int .i64 0, .int .i64 0, .bool false, .bool false, .bool false, .bool false] 45)) := (Chg.refl [] w).alloc _
  have hr1 := Blk.new w 45 #[.int .i64 0, .int .i64 0, .int .i64 0, .bool false, .bool false, .bool false, .bool false]
  have hs0 := H.c0.size
  have hFw : ∀ i ∈ F, i < w.heap.size := fun i hi => H.tb.2.1 i (List.mem_append.2 (.inr hi))
  have H1 := H.more (G := [w.heap.size]) hc1 (by intro i hi; simp at hi; subst hi; simp)
  obtain ⟨c0, c1, c2⟩ := H1.c
  have hP := POf_b page H1.tb
  rw [hu] at hP
  clear hu
  have hV := fun w9 => serves_any (getT s.T 0 page) k u w9
  rw [hv] at hV
  clear hv
  generalize getT s.T 0 page = x at *
  obtain ⟨xa, xp, xf, xw, xu, xx, xd⟩ := x
  simp only [Ht.v] at *
  have hFr := fun w9 (H9 : ModB w0 ([w.heap.size] ++ F) w9 m t q S p L h b n ⟨s.W, s.r, dropT s.T 0 page⟩) => MFresh_b page k u H9
  have hOk := H1.ok.drop 0 page
  generalize hfr : freshM n L ⟨s.W, s.r, dropT s.T 0 page⟩ page k u = fr at *
  clear hfr
  obtain ⟨s3, ⟨ya, yp, yf, yw, yu, yx, yd⟩, how, code⟩ := fr
  simp only [Ht.v] at *
  clear H
  go_enter Tryz.func69, Tryz.ntmps69
  go_wp2_with fail
  refine hP.mono ?_; rintro e u0 ⟨rfl, _, k0⟩
  have k1 : Chg [] (w.alloc (.cells #[.int .i64 0, .int .i64 0, .int .i64 0, .bool false, .bool false, .bool false, .bool false] 45)) (u0.alloc (.cells #[.int .i64 xa, .int .i64 xp, .int .i64 xf, .bool xw, .bool xu, .bool xx, .bool xd] 45)) := k0.alloc _
  have hx1 := Blk.new u0 45 #[.int .i64 xa, .int .i64 xp, .int .i64 xf, .bool xw, .bool xu, .bool xx, .bool xd]
  have hne : u0.heap.size ≠ w.heap.size := by have := k0.size; simp at this; omega
  have hne' : ¬ w.heap.size = u0.heap.size := fun e => hne e.symm
  have hr2 := k1.blk hr1 (by simp)
  have k2 := hc1.trans k1 (by simp)
  have H2 := H1.new k1
  obtain ⟨x0, x1, x2, x3, x4, x5, x6, _, _, _, _, _, _, _⟩ := blk7 hx1
  clear c0 c1 c2 hP k0
  obtain ⟨c0, c1, c2⟩ := H2.c
  go_wp2_with fail
  generalize u0.alloc (.cells #[.int .i64 xa, .int .i64 xp, .int .i64 xf, .bool xw, .bool xu, .bool xx, .bool xd] 45) = u2 at *
  refine (hV _).mono ?_; rintro e u3 ⟨rfl, k3⟩
  have hr3 := k3.blk hr2 (by simp)
  have hx3 := k3.blk hx1 (by simp)
  have k4 := k2.trans k3 (by simp)
  have H3 := H2.new k3
  clear hV x0 x1 x2 x3 x4 x5 x6 c0 c1 c2
  obtain ⟨x0, x1, x2, x3, x4, x5, x6, _, _, _, _, _, _, _⟩ := blk7 hx3
  obtain ⟨c0, c1, c2⟩ := H3.c
  obtain ⟨z0, z1, z2, z3, z4, z5, z6, g0, g1, g2, g3, g4, g5, g6⟩ := blk7 hr3
  have hD := PForget_b page H3.tb
  go_wp2_with fail
  refine hD.mono ?_; rintro e u4 ⟨rfl, h4, f4⟩
  have H4 := H3.setT h4 f4 hOk
  have hr4 := f4.blk hr3 (by simp)
  clear hD
  go_wp2_with fail
  refine (hFr _ H4).mono ?_; rintro e u5 ⟨rfl, H5, f5⟩
  have hr5 := f5.blk hr4 (by simp)
  clear z0 z1 z2 z3 z4 z5 z6 g0 g1 g2 g3 g4 g5 g6 c0 c1 c2
  obtain ⟨z0, z1, z2, z3, z4, z5, z6, g0, g1, g2, g3, g4, g5, g6⟩ := blk7 hr5
  go_wp2_with fail
  refine bodyPost_ret (cell_tmps_ret rfl (set7 hr5) rfl Tryz.underlying45 rfl (by kernel_rfl)) rfl ?_
  have hk3 := chg7 (y0 := .int .i64 ya) (y1 := .int .i64 yp) (y2 := .int .i64 yf) (y3 := .bool yw) (y4 := .bool yu) (y5 := .bool yx) (y6 := .bool yd) (g := w.heap.size) (Chg.refl [w.heap.size] u5) (by simp)
  exact ⟨rfl, H5.own hk3 hs0, (Far.of_new k4).trans ((f4.less (fun i hi => by simp [hi])).trans ((f5.less (fun i hi => by simp [hi])).trans ⟨_, hk3, by simp; exact fun hm => by have := hFw _ hm; omega⟩))⟩
set_option maxRecDepth 100000 in
set_option maxHeartbeats 4000000 in
theorem take_none (page k : Int) (u : Bool) (H : ModB w0 F w m t q S p L h b n s) (hu : hasT s.T 0 page = false) :
    Calls Tryz.prog 69 #[.pointer (some ⟨m, 0, none⟩), .int .i64 page, .int .i64 k, .bool u] w fun e w' => e = .returned (.tuple #[(freshM n L ⟨s.W, s.r, dropT s.T 0 page⟩ page k u).2.1.v, .int .i64 (freshM n L ⟨s.W, s.r, dropT s.T 0 page⟩ page k u).2.2.1, .int .i64 (freshM n L ⟨s.W, s.r, dropT s.T 0 page⟩ page k u).2.2.2]) ∧ ModB w0 F w' m t q S p L h b n (freshM n L ⟨s.W, s.r, dropT s.T 0 page⟩ page k u).1 ∧ Far F w w' := by
  have hc1 : Chg [] w (w.alloc (.cells #[.int .i64 0, .int .i64 0, .int .i64 0, .bool false, .bool false, .bool false, .bool false] 45)) := (Chg.refl [] w).alloc _
  have hr1 := Blk.new w 45 #[.int .i64 0, .int .i64 0, .int .i64 0, .bool false, .bool false, .bool false, .bool false]
  have hs0 := H.c0.size
  have hFw : ∀ i ∈ F, i < w.heap.size := fun i hi => H.tb.2.1 i (List.mem_append.2 (.inr hi))
  have H1 := H.more (G := [w.heap.size]) hc1 (by intro i hi; simp at hi; subst hi; simp)
  obtain ⟨c0, c1, c2⟩ := H1.c
  have hP := POf_b page H1.tb
  rw [hu] at hP
  clear hu
  generalize getT s.T 0 page = x at *
  obtain ⟨xa, xp, xf, xw, xu, xx, xd⟩ := x
  simp only [Ht.v] at *
  have hFr := fun w9 (H9 : ModB w0 ([w.heap.size] ++ F) w9 m t q S p L h b n ⟨s.W, s.r, dropT s.T 0 page⟩) => MFresh_b page k u H9
  have hOk := H1.ok.drop 0 page
  generalize hfr : freshM n L ⟨s.W, s.r, dropT s.T 0 page⟩ page k u = fr at *
  clear hfr
  obtain ⟨s3, ⟨ya, yp, yf, yw, yu, yx, yd⟩, how, code⟩ := fr
  simp only [Ht.v] at *
  clear H
  go_enter Tryz.func69, Tryz.ntmps69
  go_wp2_with fail
  refine hP.mono ?_; rintro e u0 ⟨rfl, _, k0⟩
  have k1 : Chg [] (w.alloc (.cells #[.int .i64 0, .int .i64 0, .int .i64 0, .bool false, .bool false, .bool false, .bool false] 45)) (u0.alloc (.cells #[.int .i64 xa, .int .i64 xp, .int .i64 xf, .bool xw, .bool xu, .bool xx, .bool xd] 45)) := k0.alloc _
  have hx1 := Blk.new u0 45 #[.int .i64 xa, .int .i64 xp, .int .i64 xf, .bool xw, .bool xu, .bool xx, .bool xd]
  have hne : u0.heap.size ≠ w.heap.size := by have := k0.size; simp at this; omega
  have hne' : ¬ w.heap.size = u0.heap.size := fun e => hne e.symm
  have hr2 := k1.blk hr1 (by simp)
  have k2 := hc1.trans k1 (by simp)
  have H2 := H1.new k1
  obtain ⟨x0, x1, x2, x3, x4, x5, x6, _, _, _, _, _, _, _⟩ := blk7 hx1
  clear c0 c1 c2 hP k0
  obtain ⟨c0, c1, c2⟩ := H2.c
  go_wp2_with fail
  generalize u0.alloc (.cells #[.int .i64 xa, .int .i64 xp, .int .i64 xf, .bool xw, .bool xu, .bool xx, .bool xd] 45) = u3 at *
  have hr3 := hr2; have k4 := k2; have H3 := H2
  obtain ⟨z0, z1, z2, z3, z4, z5, z6, g0, g1, g2, g3, g4, g5, g6⟩ := blk7 hr3
  have hD := PForget_b page H3.tb
  go_wp2_with fail
  refine hD.mono ?_; rintro e u4 ⟨rfl, h4, f4⟩
  have H4 := H3.setT h4 f4 hOk
  have hr4 := f4.blk hr3 (by simp)
  clear hD
  go_wp2_with fail
  refine (hFr _ H4).mono ?_; rintro e u5 ⟨rfl, H5, f5⟩
  have hr5 := f5.blk hr4 (by simp)
  clear z0 z1 z2 z3 z4 z5 z6 g0 g1 g2 g3 g4 g5 g6 c0 c1 c2
  obtain ⟨z0, z1, z2, z3, z4, z5, z6, g0, g1, g2, g3, g4, g5, g6⟩ := blk7 hr5
  go_wp2_with fail
  refine bodyPost_ret (cell_tmps_ret rfl (set7 hr5) rfl Tryz.underlying45 rfl (by kernel_rfl)) rfl ?_
  have hk3 := chg7 (y0 := .int .i64 ya) (y1 := .int .i64 yp) (y2 := .int .i64 yf) (y3 := .bool yw) (y4 := .bool yu) (y5 := .bool yx) (y6 := .bool yd) (g := w.heap.size) (Chg.refl [w.heap.size] u5) (by simp)
  exact ⟨rfl, H5.own hk3 hs0, (Far.of_new k4).trans ((f4.less (fun i hi => by simp [hi])).trans ((f5.less (fun i hi => by simp [hi])).trans ⟨_, hk3, by simp; exact fun hm => by have := hFw _ hm; omega⟩))⟩

theorem MTake_b (page k : Int) (u : Bool) (H : ModB w0 F w m t q S p L h b n s) :
    Calls Tryz.prog 69 #[.pointer (some ⟨m, 0, none⟩), .int .i64 page, .int .i64 k, .bool u] w fun e w' =>
      e = .returned (.tuple #[(takeM n L s page k u).2.1.v, .int .i64 (takeM n L s page k u).2.2.1, .int .i64 (takeM n L s page k u).2.2.2]) ∧ ModB w0 F w' m t q S p L h b n (takeM n L s page k u).1 ∧ Far F w w' := by
  unfold takeM
  cases hu : hasT s.T 0 page with
  | true =>
    cases hv : servesB (getT s.T 0 page) k u with
    | true => exact take_yes page k u H hu hv
    | false => exact take_no page k u H hu hv
  | false => exact take_none page k u H hu
end

end Go.Proofs.YtedginkenmafmaaGreatDoor
