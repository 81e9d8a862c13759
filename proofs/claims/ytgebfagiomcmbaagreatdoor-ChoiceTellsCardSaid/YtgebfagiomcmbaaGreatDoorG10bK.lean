/-
  ModelE, ModelF, ModelG, ModelH, ModelQ, ModelR in one text.
-/
import Derived.Test.YtgebfagiomcmbaaGreatDoorG10aK
import Derived.Deep.LoopGhost
import Derived.Test.YtgebfagiomcmbaaGreatDoorG1K
import Derived.Test.YtgebfagiomcmbaaGreatDoorG7K
import Derived.Test.YtgebfagiomcmbaaGreatDoorG0K
namespace Go.Proofs.YtgebfagiomcmbaaGreatDoor
open Go.RowKit Go.Shelf

section
variable {w0 w : World} {F : List Nat} {m t q p h b n : Nat} {S : List Nat} {L : List Int} {s : Ms}
theorem MFresh_b (page k : Int) (u : Bool) (H : ModB w0 F w m t q S p L h b n s) :
    Calls Tryz.prog 88 #[.pointer (some ⟨m, 0, none⟩), .int .i64 page, .int .i64 k, .bool u] w fun e w' =>
      e = .returned (.tuple #[(freshM n L s page k u).2.1.v, .int .i64 (freshM n L s page k u).2.2.1, .int .i64 (freshM n L s page k u).2.2.2]) ∧ ModB w0 F w' m t q S p L h b n (freshM n L s page k u).1 ∧ Far F w w' := by
  unfold freshM
  cases hr : walkP n s.W L s.r page k u with
  | mk P hc =>
    obtain ⟨how, code⟩ := hc
    simp only
    by_cases h0 : how = 0
    · subst h0
      obtain rfl := (done_of hr).1
      rw [if_pos rfl]
      exact fresh_done page k u P H hr
    · rw [if_neg h0]
      obtain ⟨rfl, _⟩ := walk_zero hr h0
      exact fresh_not page k u H how code hr (by simpa using h0)
theorem MFind_b (page : Int) (H : ModB w0 F w m t q S p L h b n s) :
    Calls Tryz.prog 31 #[.pointer (some ⟨m, 0, none⟩), .int .i64 page] w fun e w' => e = .returned (.bool (findB n L s page)) ∧ ModB w0 F w' m t q S p L h b n (findM n L s page) ∧ Far F w w' := by
  unfold findM
  cases hu : hasT s.T 0 page with
  | true =>
    have e : findB n L s page = false := by simp [findB, hu]
    rw [e]; exact find_known page H hu
  | false =>
    cases hr : walkP n s.W L s.r page 0 false with
    | mk P hc =>
      obtain ⟨how, code⟩ := hc
      by_cases h0 : how = 0
      · subst h0
        obtain rfl := (done_of hr).1
        cases hus : usedAts n s.W L P.ats with
        | true =>
          have e : findB n L s page = true := by simp [findB, hu, hr, hus]
          rw [e]; exact find_done page H P hu hr hus
        | false =>
          have e : findB n L s page = false := by simp [findB, hu, hr, hus]
          rw [e]; exact find_bare page H P hu hr hus
      · obtain ⟨rfl, _⟩ := walk_zero hr h0
        have e : findB n L s page = false := by simp [findB, hu, hr, h0]
        rw [e]; exact find_stop page H how code hu hr (by simpa using h0)

set_option maxRecDepth 100000 in
set_option maxHeartbeats 4000000 in
theorem take_yes (page k : Int) (u : Bool) (H : ModB w0 F w m t q S p L h b n s) (hu : hasT s.T 0 page = true) (hv : servesB (getT s.T 0 page) k u = true) :
    Calls Tryz.prog 49 #[.pointer (some ⟨m, 0, none⟩), .int .i64 page, .int .i64 k, .bool u] w fun e w' => e = .returned (.tuple #[(getT s.T 0 page).v, .int .i64 0, .int .i64 0]) ∧ ModB w0 F w' m t q S p L h b n s ∧ Far F w w' := by
  have hc1 : Chg [] w (w.alloc (.cells #[.int .i64 0, .int .i64 0, .int .i64 0, .bool false, .bool false, .bool false, .bool false] 62)) := (Chg.refl [] w).alloc _
  have hr1 := Blk.new w 62 #[.int .i64 0, .int .i64 0, .int .i64 0, .bool false, .bool false, .bool false, .bool false]
  have hs0 := H.c0.size
  have hFw : ∀ i ∈ F, i < w.heap.size := fun i hi => H.tb.2.1 i (List.mem_append.2 (.inr hi))
  have H1 := H.more (G := [w.heap.size]) hc1 (by intro i hi; simp at hi; subst hi; simp)
  obtain ⟨c0, c1, c2⟩ := H1.c
  have hP := POf_b page H1.tb
  rw [hu] at hP
  clear hu
  have hV := fun w9 => serves_any (getT s.T 0 page) k u w9
  rw [hv] at hV
  clear hv
  generalize getT s.T 0 page = x at *
  obtain ⟨xa, xp, xf, xw, xu, xx, xd⟩ := x
  simp only [Ht.v] at *
  clear H
  go_enter Tryz.func49, Tryz.ntmps49
  go_wp2_with fail
  refine hP.mono ?_; rintro e u0 ⟨rfl, _, k0⟩
  have k1 : Chg [] (w.alloc (.cells #[.int .i64 0, .int .i64 0, .int .i64 0, .bool false, .bool false, .bool false, .bool false] 62)) (u0.alloc (.cells #[.int .i64 xa, .int .i64 xp, .int .i64 xf, .bool xw, .bool xu, .bool xx, .bool xd] 62)) := k0.alloc _
  have hx1 := Blk.new u0 62 #[.int .i64 xa, .int .i64 xp, .int .i64 xf, .bool xw, .bool xu, .bool xx, .bool xd]
  have hne : u0.heap.size ≠ w.heap.size := by have := k0.size; simp at this; omega
  have hne' : ¬ w.heap.size = u0.heap.size := fun e => hne e.symm
  have hr2 := k1.blk hr1 (by simp)
  have k2 := hc1.trans k1 (by simp)
  have H2 := H1.new k1
  obtain ⟨x0, x1, x2, x3, x4, x5, x6, _, _, _, _, _, _, _⟩ := blk7 hx1
  clear c0 c1 c2 hP k0
  obtain ⟨c0, c1, c2⟩ := H2.c
  go_wp2_with fail
  generalize u0.alloc (.cells #[.int .i64 xa, .int .i64 xp, .int .i64 xf, .bool xw, .bool xu, .bool xx, .bool xd] 62) = u2 at *
  refine (hV _).mono ?_; rintro e u3 ⟨rfl, k3⟩
  have hr3 := k3.blk hr2 (by simp)
  have hx3 := k3.blk hx1 (by simp)
  have k4 := k2.trans k3 (by simp)
  have H3 := H2.new k3
  clear hV x0 x1 x2 x3 x4 x5 x6 c0 c1 c2
  obtain ⟨x0, x1, x2, x3, x4, x5, x6, _, _, _, _, _, _, _⟩ := blk7 hx3
  obtain ⟨c0, c1, c2⟩ := H3.c
  obtain ⟨z0, z1, z2, z3, z4, z5, z6, g0, g1, g2, g3, g4, g5, g6⟩ := blk7 hr3
  go_wp2_with fail
  refine bodyPost_ret (cell_tmps_ret rfl (set7 hr3) rfl Tryz.underlying62 rfl (by kernel_rfl)) rfl ?_
  have hk3 := chg7 (y0 := .int .i64 xa) (y1 := .int .i64 xp) (y2 := .int .i64 xf) (y3 := .bool xw) (y4 := .bool xu) (y5 := .bool xx) (y6 := .bool xd) (g := w.heap.size) (Chg.refl [w.heap.size] u3) (by simp)
  exact ⟨rfl, H3.own hk3 hs0, (Far.of_new k4).trans ⟨_, hk3, by simp; exact fun hm => by have := hFw _ hm; omega⟩⟩
set_option maxRecDepth 100000 in
set_option maxHeartbeats 4000000 in
theorem take_no (page k : Int) (u : Bool) (H : ModB w0 F w m t q S p L h b n s) (hu : hasT s.T 0 page = true) (hv : servesB (getT s.T 0 page) k u = false) :
    Calls Tryz.prog 49 #[.pointer (some ⟨m, 0, none⟩), .int .i64 page, .int .i64 k, .bool u] w fun e w' => e = .returned (.tuple #[(freshM n L ⟨s.W, s.r, dropT s.T 0 page⟩ page k u).2.1.v, .int .i64 (freshM n L ⟨s.W, s.r, dropT s.T 0 page⟩ page k u).2.2.1, .int .i64 (freshM n L ⟨s.W, s.r, dropT s.T 0 page⟩ page k u).2.2.2]) ∧ ModB w0 F w' m t q S p L h b n (freshM n L ⟨s.W, s.r, dropT s.T 0 page⟩ page k u).1 ∧ Far F w w' := by
  have hc1 : Chg [] w (w.alloc (.cells #[.int .i64 0, .int .i64 0, .int .i64 0, .bool false, .bool false, .bool false, .bool false] 62)) := (Chg.refl [] w).alloc _
  have hr1 := Blk.new w 62 #[.int .i64 0, .int .i64 0, .int .i64 0, .bool false, .bool false, .bool false, .bool false]
  have hs0 := H.c0.size
  have hFw : ∀ i ∈ F, i < w.heap.size := fun i hi => H.tb.2.1 i (List.mem_append.2 (.inr hi))
  have H1 := H.more (G := [w.heap.size]) hc1 (by intro i hi; simp at hi; subst hi; simp)
  obtain ⟨c0, c1, c2⟩ := H1.c
  have hP := POf_b page H1.tb
  rw [hu] at hP
  clear hu
  have hV := fun w9 => serves_any (getT s.T 0 page) k u w9
  rw [hv] at hV
  clear hv
  generalize getT s.T 0 page = x at *
  obtain ⟨xa, xp, xf, xw, xu, xx, xd⟩ := x
  simp only [Ht.v] at *
  have hFr := fun w9 (H9 : ModB w0 ([w.heap.size] ++ F) w9 m t q S p L h b n ⟨s.W, s.r, dropT s.T 0 page⟩) => MFresh_b page k u H9
  have hOk := H1.ok.drop 0 page
  generalize hfr : freshM n L ⟨s.W, s.r, dropT s.T 0 page⟩ page k u = fr at *
  clear hfr
  obtain ⟨s3, ⟨ya, yp, yf, yw, yu, yx, yd⟩, how, code⟩ := fr
  simp only [Ht.v] at *
  clear H
  go_enter Tryz.func49, Tryz.ntmps49
  go_wp2_with fail
  refine hP.mono ?_; rintro e u0 ⟨rfl, _, k0⟩
  have k1 : Chg [] (w.alloc (.cells #[.int .i64 0, .int .i64 0, .int .i64 0, .bool false, .bool false, .bool false, .bool false] 62)) (u0.alloc (.cells #[.int .i64 xa, .int .i64 xp, .int .i64 xf, .bool xw, .bool xu, .bool xx, .bool xd] 62)) := k0.alloc _
  have hx1 := Blk.new u0 62 #[.int .i64 xa, .int .i64 xp, .int .i64 xf, .bool xw, .bool xu, .bool xx, .bool xd]
  have hne : u0.heap.size ≠ w.heap.size := by have := k0.size; simp at this; omega
  have hne' : ¬ w.heap.size = u0.heap.size := fun e => hne e.symm
  have hr2 := k1.blk hr1 (by simp)
  have k2 := hc1.trans k1 (by simp)
  have H2 := H1.new k1
  obtain ⟨x0, x1, x2, x3, x4, x5, x6, _, _, _, _, _, _, _⟩ := blk7 hx1
  clear c0 c1 c2 hP k0
  obtain ⟨c0, c1, c2⟩ := H2.c
  go_wp2_with fail
  generalize u0.alloc (.cells #[.int .i64 xa, .int .i64 xp, .int .i64 xf, .bool xw, .bool xu, .bool xx, .bool xd] 62) = u2 at *
  refine (hV _).mono ?_; rintro e u3 ⟨rfl, k3⟩
  have hr3 := k3.blk hr2 (by simp)
  have hx3 := k3.blk hx1 (by simp)
  have k4 := k2.trans k3 (by simp)
  have H3 := H2.new k3
  clear hV x0 x1 x2 x3 x4 x5 x6 c0 c1 c2
  obtain ⟨x0, x1, x2, x3, x4, x5, x6, _, _, _, _, _, _, _⟩ := blk7 hx3
  obtain ⟨c0, c1, c2⟩ := H3.c
  obtain ⟨z0, z1, z2, z3, z4, z5, z6, g0, g1, g2, g3, g4, g5, g6⟩ := blk7 hr3
  have hD := PForget_b page H3.tb
  go_wp2_with fail
  refine hD.mono ?_; rintro e u4 ⟨rfl, h4, f4⟩
  have H4 := H3.setT h4 f4 hOk
  have hr4 := f4.blk hr3 (by simp)
  clear hD
  go_wp2_with fail
  refine (hFr _ H4).mono ?_; rintro e u5 ⟨rfl, H5, f5⟩
  have hr5 := f5.blk hr4 (by simp)
  clear z0 z1 z2 z3 z4 z5 z6 g0 g1 g2 g3 g4 g5 g6 c0 c1 c2
  obtain ⟨z0, z1, z2, z3, z4, z5, z6, g0, g1, g2, g3, g4, g5, g6⟩ := blk7 hr5
  go_wp2_with fail
  refine bodyPost_ret (cell_tmps_ret rfl (set7 hr5) rfl Tryz.underlying62 rfl (by kernel_rfl)) rfl ?_
  have hk3 := chg7 (y0 := .int .i64 ya) (y1 := .int .i64 yp) (y2 := .int .i64 yf) (y3 := .bool yw) (y4 := .bool yu) (y5 := .bool yx) (y6 := .bool yd) (g := w.heap.size) (Chg.refl [w.heap.size] u5) (by simp)
  exact ⟨rfl, H5.own hk3 hs0, (Far.of_new k4).trans ((f4.less (fun i hi => by simp [hi])).trans ((f5.less (fun i hi => by simp [hi])).trans ⟨_, hk3, by simp; exact fun hm => by have := hFw _ hm; omega⟩))⟩
set_option maxRecDepth 100000 in
set_option maxHeartbeats 4000000 in
theorem take_none (page k : Int) (u : Bool) (H : ModB w0 F w m t q S p L h b n s) (hu : hasT s.T 0 page = false) :
    Calls Tryz.prog 49 #[.pointer (some ⟨m, 0, none⟩), .int .i64 page, .int .i64 k, .bool u] w fun e w' => e = .returned (.tuple #[(freshM n L ⟨s.W, s.r, dropT s.T 0 page⟩ page k u).2.1.v, .int .i64 (freshM n L ⟨s.W, s.r, dropT s.T 0 page⟩ page k u).2.2.1, .int .i64 (freshM n L ⟨s.W, s.r, dropT s.T 0 page⟩ page k u).2.2.2]) ∧ ModB w0 F w' m t q S p L h b n (freshM n L ⟨s.W, s.r, dropT s.T 0 page⟩ page k u).1 ∧ Far F w w' := by
  have hc1 : Chg [] w (w.alloc (.cells #[.int .i64 0, .int .i64 0, .int .i64 0, .bool false, .bool false, .bool false, .bool false] 62)) := (Chg.refl [] w).alloc _
  have hr1 := Blk.new w 62 #[.int .i64 0, .int .i64 0, .int .i64 0, .bool false, .bool false, .bool false, .bool false]
  have hs0 := H.c0.size
  have hFw : ∀ i ∈ F, i < w.heap.size := fun i hi => H.tb.2.1 i (List.mem_append.2 (.inr hi))
  have H1 := H.more (G := [w.heap.size]) hc1 (by intro i hi; simp at hi; subst hi; simp)
  obtain ⟨c0, c1, c2⟩ := H1.c
  have hP := POf_b page H1.tb
  rw [hu] at hP
  clear hu
  generalize getT s.T 0 page = x at *
  obtain ⟨xa, xp, xf, xw, xu, xx, xd⟩ := x
  simp only [Ht.v] at *
  have hFr := fun w9 (H9 : ModB w0 ([w.heap.size] ++ F) w9 m t q S p L h b n ⟨s.W, s.r, dropT s.T 0 page⟩) => MFresh_b page k u H9
  have hOk := H1.ok.drop 0 page
  generalize hfr : freshM n L ⟨s.W, s.r, dropT s.T 0 page⟩ page k u = fr at *
  clear hfr
  obtain ⟨s3, ⟨ya, yp, yf, yw, yu, yx, yd⟩, how, code⟩ := fr
  simp only [Ht.v] at *
  clear H
  go_enter Tryz.func49, Tryz.ntmps49
  go_wp2_with fail
  refine hP.mono ?_; rintro e u0 ⟨rfl, _, k0⟩
  have k1 : Chg [] (w.alloc (.cells #[.int .i64 0, .int .i64 0, .int .i64 0, .bool false, .bool false, .bool false, .bool false] 62)) (u0.alloc (.cells #[.int .i64 xa, .int .i64 xp, .int .i64 xf, .bool xw, .bool xu, .bool xx, .bool xd] 62)) := k0.alloc _
  have hx1 := Blk.new u0 62 #[.int .i64 xa, .int .i64 xp, .int .i64 xf, .bool xw, .bool xu, .bool xx, .bool xd]
  have hne : u0.heap.size ≠ w.heap.size := by have := k0.size; simp at this; omega
  have hne' : ¬ w.heap.size = u0.heap.size := fun e => hne e.symm
  have hr2 := k1.blk hr1 (by simp)
  have k2 := hc1.trans k1 (by simp)
  have H2 := H1.new k1
  obtain ⟨x0, x1, x2, x3, x4, x5, x6, _, _, _, _, _, _, _⟩ := blk7 hx1
  clear c0 c1 c2 hP k0
  obtain ⟨c0, c1, c2⟩ := H2.c
  go_wp2_with fail
  generalize u0.alloc (.cells #[.int .i64 xa, .int .i64 xp, .int .i64 xf, .bool xw, .bool xu, .bool xx, .bool xd] 62) = u3 at *
  have hr3 := hr2; have k4 := k2; have H3 := H2
  obtain ⟨z0, z1, z2, z3, z4, z5, z6, g0, g1, g2, g3, g4, g5, g6⟩ := blk7 hr3
  have hD := PForget_b page H3.tb
  go_wp2_with fail
  refine hD.mono ?_; rintro e u4 ⟨rfl, h4, f4⟩
  have H4 := H3.setT h4 f4 hOk
  have hr4 := f4.blk hr3 (by simp)
  clear hD
  go_wp2_with fail
  refine (hFr _ H4).mono ?_; rintro e u5 ⟨rfl, H5, f5⟩
  have hr5 := f5.blk hr4 (by simp)
  clear z0 z1 z2 z3 z4 z5 z6 g0 g1 g2 g3 g4 g5 g6 c0 c1 c2
  obtain ⟨z0, z1, z2, z3, z4, z5, z6, g0, g1, g2, g3, g4, g5, g6⟩ := blk7 hr5
  go_wp2_with fail
  refine bodyPost_ret (cell_tmps_ret rfl (set7 hr5) rfl Tryz.underlying62 rfl (by kernel_rfl)) rfl ?_
  have hk3 := chg7 (y0 := .int .i64 ya) (y1 := .int .i64 yp) (y2 := .int .i64 yf) (y3 := .bool yw) (y4 := .bool yu) (y5 := .bool yx) (y6 := .bool yd) (g := w.heap.size) (Chg.refl [w.heap.size] u5) (by simp)
  exact ⟨rfl, H5.own hk3 hs0, (Far.of_new k4).trans ((f4.less (fun i hi => by simp [hi])).trans ((f5.less (fun i hi => by simp [hi])).trans ⟨_, hk3, by simp; exact fun hm => by have := hFw _ hm; omega⟩))⟩

theorem MTake_b (page k : Int) (u : Bool) (H : ModB w0 F w m t q S p L h b n s) :
    Calls Tryz.prog 49 #[.pointer (some ⟨m, 0, none⟩), .int .i64 page, .int .i64 k, .bool u] w fun e w' =>
      e = .returned (.tuple #[(takeM n L s page k u).2.1.v, .int .i64 (takeM n L s page k u).2.2.1, .int .i64 (takeM n L s page k u).2.2.2]) ∧ ModB w0 F w' m t q S p L h b n (takeM n L s page k u).1 ∧ Far F w w' := by
  unfold takeM
  cases hu : hasT s.T 0 page with
  | true =>
    cases hv : servesB (getT s.T 0 page) k u with
    | true => exact take_yes page k u H hu hv
    | false => exact take_no page k u H hu hv
  | false => exact take_none page k u H hu
end

end Go.Proofs.YtgebfagiomcmbaaGreatDoor

namespace Go.Proofs.YtgebfagiomcmbaaGreatDoor
open Go.RowKit Go.Shelf

section
variable {w0 w w' : World} {F : List Nat} {m t q p h b n : Nat} {S : List Nat} {L : List Int} {s : Ms}
/-- a block of one's own turned, that stays apart -/
theorem ModB.turn {g : Nat} (H : ModB w0 F w m t q S p L h b n s) (hF : g ∈ F) (hc : Chg [g] w w') (hg : w0.heap.size ≤ g) : ModB w0 F w' m t q S p L h b n s := by
  have hn : ∀ i ∈ mB m q S h b, i ∉ [g] := fun i hi hm => H.ap i hi (by simp at hm; subst hm; exact hF)
  exact ⟨H.tb.other hc (by simp [hF]) (by simpa using hg),
    H.gu.other hc (hn q (by simp [mB])) (fun i hi => hn i (by simp [mB, hi])) (hn h (by simp [mB])) (hn b (by simp [mB])), hc.blk H.st (hn m (by simp [mB])), H.er, H.ok, H.nm, H.nb, H.ap, H.ms⟩
theorem box1 {g : Nat} {ty : TypeId} {x : Value} (h : Blk w g ty #[x]) : w.cell? ⟨g, 0, none⟩ = some x := h.cell 0
end

set_option maxHeartbeats 400000 in
theorem Acc1_any (ga a : Nat) (w : World) (ha : a < 18446744073709551616) (hb : Blk w ga 35 #[.int .u64 a]) :
    Calls Tryz.prog 43 #[.pointer (some ⟨ga, 0, none⟩)] w fun e w' => e = .returned (.tuple #[.int .i64 (if aliB a then 0 else 4), .int .i64 0]) ∧ Chg [] w w' := by
  have c0 := box1 hb
  have hA := Aligned_any a w ha
  have hU := fun w0 => unless_any (aliB a) 4 w0
  generalize (if aliB a = true then (0 : Int) else 4) = how at *
  generalize aliB a = u at *
  go_enter Tryz.func43, Tryz.ntmps43
  go_wp2_with fail
  refine hA.mono ?_; rintro e w1 ⟨rfl, k1⟩
  go_wp2_with fail
  refine (hU _).mono ?_; rintro e w2 ⟨rfl, rfl⟩
  go_wp2_with fail
  go_ret2
  exact ⟨rfl, k1.chg⟩
set_option maxHeartbeats 400000 in
theorem Acc2_any (ga a : Nat) (w : World) (hb : Blk w ga 35 #[.int .u64 a]) :
    Calls Tryz.prog 46 #[.pointer (some ⟨ga, 0, none⟩)] w fun e w' => e = .returned (.tuple #[.int .i64 (if canB a then 0 else 2), .int .i64 0]) ∧ Chg [] w w' := by
  have c0 := box1 hb
  have hA := Canon_any a w
  have hU := fun w0 => unless_any (canB a) 2 w0
  generalize (if canB a = true then (0 : Int) else 2) = how at *
  generalize canB a = u at *
  go_enter Tryz.func46, Tryz.ntmps46
  go_wp2_with fail
  refine hA.mono ?_; rintro e w1 ⟨rfl, k1⟩
  go_wp2_with fail
  refine (hU _).mono ?_; rintro e w2 ⟨rfl, rfl⟩
  go_wp2_with fail
  go_ret2
  exact ⟨rfl, k1.chg⟩

section
variable {w0 w : World} {F : List Nat} {m t q p h b n : Nat} {S : List Nat} {L : List Int} {s : Ms}
set_option maxRecDepth 100000 in
set_option maxHeartbeats 8000000 in
theorem Acc3_b (gm ga gk gu gh a : Nat) (k : Int) (u : Bool) (x0 : Ht) (ha : a < 18446744073709551616) (H : ModB w0 F w m t q S p L h b n s) (hgh : w0.heap.size ≤ gh) (hF : ∀ i ∈ [gm, ga, gk, gu, gh], i ∈ F)
    (bm : Blk w gm 31 #[.pointer (some ⟨m, 0, none⟩)]) (ba : Blk w ga 35 #[.int .u64 a]) (bk : Blk w gk 3 #[.int .i64 k]) (bu : Blk w gu 4 #[.bool u]) (bh : Blk w gh 62 x0.cl.toArray) :
    Calls Tryz.prog 48 #[.pointer (some ⟨gm, 0, none⟩), .pointer (some ⟨ga, 0, none⟩), .pointer (some ⟨gk, 0, none⟩), .pointer (some ⟨gu, 0, none⟩), .pointer (some ⟨gh, 0, none⟩)] w fun e w' =>
      e = .returned (.tuple #[.int .i64 (takeM n L s (pageN a) k u).2.2.1, .int .i64 (takeM n L s (pageN a) k u).2.2.2]) ∧ ModB w0 F w' m t q S p L h b n (takeM n L s (pageN a) k u).1 ∧ Blk w' gh 62 (takeM n L s (pageN a) k u).2.1.cl.toArray ∧ ∀ G, (∀ i ∈ G, i ∈ F ∧ i ≠ gh) → Far G w w' := by
  have hP := fun w9 => Page_any a w9 ha
  have hT := fun w9 (H9 : ModB w0 F w9 m t q S p L h b n s) => MTake_b (pageN a) k u H9
  have nm := bh.type_ne bm (by decide); have na := bh.type_ne ba (by decide); have nk := bh.type_ne bk (by decide); have nu := bh.type_ne bu (by decide)
  generalize takeM n L s (pageN a) k u = tk at *
  obtain ⟨s3, ⟨ya, yp, yf, yw, yu, yx, yd⟩, how, code⟩ := tk
  obtain ⟨xa, xp, xf, xw, xu, xx, xd⟩ := x0
  simp only [Ht.v, Ht.cl] at *
  generalize pageN a = pg at *
  go_enter Tryz.func48, Tryz.ntmps48
  go_wp2_with fail
  refine wp_region_noPanic ?_
  refine wp_region_held_drew (S := (fun w' => Blk w' gm 31 #[.pointer (some ⟨m, 0, none⟩)] ∧ Blk w' ga 35 #[.int .u64 a] ∧ Blk w' gk 3 #[.int .i64 k] ∧ Blk w' gu 4 #[.bool u])) (by kernel_rfl) ?_ (fun hHeld => ?_)
  · exact ⟨bm.drew, ba.drew, bk.drew, bu.drew⟩
  (refine take_on 0 (some 8) (v := ?_) rfl rfl (by kernel_rfl) (by kernel_rfl) (by kernel_rfl) (fun _ _ _ h => h) (by rfl) (by assumption) ?_ ?_; rotate_left; · (intro w hSw; (try dsimp only at hSw); obtain ⟨sm_, sa_, sk_, su_⟩ := hSw; have cm_ := box1 sm_; have ca_ := box1 sa_; have ck_ := box1 sk_; have cu_ := box1 su_; go_simp; (try with_reducible rfl)))
  (try simp only [Act.put, List.setIfInBounds_toArray, List.set_cons_zero, List.set_cons_succ])
  (refine take_on 1 (some 9) (v := ?_) rfl rfl (by kernel_rfl) (by kernel_rfl) (by kernel_rfl) (fun _ _ _ h => h) (by rfl) (by assumption) ?_ ?_; rotate_left; · (intro w hSw; (try dsimp only at hSw); obtain ⟨sm_, sa_, sk_, su_⟩ := hSw; have cm_ := box1 sm_; have ca_ := box1 sa_; have ck_ := box1 sk_; have cu_ := box1 su_; go_simp; (try with_reducible rfl)))
  (try simp only [Act.put, List.setIfInBounds_toArray, List.set_cons_zero, List.set_cons_succ])
  (refine take_on 3 (some 11) (v := ?_) rfl rfl (by kernel_rfl) (by kernel_rfl) (by kernel_rfl) (fun _ _ _ h => h) (by rfl) (by assumption) ?_ ?_; rotate_left; · (intro w hSw; (try dsimp only at hSw); obtain ⟨sm_, sa_, sk_, su_⟩ := hSw; have cm_ := box1 sm_; have ca_ := box1 sa_; have ck_ := box1 sk_; have cu_ := box1 su_; go_simp; (try with_reducible rfl)))
  (try simp only [Act.put, List.setIfInBounds_toArray, List.set_cons_zero, List.set_cons_succ])
  (refine take_on 4 (some 12) (v := ?_) rfl rfl (by kernel_rfl) (by kernel_rfl) (by kernel_rfl) (fun _ _ _ h => h) (by rfl) (by assumption) ?_ ?_; rotate_left; · (intro w hSw; (try dsimp only at hSw); obtain ⟨sm_, sa_, sk_, su_⟩ := hSw; have cm_ := box1 sm_; have ca_ := box1 sa_; have ck_ := box1 sk_; have cu_ := box1 su_; go_simp; (try with_reducible rfl)))
  (try simp only [Act.put, List.setIfInBounds_toArray, List.set_cons_zero, List.set_cons_succ])
  refine wpAnyH_ready (rs := [2]) (by kernel_rfl) (by simp) ?_; refine AllReadyH.cons (o := _) rfl (fun K hK => ?_) AllReadyH.nil
  go_simp
  (go_at_call 50; refine (hP _).mono ?_; rintro e w1 ⟨rfl, k1⟩; have k1 := k1.chg; have k2 : Chg [] w w1 := ((Chg.refl [] w).drew).trans k1 (by simp); have bh1 := bh.chg_ k2 (by simp); have H1 := H.new k2)
  refine hK.out _ _ (by (try dsimp only); exact ⟨hHeld.1.chg_ k1 (by simp), hHeld.2.1.chg_ k1 (by simp), hHeld.2.2.1.chg_ k1 (by simp), hHeld.2.2.2.chg_ k1 (by simp)⟩) (fun hHeld => ?_)
  clear hK K
  (try simp only [Act.put, List.setIfInBounds_toArray, List.set_cons_zero, List.set_cons_succ])
  refine wpAnyH_ready (rs := [5]) (by kernel_rfl) (by simp) ?_; refine AllReadyH.cons (o := _) rfl (fun K hK => ?_) AllReadyH.nil
  go_simp
  (go_at_call 49; refine (hT _ H1).mono ?_; rintro e w2 ⟨rfl, H2, f2⟩; have bh2 := f2.blk bh1 (hF gh (by simp)); obtain ⟨z0, z1, z2, z3, z4, z5, z6, g0, g1, g2, g3, g4, g5, g6⟩ := blk7 bh2)
  refine hK.out _ _ (by (try dsimp only); exact ⟨f2.blk hHeld.1 (hF gm (by simp)), f2.blk hHeld.2.1 (hF ga (by simp)), f2.blk hHeld.2.2.1 (hF gk (by simp)), f2.blk hHeld.2.2.2 (hF gu (by simp))⟩) (fun hHeld => ?_)
  clear hK K
  (try simp only [Act.put, List.setIfInBounds_toArray, List.set_cons_zero, List.set_cons_succ])
  (refine take_on 6 (some 7) (v := ?_) rfl rfl (by kernel_rfl) (by kernel_rfl) (by kernel_rfl) (fun _ _ _ h => h) (by rfl) (by assumption) ?_ ?_; rotate_left; · (intro w hSw; (try dsimp only at hSw); go_simp; (try with_reducible rfl)))
  (try simp only [Act.put, List.setIfInBounds_toArray, List.set_cons_zero, List.set_cons_succ])
  (refine take_on 7 (some 14) (v := ?_) rfl rfl (by kernel_rfl) (by kernel_rfl) (by kernel_rfl) (fun _ _ _ h => h) (by rfl) (by assumption) ?_ ?_; rotate_left; · (intro w hSw; (try dsimp only at hSw); go_simp; (try with_reducible rfl)))
  (try simp only [Act.put, List.setIfInBounds_toArray, List.set_cons_zero, List.set_cons_succ])
  (refine take_on 8 (some 15) (v := ?_) rfl rfl (by kernel_rfl) (by kernel_rfl) (by kernel_rfl) (fun _ _ _ h => h) (by rfl) (by assumption) ?_ ?_; rotate_left; · (intro w hSw; (try dsimp only at hSw); go_simp; (try with_reducible rfl)))
  (try simp only [Act.put, List.setIfInBounds_toArray, List.set_cons_zero, List.set_cons_succ])
  (refine take_on 9 (some 16) (v := ?_) rfl rfl (by kernel_rfl) (by kernel_rfl) (by kernel_rfl) (fun _ _ _ h => h) (by rfl) (by assumption) ?_ ?_; rotate_left; · (intro w hSw; (try dsimp only at hSw); go_simp; (try with_reducible rfl)))
  (try simp only [Act.put, List.setIfInBounds_toArray, List.set_cons_zero, List.set_cons_succ])
  refine wpAnyH_ready (rs := [10]) (by kernel_rfl) (by simp) ?_; refine AllReadyH.cons (o := _) rfl (fun K hK => ?_) AllReadyH.nil
  go_simp
  skip
  refine hK.out _ _ (by (try dsimp only); exact ⟨far7 hHeld.1 (Ne.symm nm), far7 hHeld.2.1 (Ne.symm na), far7 hHeld.2.2.1 (Ne.symm nk), far7 hHeld.2.2.2 (Ne.symm nu)⟩) (fun hHeld => ?_)
  clear hK K
  (try simp only [Act.put, List.setIfInBounds_toArray, List.set_cons_zero, List.set_cons_succ])
  (refine take_on 11 (some 5) (v := ?_) rfl rfl (by kernel_rfl) (by kernel_rfl) (by kernel_rfl) (fun _ _ _ h => h) (by rfl) (by assumption) ?_ ?_; rotate_left; · (intro w hSw; (try dsimp only at hSw); go_simp; (try with_reducible rfl)))
  (try simp only [Act.put, List.setIfInBounds_toArray, List.set_cons_zero, List.set_cons_succ])
  (refine take_on 12 (some 6) (v := ?_) rfl rfl (by kernel_rfl) (by kernel_rfl) (by kernel_rfl) (fun _ _ _ h => h) (by rfl) (by assumption) ?_ ?_; rotate_left; · (intro w hSw; (try dsimp only at hSw); go_simp; (try with_reducible rfl)))
  (try simp only [Act.put, List.setIfInBounds_toArray, List.set_cons_zero, List.set_cons_succ])
  refine wpAnyH_done (by kernel_rfl) ?_ _
  refine NoPanic.normal ?_
  have hk3 := chg7 (y0 := .int .i64 ya) (y1 := .int .i64 yp) (y2 := .int .i64 yf) (y3 := .bool yw) (y4 := .bool yu) (y5 := .bool yx) (y6 := .bool yd) (g := gh) (Chg.refl [gh] w2) (by simp)
  go_wp2_with fail
  go_ret2
  refine ⟨rfl, H2.turn (hF gh (by simp)) hk3 hgh, set7 bh2, fun G hG => (Far.of_new k2).trans ((f2.less fun i hi => (hG i hi).1).trans ⟨_, hk3, by simp; exact fun hm => (hG gh hm).2 rfl⟩)⟩
end

end Go.Proofs.YtgebfagiomcmbaaGreatDoor

namespace Go.Proofs.YtgebfagiomcmbaaGreatDoor
open Go.RowKit Go.Shelf

section
variable (n : Nat) (L : List Int) (s : Ms) (a : Nat) (k : Int) (u : Bool)
/-- where Access stands ahead of its question z -/
inductive AccZ : Int → Ms → Prop
  | z0 : AccZ 0 s
  | z1 (_ : aliB a = true) : AccZ 1 s
  | z2 (_ : aliB a = true) (_ : canB a = true) : AccZ 2 s
  | z3 (s1 : Ms) (_ : aliB a = true) (_ : canB a = true) (_ : (takeM n L s (pageN a) k u).2.2.1 = 0) (_ : s1 = (takeM n L s (pageN a) k u).1) : AccZ 3 s1
end
/-- the blocks of an Access -/
structure AccB (w : World) (gm gk gu ga go gs : Nat) (m a : Nat) (k : Int) (u : Bool) (fs : Array Value) : Prop where
  bm : Blk w gm 31 #[.pointer (some ⟨m, 0, none⟩)]
  bk : Blk w gk 3 #[.int .i64 k]
  bu : Blk w gu 4 #[.bool u]
  ba : Blk w ga 35 #[.int .u64 a]
  bo : Blk w go 39 #[.int .i64 0, .int .u64 0, .int .i64 0, .int .u64 0]
  bs : Blk w gs 98 fs
theorem AccB.far {w w' : World} {gm gk gu ga go gs m a : Nat} {k : Int} {u : Bool} {fs : Array Value} {F : List Nat} (h : AccB w gm gk gu ga go gs m a k u fs) (f : Far F w w') (hF : ∀ i ∈ [gm, gk, gu, ga, go, gs], i ∈ F) : AccB w' gm gk gu ga go gs m a k u fs :=
  ⟨f.blk h.bm (hF _ (by simp)), f.blk h.bk (hF _ (by simp)), f.blk h.bu (hF _ (by simp)), f.blk h.ba (hF _ (by simp)), f.blk h.bo (hF _ (by simp)), f.blk h.bs (hF _ (by simp))⟩

/-- the blocks of an Access, as a list -/
def G7 (g : Nat) : List Nat := [g, g + 1, g + 2, g + 3, g + 4, g + 5, g + 6]
theorem far4 {w : World} {g g' : Nat} {t : TypeId} {cs : Array Value} {y0 y1 y2 y3 : Value} (h : Blk w g' t cs) (hn : g' ≠ g) : Blk ((((w.setCell ⟨g, 0, none⟩ y0).setCell ⟨g, 1, none⟩ y1).setCell ⟨g, 2, none⟩ y2).setCell ⟨g, 3, none⟩ y3) g' t cs := (((h.far (p := ⟨g, 0, none⟩) hn y0).far (p := ⟨g, 1, none⟩) hn y1).far (p := ⟨g, 2, none⟩) hn y2).far (p := ⟨g, 3, none⟩) hn y3

section
variable {w0 w : World} {F : List Nat} {m t q p h b n : Nat} {S : List Nat} {L : List Int} {s : Ms}
set_option maxRecDepth 100000 in
set_option maxHeartbeats 16000000 in
theorem MAcc_b (k : Int) (u : Bool) (a : Nat) (v : Int) (ha : a < 18446744073709551616) (hv : 0 ≤ v ∧ v < 18446744073709551616) (H : ModB w0 F w m t q S p L h b n s) :
    Calls Tryz.prog 14 #[.pointer (some ⟨m, 0, none⟩), .int .i64 k, .bool u, .int .u64 a, .int .u64 v] w fun e w' =>
      e = .returned (.agg (accM n L s k u a v).2.cs) ∧ ModB w0 F w' m t q S p L h b n (accM n L s k u a v).1 ∧ Far F w w' := by
  have hmf : ∀ (fn : Fn) (first cap : Array Value) (w : World), (Instr.makeFunc fn first cap).run Tryz.prog w = .ok (.func fn first cap) w := fun _ _ _ _ => rfl
  have hc7 : Chg [] w (((((((w.alloc (.cells #[.pointer (some ⟨m, 0, none⟩)] 31)).alloc (.cells #[.int .i64 k] 3)).alloc (.cells #[.bool u] 4)).alloc (.cells #[.int .u64 a] 35)).alloc (.cells #[.int .i64 0, .int .u64 0, .int .i64 0, .int .u64 0] 39)).alloc (.cells #[.int .i64 0, .int .i64 0, .int .i64 0, .bool false, .bool false, .bool false, .bool false] 62)).alloc (.cells #[.func (.func 43) #[] #[.pointer (some ⟨w.heap.size + 3, 0, none⟩)], .func (.func 46) #[] #[.pointer (some ⟨w.heap.size + 3, 0, none⟩)], .func (.func 48) #[] #[.pointer (some ⟨w.heap.size, 0, none⟩), .pointer (some ⟨w.heap.size + 3, 0, none⟩), .pointer (some ⟨w.heap.size + 1, 0, none⟩), .pointer (some ⟨w.heap.size + 2, 0, none⟩), .pointer (some ⟨w.heap.size + 5, 0, none⟩)]] 98)) := (((((((Chg.refl [] w).alloc _).alloc _).alloc _).alloc _).alloc _).alloc _).alloc _
  have bm := (((((((Blk.new w 31 #[.pointer (some ⟨m, 0, none⟩)]).alloc (.cells #[.int .i64 k] 3)).alloc (.cells #[.bool u] 4)).alloc (.cells #[.int .u64 a] 35)).alloc (.cells #[.int .i64 0, .int .u64 0, .int .i64 0, .int .u64 0] 39)).alloc (.cells #[.int .i64 0, .int .i64 0, .int .i64 0, .bool false, .bool false, .bool false, .bool false] 62)).alloc (.cells #[.func (.func 43) #[] #[.pointer (some ⟨w.heap.size + 3, 0, none⟩)], .func (.func 46) #[] #[.pointer (some ⟨w.heap.size + 3, 0, none⟩)], .func (.func 48) #[] #[.pointer (some ⟨w.heap.size, 0, none⟩), .pointer (some ⟨w.heap.size + 3, 0, none⟩), .pointer (some ⟨w.heap.size + 1, 0, none⟩), .pointer (some ⟨w.heap.size + 2, 0, none⟩), .pointer (some ⟨w.heap.size + 5, 0, none⟩)]] 98))
  have bk := ((((((Blk.new (w.alloc (.cells #[.pointer (some ⟨m, 0, none⟩)] 31)) 3 #[.int .i64 k]).alloc (.cells #[.bool u] 4)).alloc (.cells #[.int .u64 a] 35)).alloc (.cells #[.int .i64 0, .int .u64 0, .int .i64 0, .int .u64 0] 39)).alloc (.cells #[.int .i64 0, .int .i64 0, .int .i64 0, .bool false, .bool false, .bool false, .bool false] 62)).alloc (.cells #[.func (.func 43) #[] #[.pointer (some ⟨w.heap.size + 3, 0, none⟩)], .func (.func 46) #[] #[.pointer (some ⟨w.heap.size + 3, 0, none⟩)], .func (.func 48) #[] #[.pointer (some ⟨w.heap.size, 0, none⟩), .pointer (some ⟨w.heap.size + 3, 0, none⟩), .pointer (some ⟨w.heap.size + 1, 0, none⟩), .pointer (some ⟨w.heap.size + 2, 0, none⟩), .pointer (some ⟨w.heap.size + 5, 0, none⟩)]] 98))
  have bu := (((((Blk.new ((w.alloc (.cells #[.pointer (some ⟨m, 0, none⟩)] 31)).alloc (.cells #[.int .i64 k] 3)) 4 #[.bool u]).alloc (.cells #[.int .u64 a] 35)).alloc (.cells #[.int .i64 0, .int .u64 0, .int .i64 0, .int .u64 0] 39)).alloc (.cells #[.int .i64 0, .int .i64 0, .int .i64 0, .bool false, .bool false, .bool false, .bool false] 62)).alloc (.cells #[.func (.func 43) #[] #[.pointer (some ⟨w.heap.size + 3, 0, none⟩)], .func (.func 46) #[] #[.pointer (some ⟨w.heap.size + 3, 0, none⟩)], .func (.func 48) #[] #[.pointer (some ⟨w.heap.size, 0, none⟩), .pointer (some ⟨w.heap.size + 3, 0, none⟩), .pointer (some ⟨w.heap.size + 1, 0, none⟩), .pointer (some ⟨w.heap.size + 2, 0, none⟩), .pointer (some ⟨w.heap.size + 5, 0, none⟩)]] 98))
  have ba := ((((Blk.new (((w.alloc (.cells #[.pointer (some ⟨m, 0, none⟩)] 31)).alloc (.cells #[.int .i64 k] 3)).alloc (.cells #[.bool u] 4)) 35 #[.int .u64 a]).alloc (.cells #[.int .i64 0, .int .u64 0, .int .i64 0, .int .u64 0] 39)).alloc (.cells #[.int .i64 0, .int .i64 0, .int .i64 0, .bool false, .bool false, .bool false, .bool false] 62)).alloc (.cells #[.func (.func 43) #[] #[.pointer (some ⟨w.heap.size + 3, 0, none⟩)], .func (.func 46) #[] #[.pointer (some ⟨w.heap.size + 3, 0, none⟩)], .func (.func 48) #[] #[.pointer (some ⟨w.heap.size, 0, none⟩), .pointer (some ⟨w.heap.size + 3, 0, none⟩), .pointer (some ⟨w.heap.size + 1, 0, none⟩), .pointer (some ⟨w.heap.size + 2, 0, none⟩), .pointer (some ⟨w.heap.size + 5, 0, none⟩)]] 98))
  have bo := (((Blk.new ((((w.alloc (.cells #[.pointer (some ⟨m, 0, none⟩)] 31)).alloc (.cells #[.int .i64 k] 3)).alloc (.cells #[.bool u] 4)).alloc (.cells #[.int .u64 a] 35)) 39 #[.int .i64 0, .int .u64 0, .int .i64 0, .int .u64 0]).alloc (.cells #[.int .i64 0, .int .i64 0, .int .i64 0, .bool false, .bool false, .bool false, .bool false] 62)).alloc (.cells #[.func (.func 43) #[] #[.pointer (some ⟨w.heap.size + 3, 0, none⟩)], .func (.func 46) #[] #[.pointer (some ⟨w.heap.size + 3, 0, none⟩)], .func (.func 48) #[] #[.pointer (some ⟨w.heap.size, 0, none⟩), .pointer (some ⟨w.heap.size + 3, 0, none⟩), .pointer (some ⟨w.heap.size + 1, 0, none⟩), .pointer (some ⟨w.heap.size + 2, 0, none⟩), .pointer (some ⟨w.heap.size + 5, 0, none⟩)]] 98))
  have bh := ((Blk.new (((((w.alloc (.cells #[.pointer (some ⟨m, 0, none⟩)] 31)).alloc (.cells #[.int .i64 k] 3)).alloc (.cells #[.bool u] 4)).alloc (.cells #[.int .u64 a] 35)).alloc (.cells #[.int .i64 0, .int .u64 0, .int .i64 0, .int .u64 0] 39)) 62 #[.int .i64 0, .int .i64 0, .int .i64 0, .bool false, .bool false, .bool false, .bool false]).alloc (.cells #[.func (.func 43) #[] #[.pointer (some ⟨w.heap.size + 3, 0, none⟩)], .func (.func 46) #[] #[.pointer (some ⟨w.heap.size + 3, 0, none⟩)], .func (.func 48) #[] #[.pointer (some ⟨w.heap.size, 0, none⟩), .pointer (some ⟨w.heap.size + 3, 0, none⟩), .pointer (some ⟨w.heap.size + 1, 0, none⟩), .pointer (some ⟨w.heap.size + 2, 0, none⟩), .pointer (some ⟨w.heap.size + 5, 0, none⟩)]] 98))
  have bs := (Blk.new ((((((w.alloc (.cells #[.pointer (some ⟨m, 0, none⟩)] 31)).alloc (.cells #[.int .i64 k] 3)).alloc (.cells #[.bool u] 4)).alloc (.cells #[.int .u64 a] 35)).alloc (.cells #[.int .i64 0, .int .u64 0, .int .i64 0, .int .u64 0] 39)).alloc (.cells #[.int .i64 0, .int .i64 0, .int .i64 0, .bool false, .bool false, .bool false, .bool false] 62)) 98 #[.func (.func 43) #[] #[.pointer (some ⟨w.heap.size + 3, 0, none⟩)], .func (.func 46) #[] #[.pointer (some ⟨w.heap.size + 3, 0, none⟩)], .func (.func 48) #[] #[.pointer (some ⟨w.heap.size, 0, none⟩), .pointer (some ⟨w.heap.size + 3, 0, none⟩), .pointer (some ⟨w.heap.size + 1, 0, none⟩), .pointer (some ⟨w.heap.size + 2, 0, none⟩), .pointer (some ⟨w.heap.size + 5, 0, none⟩)]])
  simp only [World.size_alloc, Nat.add_assoc, Nat.reduceAdd] at bm bk bu ba bo bh bs
  have H7 := H.more (G := [w.heap.size, w.heap.size + 1, w.heap.size + 2, w.heap.size + 3, w.heap.size + 4, w.heap.size + 5, w.heap.size + 6]) hc7 (by intro i hi; simp at hi; simp; omega)
  have hs0 := H.c0.size
  have hFw : ∀ i ∈ F, i < w.heap.size := fun i hi => H.tb.2.1 i (List.mem_append.2 (.inr hi))
  clear H
  have hB : AccB _ _ _ _ _ _ _ m a k u _ := ⟨bm, bk, bu, ba, bo, bs⟩
  go_enter Tryz.func14, Tryz.ntmps14
  go_wp2_with fail
  generalize hw7 : (((((((w.alloc (.cells #[.pointer (some ⟨m, 0, none⟩)] 31)).alloc (.cells #[.int .i64 k] 3)).alloc (.cells #[.bool u] 4)).alloc (.cells #[.int .u64 a] 35)).alloc (.cells #[.int .i64 0, .int .u64 0, .int .i64 0, .int .u64 0] 39)).alloc (.cells #[.int .i64 0, .int .i64 0, .int .i64 0, .bool false, .bool false, .bool false, .bool false] 62)).alloc (.cells #[.func (.func 43) #[] #[.pointer (some ⟨w.heap.size + 3, 0, none⟩)], .func (.func 46) #[] #[.pointer (some ⟨w.heap.size + 3, 0, none⟩)], .func (.func 48) #[] #[.pointer (some ⟨w.heap.size, 0, none⟩), .pointer (some ⟨w.heap.size + 3, 0, none⟩), .pointer (some ⟨w.heap.size + 1, 0, none⟩), .pointer (some ⟨w.heap.size + 2, 0, none⟩), .pointer (some ⟨w.heap.size + 5, 0, none⟩)]] 98)) = w7 at *
  clear hw7 bm bk bu ba bo bs
  have nS : Hid (w0.heap.size ≤ w.heap.size + 4 ∧ w0.heap.size ≤ w.heap.size + 5) := Lib.hid (by omega)
  have nF : Hid (∀ j, w.heap.size + j ∉ F) := Lib.hid (fun j hm => by have := hFw _ hm; omega)
  clear hs0 hFw
  generalize w.heap.size = gm at *
  have f7 : Far F w w7 := Far.of_new hc7
  clear hc7
  go_loopg [21] 3 (fun gg s21 wr => ∃ (z : Int) (s1 : Ms) (x : Ht), (3 - z).toNat ≤ gg ∧ s21 = .int .i64 z ∧ Aside (AccZ n L s a k u z s1) ∧ Aside (z = 3 → x = (takeM n L s (pageN a) k u).2.1) ∧ Aside (AccB wr gm (gm + 1) (gm + 2) (gm + 3) (gm + 4) (gm + 6) m a k u #[.func (.func 43) #[] #[.pointer (some ⟨gm + 3, 0, none⟩)], .func (.func 46) #[] #[.pointer (some ⟨gm + 3, 0, none⟩)], .func (.func 48) #[] #[.pointer (some ⟨gm, 0, none⟩), .pointer (some ⟨gm + 3, 0, none⟩), .pointer (some ⟨gm + 1, 0, none⟩), .pointer (some ⟨gm + 2, 0, none⟩), .pointer (some ⟨gm + 5, 0, none⟩)]]) ∧ Aside (Blk wr (gm + 5) 62 x.cl.toArray) ∧ Aside (ModB w0 (G7 gm ++ F) wr m t q S p L h b n s1) ∧ Aside (Far F w wr))
  case atStart => exact ⟨0, s, Ht.zero, by decide, rfl, AccZ.z0, (by intro h; cases h), hB, bh, H7, f7⟩
  case round =>
    obtain ⟨z, s1, x, hg, rfl, HZ, HX, HB, HH, HM, HFr⟩ := hrel
    clear hB bh H7 f7
    have hsl := HB.out.bs
    have d0 := hsl.cell 0; have d1 := hsl.cell 1; have d2 := hsl.cell 2
    simp only [List.getElem?_toArray, List.getElem?_cons_zero, List.getElem?_cons_succ] at d0 d1 d2
    obtain ⟨r0, r1, r2, r3, z0, z1, z2, z3⟩ := blk4 HB.out.bo
    have ca := box1 HB.out.ba
    cases HZ.out with
    | z0 =>
      simp at hg
      clear HZ HX
      have hA := Acc1_any (gm + 3) a wr ha HB.out.ba
      cases hal : aliB a with
      | true =>
        rw [hal, if_pos rfl] at hA
        have HAL := Lib.hid hal
        clear hal
        go_wp2_with fail
        refine hA.mono ?_; rintro e w2 ⟨rfl, k2⟩
        have B2 := HB.out.far (Far.of_new (F := G7 gm) k2) (by simp [G7])
        have x2 := HH.out.chg_ k2 (by simp)
        have H2 := HM.out.new k2
        have f2 := HFr.out.trans (Far.of_new k2)
        clear hA ca d0 d1 d2 r0 r1 r2 r3 z0 z1 z2 z3 hsl
        go_wp2_with fail
        go_roundg 2
        case measure => omega
        case rel => exact ⟨1, s, x, by decide, by go_num, (AccZ.z1 HAL.out), (by intro h; cases h), B2, x2, H2, f2⟩
      | false =>
        rw [hal, if_neg (by decide)] at hA
        have HAL := Lib.hid hal
        clear hal
        go_wp2_with fail
        refine hA.mono ?_; rintro e w2 ⟨rfl, k2⟩
        have B2 := HB.out.far (Far.of_new (F := G7 gm) k2) (by simp [G7])
        have H2 := HM.out.new k2
        have f2 := HFr.out.trans (Far.of_new k2)
        clear hA ca d0 d1 d2 r0 r1 r2 r3 z0 z1 z2 z3 hsl
        obtain ⟨r0, r1, r2, r3, z0, z1, z2, z3⟩ := blk4 B2.bo
        have ca := box1 B2.ba
        go_wp2_with fail
        refine bodyPost_ret (cell_ret rfl (set4 B2.bo) rfl Tryz.underlying39 rfl (by kernel_rfl)) rfl ?_
        have hk := chg4 (y0 := .int .i64 4) (y1 := .int .u64 0) (y2 := .int .i64 0) (y3 := .int .u64 a) (g := gm + 4) (Chg.refl [gm + 4] w2) (by simp)
        rw [show accM n L s k u a v = (s, ⟨4, 0, 0, a⟩) from by unfold accM; rw [HAL.out, if_neg (by decide)]]
        exact ⟨rfl, (H2.turn (by simp [G7]) hk nS.out.1).less (fun i hi => by simp [hi]), f2.trans ⟨_, hk, by simpa using nF.out 4⟩⟩
    | z1 ha1 =>
      have HA1 := Lib.hid ha1
      clear ha1 HZ HX
      simp at hg
      have hA := Acc2_any (gm + 3) a wr HB.out.ba
      cases hal : canB a with
      | true =>
        rw [hal, if_pos rfl] at hA
        have HAL := Lib.hid hal
        clear hal
        go_wp2_with fail
        refine hA.mono ?_; rintro e w2 ⟨rfl, k2⟩
        have B2 := HB.out.far (Far.of_new (F := G7 gm) k2) (by simp [G7])
        have x2 := HH.out.chg_ k2 (by simp)
        have H2 := HM.out.new k2
        have f2 := HFr.out.trans (Far.of_new k2)
        clear hA ca d0 d1 d2 r0 r1 r2 r3 z0 z1 z2 z3 hsl
        go_wp2_with fail
        go_roundg 1
        case measure => omega
        case rel => exact ⟨2, s, x, by decide, by go_num, (AccZ.z2 HA1.out HAL.out), (by intro h; cases h), B2, x2, H2, f2⟩
      | false =>
        rw [hal, if_neg (by decide)] at hA
        have HAL := Lib.hid hal
        clear hal
        go_wp2_with fail
        refine hA.mono ?_; rintro e w2 ⟨rfl, k2⟩
        have B2 := HB.out.far (Far.of_new (F := G7 gm) k2) (by simp [G7])
        have H2 := HM.out.new k2
        have f2 := HFr.out.trans (Far.of_new k2)
        clear hA ca d0 d1 d2 r0 r1 r2 r3 z0 z1 z2 z3 hsl
        obtain ⟨r0, r1, r2, r3, z0, z1, z2, z3⟩ := blk4 B2.bo
        have ca := box1 B2.ba
        go_wp2_with fail
        refine bodyPost_ret (cell_ret rfl (set4 B2.bo) rfl Tryz.underlying39 rfl (by kernel_rfl)) rfl ?_
        have hk := chg4 (y0 := .int .i64 2) (y1 := .int .u64 0) (y2 := .int .i64 0) (y3 := .int .u64 a) (g := gm + 4) (Chg.refl [gm + 4] w2) (by simp)
        rw [show accM n L s k u a v = (s, ⟨2, 0, 0, a⟩) from by unfold accM; rw [HA1.out, if_pos rfl, HAL.out, if_neg (by decide)]]
        exact ⟨rfl, (H2.turn (by simp [G7]) hk nS.out.1).less (fun i hi => by simp [hi]), f2.trans ⟨_, hk, by simpa using nF.out 4⟩⟩
    | z2 ha1 ha2 =>
      have HA1 := Lib.hid ha1; have HA2 := Lib.hid ha2
      clear ha1 ha2 HZ HX
      simp at hg
      have hA := Acc3_b gm (gm + 3) (gm + 1) (gm + 2) (gm + 5) a k u x ha HM.out nS.out.2 (by simp [G7]) HB.out.bm HB.out.ba HB.out.bk HB.out.bu HH.out
      have hZ3 := fun h => AccZ.z3 (n := n) (L := L) (s := s) (a := a) (k := k) (u := u) (takeM n L s (pageN a) k u).1 HA1.out HA2.out h rfl
      have hAc : accM n L s k u a v = goOn n L (takeM n L s (pageN a) k u) (wordN a) k a v := by unfold accM; rw [HA1.out, if_pos rfl, HA2.out, if_pos rfl]
      have HAc := Lib.hid hAc; have HZ3 := Lib.hid hZ3
      clear hAc hZ3
      generalize hT : takeM n L s (pageN a) k u = tk at *
      have HTk := Lib.hid hT
      clear hT
      obtain ⟨s3, x3, how, code⟩ := tk
      simp only at hA HZ3
      by_cases hh : how = 0
      · subst hh
        go_wp2_with fail
        refine hA.mono ?_; rintro e w2 ⟨rfl, H2, x2, k2⟩
        have f2 := HFr.out.trans (k2 F (fun i hi => ⟨by simp [hi], fun e => nF.out 5 (e ▸ hi)⟩))
        have B2 := HB.out.far (k2 [gm, gm + 1, gm + 2, gm + 3, gm + 4, gm + 6] (by simp [G7])) (by simp)
        clear hA ca d0 d1 d2 r0 r1 r2 r3 z0 z1 z2 z3 hsl
        go_wp2_with fail
        go_roundg 0
        case measure => omega
        case rel => exact ⟨3, s3, x3, by decide, by go_num, HZ3.out (by first | rfl | trivial), (fun _ => by first | rfl | rw [HTk.out]), B2, x2, H2, f2⟩
      · have hb0 : (how == 0) = false := by simpa using hh
        have HH0 := Lib.hid hh
        clear hh
        go_wp2_with fail
        refine hA.mono ?_; rintro e w2 ⟨rfl, H2, x2, k2⟩
        have f2 := HFr.out.trans (k2 F (fun i hi => ⟨by simp [hi], fun e => nF.out 5 (e ▸ hi)⟩))
        have B2 := HB.out.far (k2 [gm, gm + 1, gm + 2, gm + 3, gm + 4, gm + 6] (by simp [G7])) (by simp)
        clear hA ca d0 d1 d2 r0 r1 r2 r3 z0 z1 z2 z3 hsl
        obtain ⟨r0, r1, r2, r3, z0, z1, z2, z3⟩ := blk4 B2.bo
        have ca := box1 B2.ba
        go_wp2_with fail
        refine bodyPost_ret (cell_ret rfl (set4 B2.bo) rfl Tryz.underlying39 rfl (by kernel_rfl)) rfl ?_
        have hk := chg4 (y0 := .int .i64 how) (y1 := .int .u64 0) (y2 := .int .i64 code) (y3 := .int .u64 a) (g := gm + 4) (Chg.refl [gm + 4] w2) (by simp)
        rw [show accM n L s k u a v = (s3, ⟨how, 0, code, a⟩) from by rw [HAc.out]; unfold goOn; rw [if_neg HH0.out]]
        exact ⟨rfl, (H2.turn (by simp [G7]) hk nS.out.1).less (fun i hi => by simp [hi]), f2.trans ⟨_, hk, by simpa using nF.out 4⟩⟩
    | z3 _ ha1 ha2 h0 hs1 =>
      subst hs1
      have hxx := HX.out rfl
      have hAc : accM n L s k u a v = touchM n L (takeM n L s (pageN a) k u).1 (takeM n L s (pageN a) k u).2.1.f (wordN a) k v := by unfold accM; rw [ha1, if_pos rfl, ha2, if_pos rfl]; unfold goOn; rw [if_pos h0]
      have HAc := Lib.hid hAc
      subst hxx
      clear hAc ha1 ha2 h0 HZ HX hg d0 d1 d2 hsl ca r0 r1 r2 r3 z0 z1 z2 z3
      have hT := fun w9 (H9 : ModB w0 (G7 gm ++ F) w9 m t q S p L h b n (takeM n L s (pageN a) k u).1) => MTouch_b (takeM n L s (pageN a) k u).2.1.f (wordN a) k v hv H9
      have hW := fun w9 => Word_any a w9 ha
      have bh := HH.out
      have H1 := HM.out
      generalize hs3 : (takeM n L s (pageN a) k u).1 = s3 at *
      generalize hx3 : (takeM n L s (pageN a) k u).2.1 = x3 at *
      clear hs3 hx3
      generalize htt : touchM n L s3 x3.f (wordN a) k v = tt at *
      have HAc2 := Lib.hid HAc.out
      clear htt
      obtain ⟨s4, ⟨oh, ov, oc, oa⟩⟩ := tt
      simp only [Ot.cs] at hT
      obtain ⟨ya, yp, yf, yw, yu, yx, yd⟩ := x3
      simp only [Ht.cl] at bh hT
      generalize wordN a = wn at *
      go_wp2_with fail
      refine wp_region_noPanic ?_
      refine wp_region_held_drew (S := (fun w' => Blk w' gm 31 #[.pointer (some ⟨m, 0, none⟩)] ∧ Blk w' (gm + 1) 3 #[.int .i64 k] ∧ Blk w' (gm + 3) 35 #[.int .u64 a] ∧ Blk w' (gm + 5) 62 #[.int .i64 ya, .int .i64 yp, .int .i64 yf, .bool yw, .bool yu, .bool yx, .bool yd])) (by kernel_rfl) ?_ (fun hHeld => ?_)
      · exact ⟨HB.out.bm.drew, HB.out.bk.drew, HB.out.ba.drew, bh.drew⟩
      (refine take_on 0 (some 37) (v := ?_) rfl rfl (by kernel_rfl) (by kernel_rfl) (by kernel_rfl) (fun _ _ _ h => h) (by rfl) (by assumption) ?_ ?_; rotate_left; · (intro w hSw; (try dsimp only at hSw); obtain ⟨sm_, sk_, sa_, sh_⟩ := hSw; have cm_ := box1 sm_; have ck_ := box1 sk_; have ca_ := box1 sa_; obtain ⟨x0_, x1_, x2_, x3_, x4_, x5_, x6_, _, _, _, _, _, _, _⟩ := blk7 sh_; go_simp; (try with_reducible rfl)))
      (try simp only [Act.put, List.setIfInBounds_toArray, List.set_cons_zero, List.set_cons_succ])
      (refine take_on 1 (some 38) (v := ?_) rfl rfl (by kernel_rfl) (by kernel_rfl) (by kernel_rfl) (fun _ _ _ h => h) (by rfl) (by assumption) ?_ ?_; rotate_left; · (intro w hSw; (try dsimp only at hSw); obtain ⟨sm_, sk_, sa_, sh_⟩ := hSw; have cm_ := box1 sm_; have ck_ := box1 sk_; have ca_ := box1 sa_; obtain ⟨x0_, x1_, x2_, x3_, x4_, x5_, x6_, _, _, _, _, _, _, _⟩ := blk7 sh_; go_simp; (try with_reducible rfl)))
      (try simp only [Act.put, List.setIfInBounds_toArray, List.set_cons_zero, List.set_cons_succ])
      (refine take_on 2 (some 39) (v := ?_) rfl rfl (by kernel_rfl) (by kernel_rfl) (by kernel_rfl) (fun _ _ _ h => h) (by rfl) (by assumption) ?_ ?_; rotate_left; · (intro w hSw; (try dsimp only at hSw); obtain ⟨sm_, sk_, sa_, sh_⟩ := hSw; have cm_ := box1 sm_; have ck_ := box1 sk_; have ca_ := box1 sa_; obtain ⟨x0_, x1_, x2_, x3_, x4_, x5_, x6_, _, _, _, _, _, _, _⟩ := blk7 sh_; go_simp; (try with_reducible rfl)))
      (try simp only [Act.put, List.setIfInBounds_toArray, List.set_cons_zero, List.set_cons_succ])
      (refine take_on 3 (some 40) (v := ?_) rfl rfl (by kernel_rfl) (by kernel_rfl) (by kernel_rfl) (fun _ _ _ h => h) (by rfl) (by assumption) ?_ ?_; rotate_left; · (intro w hSw; (try dsimp only at hSw); obtain ⟨sm_, sk_, sa_, sh_⟩ := hSw; have cm_ := box1 sm_; have ck_ := box1 sk_; have ca_ := box1 sa_; obtain ⟨x0_, x1_, x2_, x3_, x4_, x5_, x6_, _, _, _, _, _, _, _⟩ := blk7 sh_; go_simp; (try with_reducible rfl)))
      (try simp only [Act.put, List.setIfInBounds_toArray, List.set_cons_zero, List.set_cons_succ])
      (refine take_on 5 (some 42) (v := ?_) rfl rfl (by kernel_rfl) (by kernel_rfl) (by kernel_rfl) (fun _ _ _ h => h) (by rfl) (by assumption) ?_ ?_; rotate_left; · (intro w hSw; (try dsimp only at hSw); obtain ⟨sm_, sk_, sa_, sh_⟩ := hSw; have cm_ := box1 sm_; have ck_ := box1 sk_; have ca_ := box1 sa_; obtain ⟨x0_, x1_, x2_, x3_, x4_, x5_, x6_, _, _, _, _, _, _, _⟩ := blk7 sh_; go_simp; (try with_reducible rfl)))
      (try simp only [Act.put, List.setIfInBounds_toArray, List.set_cons_zero, List.set_cons_succ])
      (refine take_on 6 (some 43) (v := ?_) rfl rfl (by kernel_rfl) (by kernel_rfl) (by kernel_rfl) (fun _ _ _ h => h) (by rfl) (by assumption) ?_ ?_; rotate_left; · (intro w hSw; (try dsimp only at hSw); obtain ⟨sm_, sk_, sa_, sh_⟩ := hSw; have cm_ := box1 sm_; have ck_ := box1 sk_; have ca_ := box1 sa_; obtain ⟨x0_, x1_, x2_, x3_, x4_, x5_, x6_, _, _, _, _, _, _, _⟩ := blk7 sh_; go_simp; (try with_reducible rfl)))
      (try simp only [Act.put, List.setIfInBounds_toArray, List.set_cons_zero, List.set_cons_succ])
      refine wpAnyH_ready (rs := [4]) (by kernel_rfl) (by simp) ?_; refine AllReadyH.cons (o := _) rfl (fun K hK => ?_) AllReadyH.nil
      go_simp
      (go_at_call 52; refine (hW _).mono ?_; rintro e w1 ⟨rfl, k1⟩; have k1 := k1.chg; have k2 : Chg [] wr w1 := ((Chg.refl [] wr).drew).trans k1 (by simp); have B1 := HB.out.far (Far.of_new (F := G7 gm) k2) (by simp [G7]); have H2 := H1.new k2)
      refine hK.out _ _ (by (try dsimp only); exact ⟨hHeld.1.chg_ k1 (by simp), hHeld.2.1.chg_ k1 (by simp), hHeld.2.2.1.chg_ k1 (by simp), hHeld.2.2.2.chg_ k1 (by simp)⟩) (fun hHeld => ?_)
      clear hK K
      (try simp only [Act.put, List.setIfInBounds_toArray, List.set_cons_zero, List.set_cons_succ])
      refine wpAnyH_ready (rs := [7]) (by kernel_rfl) (by simp) ?_; refine AllReadyH.cons (o := _) rfl (fun K hK => ?_) AllReadyH.nil
      go_simp
      (go_at_call 51; refine (hT _ H2).mono ?_; rintro e w2 ⟨rfl, H3, f3⟩; have bo2 := f3.blk B1.bo (by simp [G7]); obtain ⟨r0, r1, r2, r3, z0, z1, z2, z3⟩ := blk4 bo2)
      refine hK.out _ _ (by (try dsimp only); exact ⟨f3.blk hHeld.1 (by simp [G7]), f3.blk hHeld.2.1 (by simp [G7]), f3.blk hHeld.2.2.1 (by simp [G7]), f3.blk hHeld.2.2.2 (by simp [G7])⟩) (fun hHeld => ?_)
      clear hK K
      (try simp only [Act.put, List.setIfInBounds_toArray, List.set_cons_zero, List.set_cons_succ])
      refine wpAnyH_ready (rs := [8]) (by kernel_rfl) (by simp) ?_; refine AllReadyH.cons (o := _) rfl (fun K hK => ?_) AllReadyH.nil
      go_simp
      skip
      refine hK.out _ _ (by (try dsimp only); exact ⟨far4 hHeld.1 (by omega), far4 hHeld.2.1 (by omega), far4 hHeld.2.2.1 (by omega), far4 hHeld.2.2.2 (by omega)⟩) (fun hHeld => ?_)
      clear hK K
      (try simp only [Act.put, List.setIfInBounds_toArray, List.set_cons_zero, List.set_cons_succ])
      refine wpAnyH_done (by kernel_rfl) ?_ _
      refine NoPanic.normal ?_
      go_wp2_with fail
      refine bodyPost_ret (cell_ret rfl (set4 bo2) rfl Tryz.underlying39 rfl (by kernel_rfl)) rfl ?_
      have hk := chg4 (y0 := .int .i64 oh) (y1 := .int .u64 ov) (y2 := .int .i64 oc) (y3 := .int .u64 oa) (g := gm + 4) (Chg.refl [gm + 4] w2) (by simp)
      rw [HAc.out]
      exact ⟨rfl, (H3.turn (by simp [G7]) hk nS.out.1).less (fun i hi => by simp [hi]), (HFr.out.trans ((Far.of_new k2).trans (f3.less (fun i hi => by simp [hi])))).trans ⟨_, hk, by simpa using nF.out 4⟩⟩
end

end Go.Proofs.YtgebfagiomcmbaaGreatDoor

namespace Go.Proofs.YtgebfagiomcmbaaGreatDoor
open Go.RowKit Go.Shelf Go.Maps

/-- a slice of one's own words is a slice of words -/
theorem ownI_slu {w : World} {t : TypeId} {A : Option Addr} {n c : Nat} {L : List Int} (h : OwnI w t .u64 (.slice A n c) L) : SlU w A n L := by
  have hn := h.slice
  subst hn
  exact own_slu h
theorem Far.sla {F : List Nat} {w w' : World} {A : Option Addr} {n : Nat} {l : List (Int × Int)} (f : Far F w w') (hs : SlA w A n l) (hA : ∀ g o, A = some ⟨g, o, none⟩ → g ∈ F) : SlA w' A n l := by
  obtain ⟨S, hc, hd⟩ := f
  exact hs.chg hc fun g o e hm => hd g hm (hA g o e)

/-- an operation lies here -/
structure OpMC (w : World) (b o : Nat) (x : OpM) : Prop where
  c0 : w.cell? ⟨b, o, none⟩ = some (.int .i64 x.what)
  c1 : w.cell? ⟨b, o + 1, none⟩ = some (.int .i64 x.kind)
  c2 : w.cell? ⟨b, o + 2, none⟩ = some (.bool x.user)
  c3 : w.cell? ⟨b, o + 3, none⟩ = some (.int .u64 x.a)
  c4 : w.cell? ⟨b, o + 4, none⟩ = some (.int .u64 x.v)
  c5 : w.cell? ⟨b, o + 5, none⟩ = some (.int .i64 x.g)
  c6 : w.cell? ⟨b, o + 6, none⟩ = some (.int .i64 x.i)
  c7 : w.cell? ⟨b, o + 7, none⟩ = some (.int .i64 x.page)
theorem OpMC.chg {S : List Nat} {w w' : World} {b o : Nat} {x : OpM} (h : OpMC w b o x) (hc : Chg S w w') (hb : b < w.heap.size) (hn : b ∉ S) : OpMC w' b o x :=
  have e : ∀ i, w'.cell? ⟨b, i, none⟩ = w.cell? ⟨b, i, none⟩ := fun i => hc.cell (p := ⟨b, i, none⟩) hb hn
  ⟨(e _).trans h.c0, (e _).trans h.c1, (e _).trans h.c2, (e _).trans h.c3, (e _).trans h.c4, (e _).trans h.c5, (e _).trans h.c6, (e _).trans h.c7⟩
/-- a slice of operations, nil let in, reads as this list -/
structure SlM (w : World) (A : Option Addr) (n : Nat) (l : List OpM) : Prop where
  le : n ≤ 9223372036854775807
  len : l.length = n
  wf : ∀ x ∈ l, x.Wf
  at_ : 0 < n → ∃ b off, A = some ⟨b, off, none⟩ ∧ b < w.heap.size ∧ ∀ j x, l[j]? = some x → OpMC w b (off + j * 8) x
theorem SlM.new {w w' : World} {A : Option Addr} {n : Nat} {l : List OpM} (h : SlM w A n l) (hc : Chg [] w w') : SlM w' A n l :=
  ⟨h.le, h.len, h.wf, fun h0 => by
    obtain ⟨b, off, e, hb, hr⟩ := h.at_ h0
    exact ⟨b, off, e, Nat.lt_of_lt_of_le hb hc.size, fun j x hj => (hr j x hj).chg hc hb (by simp)⟩⟩
theorem SlM.get {w : World} {A : Option Addr} {n : Nat} {l : List OpM} (h : SlM w A n l) {k : Nat} (hk : k < n) :
    ∃ b off x, A = some ⟨b, off, none⟩ ∧ b < w.heap.size ∧ l[k]? = some x ∧ x.Wf ∧ OpMC w b (off + k * 8) x := by
  obtain ⟨b, off, e, hb, hr⟩ := h.at_ (by omega)
  have hl := h.len
  have hj : l[k]? = some (l[k]'(by omega)) := List.getElem?_eq_getElem (by omega)
  exact ⟨b, off, _, e, hb, hj, h.wf _ (List.getElem_mem _), hr k _ hj⟩

/-- are two outcomes the same? -/
def Ot.eqb (a b : Ot) : Bool := a.how == b.how && (a.v == b.v && (a.code == b.code && a.a == b.a))
theorem Ot.eqb_iff (a b : Ot) : a.eqb b = true ↔ a = b := by
  cases a; cases b
  simp [Ot.eqb]
theorem Ot.eqb_self (a : Ot) : a.eqb a = true := (Ot.eqb_iff a a).2 rfl
section
variable {w0 w : World} {F : List Nat} {m t q p h b n : Nat} {S : List Nat} {L : List Int} {s : Ms}
end

end Go.Proofs.YtgebfagiomcmbaaGreatDoor

namespace Go.Proofs.YtgebfagiomcmbaaGreatDoor
open Go.RowKit

section
variable {n : Nat} {L : List Int} {s : Ms}
/-- what is told of a page's hit is the same -/
structure Kn (g : Int) (T T' : List Ht) : Prop where
  has : hasT T' 0 g = hasT T 0 g
  get : getT T' 0 g = getT T 0 g
theorem Kn.refl (g : Int) (T : List Ht) : Kn g T T := ⟨rfl, rfl⟩
theorem Kn.trans {g : Int} {A B C : List Ht} (h : Kn g A B) (k : Kn g B C) : Kn g A C := ⟨k.has.trans h.has, k.get.trans h.get⟩
theorem Kn.of {g : Int} {T T' : List Ht} (h : Tells T' 0 g (hasT T 0 g) (getT T 0 g)) : Kn g T T' := ⟨h.1, by
  rw [h.get]
  cases hh : hasT T 0 g with
  | true => rfl
  | false => rw [getT_none hh]; rfl⟩
theorem tells_self (T : List Ht) (g : Int) : Tells T 0 g (hasT T 0 g) (getT T 0 g) := ⟨rfl, fun _ => rfl⟩
theorem kn_drop {g pg : Int} (T : List Ht) (h : pg ≠ g) : Kn g T (dropT T 0 pg) := Kn.of ((tells_self T g).drop_other (fun e => h e.2))
theorem kn_put {g : Int} (T : List Ht) (x : Ht) (hl : T.length < 512) (h : x.p ≠ g) : Kn g T (putT 512 T x) := Kn.of ((tells_self T g).put_other hl (fun e => h e.2))
end

end Go.Proofs.YtgebfagiomcmbaaGreatDoor

namespace Go.Proofs.YtgebfagiomcmbaaGreatDoor
open Go.RowKit

section
variable {n : Nat} {L : List Int} {s : Ms}
theorem hasT_drop (T : List Ht) (pg : Int) : hasT (dropT T 0 pg) 0 pg = false := ((tells_self T pg).drop_mine Ht.zero).1
/-- what is put last is got -/
theorem put_got (most : Nat) (T : List Ht) (x : Ht) : hasT (putT most T x) x.a x.p = true ∧ getT (putT most T x) x.a x.p = x := by
  have hk : x.isK x.a x.p = true := isK_self x
  have hd : (cutT most (dropT T x.a x.p)).find? (fun h => h.isK x.a x.p) = none := by
    rw [List.find?_eq_none]
    intro y hy
    have := dropT_not T x.a x.p y ((cutT_sub most _).subset hy)
    simp [this]
  refine ⟨by unfold hasT putT; simp [hk], ?_⟩
  unfold getT putT
  rw [List.find?_append, hd]
  simp [hk]

/-- a hit of a page is known that serves -/
structure Srv (s : Ms) (pg k : Int) (u : Bool) (h : Ht) : Prop where
  has : hasT s.T 0 pg = true
  get : getT s.T 0 pg = h
  srv : servesB h k u = true
theorem Srv.take {pg k : Int} {u : Bool} {h : Ht} (H : Srv s pg k u h) : takeM n L s pg k u = (s, h, 0, 0) := by
  unfold takeM
  rw [H.has, H.get, H.srv]; rfl
theorem Srv.words {pg k : Int} {u : Bool} {h : Ht} (H : Srv s pg k u h) {s' : Ms} (e : s'.T = s.T) : Srv s' pg k u h := ⟨e ▸ H.has, e ▸ H.get, H.srv⟩
end

end Go.Proofs.YtgebfagiomcmbaaGreatDoor
