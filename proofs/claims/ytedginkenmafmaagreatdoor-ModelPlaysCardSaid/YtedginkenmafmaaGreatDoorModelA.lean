/-
  The contracts of model's own helpers: what is known of pages, whether a hit serves.
-/
import Derived.Test.YtedginkenmafmaaGreatDoorModelP
import Derived.Test.YtedginkenmafmaaGreatDoorG8c
namespace Go.Proofs.YtedginkenmafmaaGreatDoor
open Go.RowKit Go.Shelf

theorem Far.refl (F : List Nat) (w : World) : Far F w w := ⟨[], Chg.refl _ _, by simp⟩
theorem Far.of_new {F : List Nat} {w w' : World} (h : Chg [] w w') : Far F w w' := ⟨[], h, by simp⟩
theorem Far.trans {F : List Nat} {a b c : World} (h : Far F a b) (k : Far F b c) : Far F a c := by
  obtain ⟨S, h1, h2⟩ := h; obtain ⟨T, k1, k2⟩ := k
  refine ⟨S ++ T, (h1.weak fun i _ hi => List.mem_append.2 (.inl hi)).trans k1 (fun i _ hi => List.mem_append.2 (.inr hi)), fun i hi => ?_⟩
  rw [List.mem_append] at hi
  rcases hi with hi | hi
  · exact h2 i hi
  · exact k2 i hi
theorem Far.less {F G : List Nat} {w w' : World} (h : Far F w w') (hG : ∀ i ∈ G, i ∈ F) : Far G w w' := by
  obtain ⟨S, h1, h2⟩ := h
  exact ⟨S, h1, fun i hi hm => h2 i hi (hG i hm)⟩

set_option maxHeartbeats 400000 in
theorem unless_any (b : Bool) (how : Int) (w : World) : Calls Tryz.prog 54 #[.bool b, .int .i64 how] w fun e w' => e = .returned (.int .i64 (if b then 0 else how)) ∧ w = w' := by
  cases b
  · go_enter Tryz.func54, Tryz.ntmps54
    go_wp2_with fail
    go_ret
    exact ⟨rfl, rfl⟩
  · go_enter Tryz.func54, Tryz.ntmps54
    go_wp2_with fail
    go_ret
    exact ⟨rfl, rfl⟩

section
variable {w0 : World} {F : List Nat} {t most : Nat} {T : List Ht} {w : World}
set_option maxHeartbeats 400000 in
theorem PForget_b (page : Int) (h : TB w0 F w t most T) :
    Calls Tryz.prog 55 #[.agg #[.pointer (some ⟨t, 0, none⟩)], .int .i64 page] w fun e w' => e = .returned (.bool (hasT T 0 page)) ∧ TB w0 F w' t most (dropT T 0 page) ∧ Far F w w' := by
  have hc0 : Chg [] w (w.alloc (.cells #[.pointer (some ⟨t, 0, none⟩)] 96)) := (Chg.refl [] w).alloc _
  have hD := TDrop_b 0 page (h.new hc0)
  clear h
  generalize hasT T 0 page = u at *
  generalize dropT T 0 page = T' at *
  go_enter Tryz.func55, Tryz.ntmps55
  go_wp2_with fail
  refine hD.mono ?_; rintro e w1 ⟨rfl, h1, f1⟩
  go_wp2_with fail
  go_ret
  exact ⟨rfl, h1, (Far.of_new hc0).trans f1⟩

set_option maxHeartbeats 1000000 in
theorem POf_b (page : Int) (h : TB w0 F w t most T) :
    Calls Tryz.prog 59 #[.agg #[.pointer (some ⟨t, 0, none⟩)], .int .i64 page] w fun e w' => e = .returned (.tuple #[(getT T 0 page).v, .bool (hasT T 0 page)]) ∧ TB w0 F w' t most T ∧ Chg [] w w' := by
  have hc0 : Chg [] w ((w.alloc (.cells #[.pointer (some ⟨t, 0, none⟩)] 96)).alloc (.cells #[.int .i64 0, .int .i64 0, .int .i64 0, .bool false, .bool false, .bool false, .bool false] 45)) := ((Chg.refl [] w).alloc _).alloc _
  have hb := Blk.new (w.alloc (.cells #[.pointer (some ⟨t, 0, none⟩)] 96)) 45 #[.int .i64 0, .int .i64 0, .int .i64 0, .bool false, .bool false, .bool false, .bool false]
  rw [World.size_alloc] at hb
  have hG := TGet_b 0 page (h.new hc0)
  have h0 := h
  clear h
  generalize hasT T 0 page = u at *
  generalize getT T 0 page = x at *
  obtain ⟨ha, hp, hf, hw, hu, hx, hd⟩ := x
  simp only [Ht.v] at *
  go_enter Tryz.func59, Tryz.ntmps59
  go_wp2_with fail
  refine hG.mono ?_; rintro e w1 ⟨rfl, _, k1⟩
  have hb1 := hb.chg_ k1 (by simp)
  have hcc := hc0.trans k1 (by simp)
  obtain ⟨r0, r1, r2, r3, r4, r5, r6, f0, f1, f2, f3, f4, f5, f6⟩ := blk7 hb1
  clear hG hb k1 hc0
  go_wp2_with fail
  refine bodyPost_ret (cell_tmp_ret rfl (set7 hb1) rfl Tryz.underlying45 rfl (by kernel_rfl)) rfl ?_
  exact ⟨rfl, h0.new (chg7 hcc (by omega)), chg7 hcc (by omega)⟩
set_option maxHeartbeats 1000000 in
theorem PLearn_b (page : Int) (A : Option Addr) (c : Nat) (P : Pa) (written : Bool) (h : TB w0 F w t most T) :
    Calls Tryz.prog 60 #[.agg #[.pointer (some ⟨t, 0, none⟩)], .int .i64 page, .agg (pathV A c P), .bool written] w fun e w' => e = .returned (hitP page P written).v ∧ TB w0 F w' t most (putT most T (hitP page P written)) ∧ Far F w w' := by
  obtain ⟨ats, pg, ⟨rw, ru, rx⟩, lg, dy⟩ := P
  have hc0 : Chg [] w (((w.alloc (.cells #[.pointer (some ⟨t, 0, none⟩)] 96)).alloc (.cells #[.slice A ats.length c, .int .i64 pg, .bool rw, .bool ru, .bool rx, .bool lg, .bool dy] 60)).alloc (.cells #[.int .i64 0, .int .i64 0, .int .i64 0, .bool false, .bool false, .bool false, .bool false] 45)) := (((Chg.refl [] w).alloc _).alloc _).alloc _
  have hF : w.heap.size + 2 ∉ F := fun hm => by have := h.2.1 _ hm; omega
  cases dy with
  | true =>
    have hc4 : Chg [] w ((((w.alloc (.cells #[.pointer (some ⟨t, 0, none⟩)] 96)).alloc (.cells #[.slice A ats.length c, .int .i64 pg, .bool rw, .bool ru, .bool rx, .bool lg, .bool true] 60)).alloc (.cells #[.int .i64 0, .int .i64 0, .int .i64 0, .bool false, .bool false, .bool false, .bool false] 45)).alloc (.cells #[.int .i64 0, .int .i64 page, .int .i64 pg, .bool rw, .bool ru, .bool rx, .bool true] 45)) := hc0.alloc _
    have hr4 := (Blk.new ((w.alloc (.cells #[.pointer (some ⟨t, 0, none⟩)] 96)).alloc (.cells #[.slice A ats.length c, .int .i64 pg, .bool rw, .bool ru, .bool rx, .bool lg, .bool true] 60)) 45 #[.int .i64 0, .int .i64 0, .int .i64 0, .bool false, .bool false, .bool false, .bool false]).alloc (.cells #[.int .i64 0, .int .i64 page, .int .i64 pg, .bool rw, .bool ru, .bool rx, .bool true] 45)
    have hx4 := Blk.new (((w.alloc (.cells #[.pointer (some ⟨t, 0, none⟩)] 96)).alloc (.cells #[.slice A ats.length c, .int .i64 pg, .bool rw, .bool ru, .bool rx, .bool lg, .bool true] 60)).alloc (.cells #[.int .i64 0, .int .i64 0, .int .i64 0, .bool false, .bool false, .bool false, .bool false] 45)) 45 #[.int .i64 0, .int .i64 page, .int .i64 pg, .bool rw, .bool ru, .bool rx, .bool true]
    simp only [World.size_alloc, Nat.add_assoc, Nat.reduceAdd] at hr4 hx4
    have h4 : TB w0 ([w.heap.size + 2, w.heap.size + 3] ++ F) ((((w.alloc (.cells #[.pointer (some ⟨t, 0, none⟩)] 96)).alloc (.cells #[.slice A ats.length c, .int .i64 pg, .bool rw, .bool ru, .bool rx, .bool lg, .bool true] 60)).alloc (.cells #[.int .i64 0, .int .i64 0, .int .i64 0, .bool false, .bool false, .bool false, .bool false] 45)).alloc (.cells #[.int .i64 0, .int .i64 page, .int .i64 pg, .bool rw, .bool ru, .bool rx, .bool true] 45)) t most T := h.more hc4 (by intro i hi; simp at hi; simp; omega)
    have hP := TPut_b ⟨0, page, pg, rw, ru, rx, true⟩ h4
    have e1 : hitP page ⟨ats, pg, ⟨rw, ru, rx⟩, lg, true⟩ written = ⟨0, page, pg, rw, ru, rx, true⟩ := by simp [hitP]
    rw [e1]
    have hs0 : w0.heap.size ≤ w.heap.size := h.1.size
    clear h h4 e1
    generalize putT most T ⟨0, page, pg, rw, ru, rx, true⟩ = T' at *
    simp only [Ht.v, pathV] at *
    go_enter Tryz.func60, Tryz.ntmps60
    go_wp2_with fail
    refine hP.mono ?_; rintro e w5 ⟨rfl, h5, f5⟩
    have hr5 := f5.blk hr4 (by simp)
    have hx5 := f5.blk hx4 (by simp)
    obtain ⟨r0, r1, r2, r3, r4, r5, r6, g0, g1, g2, g3, g4, g5, g6⟩ := blk7 hr5
    obtain ⟨x0, x1, x2, x3, x4, x5, x6, _, _, _, _, _, _, _⟩ := blk7 hx5
    clear hP hr4 hx4
    go_wp2_with fail
    refine bodyPost_ret (cell_ret rfl (set7 hr5) rfl Tryz.underlying45 rfl (by kernel_rfl)) rfl ?_
    have hcg := chg7 (y0 := .int .i64 0) (y1 := .int .i64 page) (y2 := .int .i64 pg) (y3 := .bool rw) (y4 := .bool ru) (y5 := .bool rx) (y6 := .bool true) (g := w.heap.size + 2) (Chg.refl [w.heap.size + 2] w5) (by simp)
    have h6 := h5.other hcg (by simp) (by simp; omega)
    exact ⟨rfl, h6.less (fun i hi => by simp [hi]), (Far.of_new hc4).trans ((f5.less (fun i hi => by simp [hi])).trans ⟨_, hcg, by simp; exact hF⟩)⟩
  | false =>
    have hc4 : Chg [] w ((((w.alloc (.cells #[.pointer (some ⟨t, 0, none⟩)] 96)).alloc (.cells #[.slice A ats.length c, .int .i64 pg, .bool rw, .bool ru, .bool rx, .bool lg, .bool false] 60)).alloc (.cells #[.int .i64 0, .int .i64 0, .int .i64 0, .bool false, .bool false, .bool false, .bool false] 45)).alloc (.cells #[.int .i64 0, .int .i64 page, .int .i64 pg, .bool rw, .bool ru, .bool rx, .bool written] 45)) := hc0.alloc _
    have hr4 := (Blk.new ((w.alloc (.cells #[.pointer (some ⟨t, 0, none⟩)] 96)).alloc (.cells #[.slice A ats.length c, .int .i64 pg, .bool rw, .bool ru, .bool rx, .bool lg, .bool false] 60)) 45 #[.int .i64 0, .int .i64 0, .int .i64 0, .bool false, .bool false, .bool false, .bool false]).alloc (.cells #[.int .i64 0, .int .i64 page, .int .i64 pg, .bool rw, .bool ru, .bool rx, .bool written] 45)
    have hx4 := Blk.new (((w.alloc (.cells #[.pointer (some ⟨t, 0, none⟩)] 96)).alloc (.cells #[.slice A ats.length c, .int .i64 pg, .bool rw, .bool ru, .bool rx, .bool lg, .bool false] 60)).alloc (.cells #[.int .i64 0, .int .i64 0, .int .i64 0, .bool false, .bool false, .bool false, .bool false] 45)) 45 #[.int .i64 0, .int .i64 page, .int .i64 pg, .bool rw, .bool ru, .bool rx, .bool written]
    simp only [World.size_alloc, Nat.add_assoc, Nat.reduceAdd] at hr4 hx4
    have h4 : TB w0 ([w.heap.size + 2, w.heap.size + 3] ++ F) ((((w.alloc (.cells #[.pointer (some ⟨t, 0, none⟩)] 96)).alloc (.cells #[.slice A ats.length c, .int .i64 pg, .bool rw, .bool ru, .bool rx, .bool lg, .bool false] 60)).alloc (.cells #[.int .i64 0, .int .i64 0, .int .i64 0, .bool false, .bool false, .bool false, .bool false] 45)).alloc (.cells #[.int .i64 0, .int .i64 page, .int .i64 pg, .bool rw, .bool ru, .bool rx, .bool written] 45)) t most T := h.more hc4 (by intro i hi; simp at hi; simp; omega)
    have hP := TPut_b ⟨0, page, pg, rw, ru, rx, written⟩ h4
    have e1 : hitP page ⟨ats, pg, ⟨rw, ru, rx⟩, lg, false⟩ written = ⟨0, page, pg, rw, ru, rx, written⟩ := by simp [hitP]
    rw [e1]
    have hs0 : w0.heap.size ≤ w.heap.size := h.1.size
    clear h h4 e1
    generalize putT most T ⟨0, page, pg, rw, ru, rx, written⟩ = T' at *
    simp only [Ht.v, pathV] at *
    go_enter Tryz.func60, Tryz.ntmps60
    go_wp2_with fail
    refine hP.mono ?_; rintro e w5 ⟨rfl, h5, f5⟩
    have hr5 := f5.blk hr4 (by simp)
    have hx5 := f5.blk hx4 (by simp)
    obtain ⟨r0, r1, r2, r3, r4, r5, r6, g0, g1, g2, g3, g4, g5, g6⟩ := blk7 hr5
    obtain ⟨x0, x1, x2, x3, x4, x5, x6, _, _, _, _, _, _, _⟩ := blk7 hx5
    clear hP hr4 hx4
    go_wp2_with fail
    refine bodyPost_ret (cell_ret rfl (set7 hr5) rfl Tryz.underlying45 rfl (by kernel_rfl)) rfl ?_
    have hcg := chg7 (y0 := .int .i64 0) (y1 := .int .i64 page) (y2 := .int .i64 pg) (y3 := .bool rw) (y4 := .bool ru) (y5 := .bool rx) (y6 := .bool written) (g := w.heap.size + 2) (Chg.refl [w.heap.size + 2] w5) (by simp)
    have h6 := h5.other hcg (by simp) (by simp; omega)
    exact ⟨rfl, h6.less (fun i hi => by simp [hi]), (Far.of_new hc4).trans ((f5.less (fun i hi => by simp [hi])).trans ⟨_, hcg, by simp; exact hF⟩)⟩
end

set_option maxRecDepth 100000 in
set_option maxHeartbeats 1000000 in
theorem serves_any (x : Ht) (k : Int) (u : Bool) (w : World) :
    Calls Tryz.prog 107 #[x.v, .int .i64 k, .bool u] w fun e w' => e = .returned (.bool (servesB x k u)) ∧ Chg [] w w' := by
  obtain ⟨ha, hp, hf, hw, hu, hx, hd⟩ := x
  have hc0 : Chg [] w (w.alloc (.cells #[.int .i64 ha, .int .i64 hp, .int .i64 hf, .bool hw, .bool hu, .bool hx, .bool hd] 45)) := (Chg.refl [] w).alloc _
  have hb := Blk.new w 45 #[.int .i64 ha, .int .i64 hp, .int .i64 hf, .bool hw, .bool hu, .bool hx, .bool hd]
  have hM := May_any ⟨hw, hu, hx⟩ k u (w.alloc (.cells #[.int .i64 ha, .int .i64 hp, .int .i64 hf, .bool hw, .bool hu, .bool hx, .bool hd] 45))
  unfold servesB Ht.rg
  simp only
  generalize mayB ⟨hw, hu, hx⟩ k u = m at *
  simp only [Ht.v, Rg.cs] at *
  obtain ⟨r0, r1, r2, r3, r4, r5, r6, _, _, _, _, _, _, _⟩ := blk7 hb
  have hk : (k != 1) = !(k == 1) := rfl
  generalize hkk : (k == 1) = kb at *
  have HKK := Lib.hid hkk
  clear hkk
  cases m with
  | false =>
    go_enter Tryz.func107, Tryz.ntmps107
    go_wp2_with fail
    refine hM.mono ?_; rintro e w1 ⟨rfl, k1⟩
    go_wp2_with fail
    go_ret
    exact ⟨rfl, hc0.trans k1 (by simp)⟩
  | true =>
    cases hd with
    | true =>
      go_enter Tryz.func107, Tryz.ntmps107
      go_wp2_with fail
      refine hM.mono ?_; rintro e w1 ⟨rfl, k1⟩
      obtain ⟨r0, r1, r2, r3, r4, r5, r6, _, _, _, _, _, _, _⟩ := blk7 (hb.chg_ k1 (by simp))
      go_wp2_with fail
      go_ret
      exact ⟨rfl, hc0.trans k1 (by simp)⟩
    | false =>
      go_enter Tryz.func107, Tryz.ntmps107
      go_wp2_with fail
      refine hM.mono ?_; rintro e w1 ⟨rfl, k1⟩
      obtain ⟨r0, r1, r2, r3, r4, r5, r6, _, _, _, _, _, _, _⟩ := blk7 (hb.chg_ k1 (by simp))
      go_wp2_with fail
      go_ret
      exact ⟨ret_bool (by simp), hc0.trans k1 (by simp)⟩

end Go.Proofs.YtedginkenmafmaaGreatDoor
