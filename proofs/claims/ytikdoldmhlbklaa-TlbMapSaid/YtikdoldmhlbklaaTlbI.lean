/-
  The contract of tlb's Put.
-/
import Derived.Test.YtikdoldmhlbklaaTlbH
namespace Go.Proofs.Ytikdoldmhlbklaa
open Go.RowKit Go.Shelf

theorem put_own {v5 v3 : Value} {w4 : World} {p : Nat} (h : v5.ownBlock = v3.ownBlock ∨ v5.ownBlock = some w4.heap.size) (hp : p < w4.heap.size) (hn : p ∉ v3.ownBlock.toList) : p ∉ v5.ownBlock.toList := by
  rcases h with e | e
  · rw [e]; exact hn
  · rw [e]; simp; omega
theorem put_chg {S T : List Nat} {w w3 w4 w5 w6 : World} {p : Nat} (h1 : Chg S w w3) (h2 : Chg [] w3 w4) (h3 : Chg T w4 w5) (h4 : Chg [p] w5 w6) (hT : ∀ i ∈ T, i ∈ S) (hp : p ∈ S) : Chg S w w6 :=
  (((h1.trans h2 (by simp)).trans h3 (fun i _ hi => hT i hi)).trans h4 (by intro k _ hk; simp at hk; subst hk; exact hp))
theorem put_grew {w w3 w4 : World} {p : Nat} {v v3 v5 : Value} (h : v5.ownBlock = v3.ownBlock ∨ v5.ownBlock = some w4.heap.size) (h3 : v3.ownBlock = v.ownBlock) (hs : w3.heap.size ≤ w4.heap.size) (hs3 : w.heap.size ≤ w3.heap.size) : Grew w (p :: v.ownBlock.toList) (p :: v5.ownBlock.toList) := by
  intro i hi
  simp only [List.mem_cons] at hi
  rcases hi with rfl | hi
  · exact .inl (by simp)
  · rcases h with e | e
    · rw [e, h3] at hi; exact .inl (List.mem_cons_of_mem _ hi)
    · rw [e] at hi; simp at hi; exact .inr (by omega)

/-- append of hits, as one step of a region that draws; its slot given; it may be guarded, if its guard is on -/
theorem step_append_Hw {ops : Array Oper} {o : Oper} {a : Act} {w : World} {K : Act → World → Prop} {Q : Exit → Act → World → Prop} {E : Prop} (d : Option Tmp) (hd : o.dst = d) (hw : Region.wanted o (yielded ops a.tmps) = true) (s x : Operand)
    (ho : o.op = .call { callee := .builtin .append, args := #[s, x], argTypes := #[41, 41] })
    (v : Value) (L : List Ht) (hv : a.eval s = v) (hown : OwnH w v L) (A : Option Addr) (m c : Nat) (N : List Ht) (hx : a.eval x = .slice A m c) (hs : Src w 7 A m c (encH N)) (hm : N.length = m) (hlen : L.length + m ≤ 1000000)
    (h : ∀ v' w', OwnH w' v' (L ++ N) → Chg v.ownBlock.toList w w' → (v'.ownBlock = v.ownBlock ∨ v'.ownBlock = some w.heap.size) → K (a.put d v') w') :
    if Region.wanted o (yielded ops a.tmps) = true then Oper.wp Try.prog o a w K Q else E := by
  obtain ⟨i0, hi0, hz0, hz1, hz2⟩ := info_parts info_H
  rw [if_pos hw]
  subst hd
  obtain ⟨v', w', h1, h2, h3, h4⟩ := run_append_src (P := Try.prog) w 0 41 o.type 31 i0 _ 7 32 Try.underlying41 hi0 hz0 hz1 hz2 rfl (by decide) v L.length (encH L) hown A m c (encH N) hs (by simp [maxLen]; omega) (by omega) (Nat.zero_le _)
  unfold Oper.wp execOp
  simp only [ho, resolve, invoke, builtin, Sem.run_bind, Sem.run_pure, Result.andThen_ok, List.map_toArray, List.map_cons, List.map_nil, hv, hx, h1]
  refine h v' w' ?_ h3 h4
  unfold OwnH
  rw [List.length_append, hm, encH_app]
  exact h2

/-- append of hits, as one step of a region that draws; its slot given -/
theorem step_append_H {ops : Array Oper} {o : Oper} {a : Act} {w : World} {K : Act → World → Prop} {Q : Exit → Act → World → Prop} {E : Prop} (d : Option Tmp) (hd : o.dst = d) (hgd : o.guard = none) (s x : Operand)
    (ho : o.op = .call { callee := .builtin .append, args := #[s, x], argTypes := #[41, 41] })
    (v : Value) (L : List Ht) (hv : a.eval s = v) (hown : OwnH w v L) (A : Option Addr) (m c : Nat) (N : List Ht) (hx : a.eval x = .slice A m c) (hs : Src w 7 A m c (encH N)) (hm : N.length = m) (hlen : L.length + m ≤ 1000000)
    (h : ∀ v' w', OwnH w' v' (L ++ N) → Chg v.ownBlock.toList w w' → (v'.ownBlock = v.ownBlock ∨ v'.ownBlock = some w.heap.size) → K (a.put d v') w') :
    if Region.wanted o (yielded ops a.tmps) = true then Oper.wp Try.prog o a w K Q else E := by
  obtain ⟨i0, hi0, hz0, hz1, hz2⟩ := info_parts info_H
  refine step_append_src hgd s x 41 ho 0 31 i0 _ 7 32 Try.underlying41 hi0 hz0 hz1 hz2 rfl (by decide) v L.length (encH L) hv hown A m c (encH N) hx hs (by simp [maxLen]; omega) (by omega) (Nat.zero_le _) (L ++ N).length (by simp [hm]) (encH (L ++ N)) (encH_app L N).symm ?_
  intro v' w' h1 h2 h3
  rw [hd]
  exact h v' w' h1 h2 h3

set_option maxRecDepth 100000 in
set_option maxHeartbeats 4000000 in
theorem TPut_at (S : List Nat) (p most : Nat) (L : List Ht) (h : Ht) (w : World) (hT : TAt w S p most L) :
    Calls Try.prog 21 #[.pointer (some ⟨p, 0, none⟩), h.v] w fun e w' => ∃ S', e = .returned (.tuple #[]) ∧ Chg S w w' ∧ TAt w' S' p most (putT most L h) ∧ Grew w S S' := by
  obtain ⟨i0, hi0, hz0, hz1, hz2⟩ := info_parts info_H
  have hbx0 := BlkH.new w h
  have hc0 : Chg [] w (w.alloc (.cells #[.int .i64 h.a, .int .i64 h.p, .int .i64 h.f, .bool h.w, .bool h.u, .bool h.x, .bool h.d] 31)) := (Chg.refl [] w).alloc _
  have hT0 := hT.self hc0
  have hSlt := hT.lt
  have hbS : w.heap.size ∉ S := fun hm => Nat.lt_irrefl _ (hSlt _ hm)
  have hD := TDrop_at S p most L h.a h.p _ hT0
  obtain ⟨b0, b1, b2, b3, b4, b5, b6⟩ := hbx0.cells
  have hKN : KeyN (cutT most (dropT L h.a h.p) ++ [h]) := hT.nd.putT h
  clear hT hT0
  unfold putT
  unfold Ht.v
  generalize dropT L h.a h.p = M at *
  generalize hasT L h.a h.p = t0 at *
  have HKN := Lib.hid hKN
  clear hKN
  obtain ⟨N, hNe⟩ : ∃ N, N = cutT most M := ⟨_, rfl⟩
  rw [← hNe]
  have HNE := Lib.hid hNe
  clear hNe
  go_enter Try.func21, Try.ntmps21
  go_wp2_with fail
  refine hD.mono ?_; rintro e w1 ⟨rfl, hc1, h1⟩
  have hbx1 := hbx0.chg hc1 hbS
  have hch1 := (hc0.weak (T := S) (by simp)).trans hc1 (fun _ _ h => h)
  clear b0 b1 b2 b3 b4 b5 b6 hbx0 hD hc1
  obtain ⟨v, h1, rfl⟩ := h1
  obtain ⟨d0, d1⟩ := h1.c
  have hMle := h1.le
  have hlo0 := h1.lo
  obtain ⟨A, c, rfl, _, _⟩ := h1.ow.form
  generalize hbxe : w.heap.size = bx at *
  have HBX := Lib.hid hbxe
  clear hbxe
  by_cases hfull : M.length = most
  · have eN : M.eraseIdx 0 = N := by rw [HNE.out]; unfold cutT; rw [if_pos hfull]; simp
    have HND := Lib.hid (show KeyN (N ++ [h]) by rw [HNE.out]; exact HKN.out)
    have hR := fun w0 h0 => remove_at p most (.slice A M.length c) M 0 w0 h0 (by omega)
    have hNl : (M.eraseIdx 0).length + 1 ≤ most := by simp; omega
    have e1 : ((M.length : Int) == most) = true := by simp [hfull]
    rw [eN] at hNl hR
    have HNL := Lib.hid hNl
    clear eN hNl hfull
    generalize hml : M.length = ml at *
    have HML := Lib.hid hml
    clear hml
    go_wp2_with fail
    go_quiet (fail)
    have hq1 := h1.chg ((Chg.refl [] w1).drewN nq) (by simp) (by simp)
    have hR1 := hR _ hq1
    go_wp2_with fail
    refine hR1.mono ?_; rintro e w3 ⟨rfl, hc3, v3, h3, hv3⟩
    have hbx3 := (hbx1.chg ((Chg.refl [] w1).drewN nq) (by simp)).chg hc3 hbS
    have hch3 := (hch1.drewN nq).trans hc3 (fun _ _ h => h)
    have hbn : bx ∉ v3.ownBlock.toList := by rw [hv3]; exact fun hm => hbS (List.mem_cons_of_mem _ hm)
    go_wp2_with fail
    have hN3 := HNL.out
    clear hR hR1 hq1 h1 hbx1 hch1 d0 d1 e1 hc3
    have hbp : bx ≠ p := fun e => hbS (e ▸ List.mem_cons_self)
    have hpS : p ∈ p :: (Value.slice A ml c).ownBlock.toList := List.mem_cons_self
    obtain ⟨A3, c3, rfl, hA3, _⟩ := h3.ow.form
    have hst3 := h3.st
    have how3 := h3.ow
    obtain ⟨d0, d1⟩ := h3.c
    obtain ⟨b0, b1, b2, b3, b4, b5, b6⟩ := hbx3.cells
    have hne3 := h3.ne
    have hlt3 := h3.st.lt
    have hlo := h3.lo; have hhi := h3.hi
    have hn1 : N.length + 1 ≤ 1000000 := by omega
    have hA0 := (Chg.refl [] w3).drew.alloc (.cells #[.int .i64 h.a, .int .i64 h.p, .int .i64 h.f, .bool h.w, .bool h.u, .bool h.x, .bool h.d] 31)
    have hnb : BlkH (w3.drew.alloc (.cells #[.int .i64 h.a, .int .i64 h.p, .int .i64 h.f, .bool h.w, .bool h.u, .bool h.x, .bool h.d] 31)) w3.heap.size h := BlkH.new w3.drew h
    have how4 := how3.chg hA0 (by simp)
    have hst4 := hA0.blk hst3 (by simp)
    have hbx4 := hbx3.chg hA0 (by simp)
    have e4 := hst4.cell 1
    simp only [List.getElem?_toArray, List.getElem?_cons_succ, List.getElem?_cons_zero] at e4
    obtain ⟨g0, g1, g2, g3, g4, g5, g6⟩ := hbx4.cells
    have hsrc := hnb.src
    clear hA3
    refine wp_region_noPanic ?_
    refine wp_region_held_drew (S := (fun w' => w'.cell? ⟨bx, 0, none⟩ = some (.int .i64 h.a) ∧ w'.cell? ⟨bx, 1, none⟩ = some (.int .i64 h.p) ∧ w'.cell? ⟨bx, 2, none⟩ = some (.int .i64 h.f) ∧ w'.cell? ⟨bx, 3, none⟩ = some (.bool h.w) ∧ w'.cell? ⟨bx, 4, none⟩ = some (.bool h.u) ∧ w'.cell? ⟨bx, 5, none⟩ = some (.bool h.x) ∧ w'.cell? ⟨bx, 6, none⟩ = some (.bool h.d))) (by kernel_rfl) ?_ (fun hHeld => ?_)
    · exact ⟨b0, b1, b2, b3, b4, b5, b6⟩
    (refine take_on 0 (some 22) (v := ?_) rfl rfl (by kernel_rfl) (by kernel_rfl) (by kernel_rfl) (fun _ _ _ h => h) (by rfl) (by assumption) ?_ ?_; rotate_left; · (intro w hSw; (try dsimp only at hSw); go_simp; (try with_reducible rfl)))
    (try simp only [Act.put, List.setIfInBounds_toArray, List.set_cons_zero, List.set_cons_succ])
    (refine take_on 1 (some 23) (v := ?_) rfl rfl (by kernel_rfl) (by kernel_rfl) (by kernel_rfl) (fun _ _ _ h => h) (by rfl) (by assumption) ?_ ?_; rotate_left; · (intro w hSw; (try dsimp only at hSw); go_simp; (try with_reducible rfl)))
    (try simp only [Act.put, List.setIfInBounds_toArray, List.set_cons_zero, List.set_cons_succ])
    (refine take_on 2 (some 24) (v := ?_) rfl rfl (by kernel_rfl) (by kernel_rfl) (by kernel_rfl) (fun _ _ _ h => h) (by rfl) (by assumption) ?_ ?_; rotate_left; · (intro w hSw; (try dsimp only at hSw); go_simp; (try with_reducible rfl)))
    (try simp only [Act.put, List.setIfInBounds_toArray, List.set_cons_zero, List.set_cons_succ])
    (refine take_on 3 (some 25) (v := ?_) rfl rfl (by kernel_rfl) (by kernel_rfl) (by kernel_rfl) (fun _ _ _ h => h) (by rfl) (by assumption) ?_ ?_; rotate_left; · (intro w hSw; (try dsimp only at hSw); go_simp; (try with_reducible rfl)))
    (try simp only [Act.put, List.setIfInBounds_toArray, List.set_cons_zero, List.set_cons_succ])
    (refine take_on 5 (some 27) (v := ?_) rfl rfl (by kernel_rfl) (by kernel_rfl) (by kernel_rfl) (fun _ _ _ h => h) (by rfl) (by assumption) ?_ ?_; rotate_left; · (intro w hSw; (try dsimp only at hSw); go_simp; (try with_reducible rfl)))
    (try simp only [Act.put, List.setIfInBounds_toArray, List.set_cons_zero, List.set_cons_succ])
    refine wpAnyH_ready (rs := [4, 6]) (by kernel_rfl) (by simp) ?_; refine AllReadyH.cons (o := _) rfl (fun K hK => ?_) (AllReadyH.cons (o := _) rfl (fun K hK => ?_) AllReadyH.nil)
    · go_simp
      skip
      refine hK.out _ _ (by (try dsimp only); exact ⟨b0, b1, b2, b3, b4, b5, b6⟩) (fun hHeld => ?_)
      clear hK K
      (try simp only [Act.put, List.setIfInBounds_toArray, List.set_cons_zero, List.set_cons_succ])
      refine wpAnyH_ready (rs := [6]) (by kernel_rfl) (by simp) ?_; refine AllReadyH.cons (o := _) rfl (fun K hK => ?_) AllReadyH.nil
      go_simp
      skip
      refine hK.out _ _ (by (try dsimp only); exact ⟨g0, g1, g2, g3, g4, g5, g6⟩) (fun hHeld => ?_)
      clear hK K
      (try simp only [Act.put, List.setIfInBounds_toArray, List.set_cons_zero, List.set_cons_succ])
      refine wpAnyH_ready (rs := [7]) (by kernel_rfl) (by simp) ?_; refine AllReadyH.cons (o := _) rfl (fun K hK => ?_) AllReadyH.nil
      (refine step_append_H (some 29) rfl rfl (.tmp 26) (.tmp 28) rfl (.slice A3 N.length c3) N (by simp [Act.eval]) how4 (some ⟨w3.heap.size, 0, none⟩) 1 1 [h] (by simp [Act.eval]) hsrc rfl (by omega) ?_; intro v5 w5 hown5 hc5 hv5; have hst5 := hc5.blk hst4 (fun hm => hne3 p hm rfl); have hbx5 := hbx4.chg hc5 hbn; have e5 := hst5.cell 1; have k5 := hst5.frozen 1; simp only [List.getElem?_toArray, List.getElem?_cons_succ, List.getElem?_cons_zero] at e5; obtain ⟨m0, m1, m2, m3, m4, m5, m6⟩ := hbx5.cells)
      refine hK.out _ _ (by (try dsimp only); exact ⟨m0, m1, m2, m3, m4, m5, m6⟩) (fun hHeld => ?_)
      clear hK K
      (try dsimp only)
      (try simp only [Act.put, List.setIfInBounds_toArray, List.set_cons_zero, List.set_cons_succ])
      (refine take_on 8 (some 30) (v := ?_) rfl rfl (by kernel_rfl) (by kernel_rfl) (by kernel_rfl) (fun _ _ _ h => h) (by rfl) (by assumption) ?_ ?_; rotate_left; · (intro w hSw; (try dsimp only at hSw); go_simp; (try with_reducible rfl)))
      (try simp only [Act.put, List.setIfInBounds_toArray, List.set_cons_zero, List.set_cons_succ])
      (refine take_on 9 (some 31) (v := ?_) rfl rfl (by kernel_rfl) (by kernel_rfl) (by kernel_rfl) (fun _ _ _ h => h) (by rfl) (by assumption) ?_ ?_; rotate_left; · (intro w hSw; (try dsimp only at hSw); go_simp; (try with_reducible rfl)))
      (try simp only [Act.put, List.setIfInBounds_toArray, List.set_cons_zero, List.set_cons_succ])
      obtain ⟨A5, c5, rfl, _, _⟩ := hown5.form
      have hcl : Chg [p] w5 (w5.setCell ⟨p, 1, none⟩ (.slice A5 (N ++ [h]).length c5)) := (Chg.refl _ _).setCell (by simp) _
      have hbx6 := hbx5.chg hcl (by simpa using hbp)
      have hst6 := hst5.set_ 1 (.slice A5 (N ++ [h]).length c5)
      have how6 := hown5.chg hcl (by intro g hg hm; simp at hm; subst hm; exact put_own hv5 hst4.lt (fun hm => hne3 g hm rfl) hg)
      obtain ⟨y0, y1, y2, y3, y4, y5, y6⟩ := hbx6.cells
      have hN5 : (N ++ [h]).length ≤ most := by simp; omega
      have hL5 := Lib.hid (show TIn (w5.setCell ⟨p, 1, none⟩ (.slice A5 (N ++ [h]).length c5)) p most (.slice A5 (N ++ [h]).length c5) (N ++ [h]) from ⟨hst6, how6, hN5, hlo, hhi, HND.out⟩)
      have hC5 := Lib.hid (put_chg hch3 hA0 hc5 hcl (by rw [← hv3]; exact fun i hi => List.mem_cons_of_mem _ hi) hpS)
      have hG5 := Lib.hid (put_grew (p := p) hv5 hv3 hA0.size hch3.size)
      clear hst6 how6 hcl hN5 hown5 hst4 how4 hbx4 hnb hbx6
      generalize (N ++ [h]).length = n5 at *
      refine wpAnyH_ready (rs := [10]) (by kernel_rfl) (by simp) ?_; refine AllReadyH.cons (o := _) rfl (fun K hK => ?_) AllReadyH.nil
      go_simp
      skip
      refine hK.out _ _ (by (try dsimp only); exact ⟨y0, y1, y2, y3, y4, y5, y6⟩) (fun hHeld => ?_)
      clear hK K
      (try simp only [Act.put, List.setIfInBounds_toArray, List.set_cons_zero, List.set_cons_succ])
      refine wpAnyH_done (by kernel_rfl) ?_ _
      refine NoPanic.normal ?_
      go_wp2_with fail
      go_end0
      have hml := HML.out
      subst hml
      exact ⟨_, rfl, hC5.out, ⟨_, hL5.out, rfl⟩, hG5.out⟩
    · go_simp
      skip
      refine hK.out _ _ (by (try dsimp only); exact ⟨g0, g1, g2, g3, g4, g5, g6⟩) (fun hHeld => ?_)
      clear hK K
      (try simp only [Act.put, List.setIfInBounds_toArray, List.set_cons_zero, List.set_cons_succ])
      refine wpAnyH_ready (rs := [4]) (by kernel_rfl) (by simp) ?_; refine AllReadyH.cons (o := _) rfl (fun K hK => ?_) AllReadyH.nil
      go_simp
      skip
      refine hK.out _ _ (by (try dsimp only); exact ⟨g0, g1, g2, g3, g4, g5, g6⟩) (fun hHeld => ?_)
      clear hK K
      (try simp only [Act.put, List.setIfInBounds_toArray, List.set_cons_zero, List.set_cons_succ])
      refine wpAnyH_ready (rs := [7]) (by kernel_rfl) (by simp) ?_; refine AllReadyH.cons (o := _) rfl (fun K hK => ?_) AllReadyH.nil
      (refine step_append_H (some 29) rfl rfl (.tmp 26) (.tmp 28) rfl (.slice A3 N.length c3) N (by simp [Act.eval]) how4 (some ⟨w3.heap.size, 0, none⟩) 1 1 [h] (by simp [Act.eval]) hsrc rfl (by omega) ?_; intro v5 w5 hown5 hc5 hv5; have hst5 := hc5.blk hst4 (fun hm => hne3 p hm rfl); have hbx5 := hbx4.chg hc5 hbn; have e5 := hst5.cell 1; have k5 := hst5.frozen 1; simp only [List.getElem?_toArray, List.getElem?_cons_succ, List.getElem?_cons_zero] at e5; obtain ⟨m0, m1, m2, m3, m4, m5, m6⟩ := hbx5.cells)
      refine hK.out _ _ (by (try dsimp only); exact ⟨m0, m1, m2, m3, m4, m5, m6⟩) (fun hHeld => ?_)
      clear hK K
      (try dsimp only)
      (try simp only [Act.put, List.setIfInBounds_toArray, List.set_cons_zero, List.set_cons_succ])
      (refine take_on 8 (some 30) (v := ?_) rfl rfl (by kernel_rfl) (by kernel_rfl) (by kernel_rfl) (fun _ _ _ h => h) (by rfl) (by assumption) ?_ ?_; rotate_left; · (intro w hSw; (try dsimp only at hSw); go_simp; (try with_reducible rfl)))
      (try simp only [Act.put, List.setIfInBounds_toArray, List.set_cons_zero, List.set_cons_succ])
      (refine take_on 9 (some 31) (v := ?_) rfl rfl (by kernel_rfl) (by kernel_rfl) (by kernel_rfl) (fun _ _ _ h => h) (by rfl) (by assumption) ?_ ?_; rotate_left; · (intro w hSw; (try dsimp only at hSw); go_simp; (try with_reducible rfl)))
      (try simp only [Act.put, List.setIfInBounds_toArray, List.set_cons_zero, List.set_cons_succ])
      obtain ⟨A5, c5, rfl, _, _⟩ := hown5.form
      have hcl : Chg [p] w5 (w5.setCell ⟨p, 1, none⟩ (.slice A5 (N ++ [h]).length c5)) := (Chg.refl _ _).setCell (by simp) _
      have hbx6 := hbx5.chg hcl (by simpa using hbp)
      have hst6 := hst5.set_ 1 (.slice A5 (N ++ [h]).length c5)
      have how6 := hown5.chg hcl (by intro g hg hm; simp at hm; subst hm; exact put_own hv5 hst4.lt (fun hm => hne3 g hm rfl) hg)
      obtain ⟨y0, y1, y2, y3, y4, y5, y6⟩ := hbx6.cells
      have hN5 : (N ++ [h]).length ≤ most := by simp; omega
      have hL5 := Lib.hid (show TIn (w5.setCell ⟨p, 1, none⟩ (.slice A5 (N ++ [h]).length c5)) p most (.slice A5 (N ++ [h]).length c5) (N ++ [h]) from ⟨hst6, how6, hN5, hlo, hhi, HND.out⟩)
      have hC5 := Lib.hid (put_chg hch3 hA0 hc5 hcl (by rw [← hv3]; exact fun i hi => List.mem_cons_of_mem _ hi) hpS)
      have hG5 := Lib.hid (put_grew (p := p) hv5 hv3 hA0.size hch3.size)
      clear hst6 how6 hcl hN5 hown5 hst4 how4 hbx4 hnb hbx6
      generalize (N ++ [h]).length = n5 at *
      refine wpAnyH_ready (rs := [10]) (by kernel_rfl) (by simp) ?_; refine AllReadyH.cons (o := _) rfl (fun K hK => ?_) AllReadyH.nil
      go_simp
      skip
      refine hK.out _ _ (by (try dsimp only); exact ⟨y0, y1, y2, y3, y4, y5, y6⟩) (fun hHeld => ?_)
      clear hK K
      (try simp only [Act.put, List.setIfInBounds_toArray, List.set_cons_zero, List.set_cons_succ])
      refine wpAnyH_done (by kernel_rfl) ?_ _
      refine NoPanic.normal ?_
      go_wp2_with fail
      go_end0
      have hml := HML.out
      subst hml
      exact ⟨_, rfl, hC5.out, ⟨_, hL5.out, rfl⟩, hG5.out⟩
  · have eN : M = N := by rw [HNE.out]; unfold cutT; rw [if_neg hfull]
    have HND := Lib.hid (show KeyN (N ++ [h]) by rw [HNE.out]; exact HKN.out)
    have hNl : N.length + 1 ≤ most := by rw [← eN]; omega
    have e1 : ((M.length : Int) == most) = false := by simp; omega
    have HNL := Lib.hid hNl
    clear hNl hfull
    generalize hml : M.length = ml at *
    have HML := Lib.hid hml
    clear hml
    go_wp2_with fail
    go_quiet (fail)
    have h3 := h1.chg ((Chg.refl [] w1).drewN nq) (by simp) (by simp)
    have hbx3 := hbx1.chg ((Chg.refl [] w1).drewN nq) (by simp)
    have hch3 := hch1.drewN nq
    generalize w1.drewN nq = w3 at *
    rw [eN] at h3
    obtain ⟨v3, hv3e⟩ : ∃ v3, v3 = Value.slice A ml c := ⟨_, rfl⟩
    rw [← hv3e] at h3
    have hv3 : v3.ownBlock = (Value.slice A ml c).ownBlock := by rw [hv3e]
    clear hv3e
    have hbn : bx ∉ v3.ownBlock.toList := by rw [hv3]; exact fun hm => hbS (List.mem_cons_of_mem _ hm)
    go_wp2_with fail
    have hN3 := HNL.out
    clear h1 hbx1 hch1 d0 d1 e1 eN
    have hbp : bx ≠ p := fun e => hbS (e ▸ List.mem_cons_self)
    have hpS : p ∈ p :: (Value.slice A ml c).ownBlock.toList := List.mem_cons_self
    obtain ⟨A3, c3, rfl, hA3, _⟩ := h3.ow.form
    have hst3 := h3.st
    have how3 := h3.ow
    obtain ⟨d0, d1⟩ := h3.c
    obtain ⟨b0, b1, b2, b3, b4, b5, b6⟩ := hbx3.cells
    have hne3 := h3.ne
    have hlt3 := h3.st.lt
    have hlo := h3.lo; have hhi := h3.hi
    have hn1 : N.length + 1 ≤ 1000000 := by omega
    have hA0 := (Chg.refl [] w3).drew.alloc (.cells #[.int .i64 h.a, .int .i64 h.p, .int .i64 h.f, .bool h.w, .bool h.u, .bool h.x, .bool h.d] 31)
    have hnb : BlkH (w3.drew.alloc (.cells #[.int .i64 h.a, .int .i64 h.p, .int .i64 h.f, .bool h.w, .bool h.u, .bool h.x, .bool h.d] 31)) w3.heap.size h := BlkH.new w3.drew h
    have how4 := how3.chg hA0 (by simp)
    have hst4 := hA0.blk hst3 (by simp)
    have hbx4 := hbx3.chg hA0 (by simp)
    have e4 := hst4.cell 1
    simp only [List.getElem?_toArray, List.getElem?_cons_succ, List.getElem?_cons_zero] at e4
    obtain ⟨g0, g1, g2, g3, g4, g5, g6⟩ := hbx4.cells
    have hsrc := hnb.src
    clear hA3
    refine wp_region_noPanic ?_
    refine wp_region_held_drew (S := (fun w' => w'.cell? ⟨bx, 0, none⟩ = some (.int .i64 h.a) ∧ w'.cell? ⟨bx, 1, none⟩ = some (.int .i64 h.p) ∧ w'.cell? ⟨bx, 2, none⟩ = some (.int .i64 h.f) ∧ w'.cell? ⟨bx, 3, none⟩ = some (.bool h.w) ∧ w'.cell? ⟨bx, 4, none⟩ = some (.bool h.u) ∧ w'.cell? ⟨bx, 5, none⟩ = some (.bool h.x) ∧ w'.cell? ⟨bx, 6, none⟩ = some (.bool h.d))) (by kernel_rfl) ?_ (fun hHeld => ?_)
    · exact ⟨b0, b1, b2, b3, b4, b5, b6⟩
    (refine take_on 0 (some 22) (v := ?_) rfl rfl (by kernel_rfl) (by kernel_rfl) (by kernel_rfl) (fun _ _ _ h => h) (by rfl) (by assumption) ?_ ?_; rotate_left; · (intro w hSw; (try dsimp only at hSw); go_simp; (try with_reducible rfl)))
    (try simp only [Act.put, List.setIfInBounds_toArray, List.set_cons_zero, List.set_cons_succ])
    (refine take_on 1 (some 23) (v := ?_) rfl rfl (by kernel_rfl) (by kernel_rfl) (by kernel_rfl) (fun _ _ _ h => h) (by rfl) (by assumption) ?_ ?_; rotate_left; · (intro w hSw; (try dsimp only at hSw); go_simp; (try with_reducible rfl)))
    (try simp only [Act.put, List.setIfInBounds_toArray, List.set_cons_zero, List.set_cons_succ])
    (refine take_on 2 (some 24) (v := ?_) rfl rfl (by kernel_rfl) (by kernel_rfl) (by kernel_rfl) (fun _ _ _ h => h) (by rfl) (by assumption) ?_ ?_; rotate_left; · (intro w hSw; (try dsimp only at hSw); go_simp; (try with_reducible rfl)))
    (try simp only [Act.put, List.setIfInBounds_toArray, List.set_cons_zero, List.set_cons_succ])
    (refine take_on 3 (some 25) (v := ?_) rfl rfl (by kernel_rfl) (by kernel_rfl) (by kernel_rfl) (fun _ _ _ h => h) (by rfl) (by assumption) ?_ ?_; rotate_left; · (intro w hSw; (try dsimp only at hSw); go_simp; (try with_reducible rfl)))
    (try simp only [Act.put, List.setIfInBounds_toArray, List.set_cons_zero, List.set_cons_succ])
    (refine take_on 5 (some 27) (v := ?_) rfl rfl (by kernel_rfl) (by kernel_rfl) (by kernel_rfl) (fun _ _ _ h => h) (by rfl) (by assumption) ?_ ?_; rotate_left; · (intro w hSw; (try dsimp only at hSw); go_simp; (try with_reducible rfl)))
    (try simp only [Act.put, List.setIfInBounds_toArray, List.set_cons_zero, List.set_cons_succ])
    refine wpAnyH_ready (rs := [4, 6]) (by kernel_rfl) (by simp) ?_; refine AllReadyH.cons (o := _) rfl (fun K hK => ?_) (AllReadyH.cons (o := _) rfl (fun K hK => ?_) AllReadyH.nil)
    · go_simp
      skip
      refine hK.out _ _ (by (try dsimp only); exact ⟨b0, b1, b2, b3, b4, b5, b6⟩) (fun hHeld => ?_)
      clear hK K
      (try simp only [Act.put, List.setIfInBounds_toArray, List.set_cons_zero, List.set_cons_succ])
      refine wpAnyH_ready (rs := [6]) (by kernel_rfl) (by simp) ?_; refine AllReadyH.cons (o := _) rfl (fun K hK => ?_) AllReadyH.nil
      go_simp
      skip
      refine hK.out _ _ (by (try dsimp only); exact ⟨g0, g1, g2, g3, g4, g5, g6⟩) (fun hHeld => ?_)
      clear hK K
      (try simp only [Act.put, List.setIfInBounds_toArray, List.set_cons_zero, List.set_cons_succ])
      refine wpAnyH_ready (rs := [7]) (by kernel_rfl) (by simp) ?_; refine AllReadyH.cons (o := _) rfl (fun K hK => ?_) AllReadyH.nil
      (refine step_append_H (some 29) rfl rfl (.tmp 26) (.tmp 28) rfl (.slice A3 N.length c3) N (by simp [Act.eval]) how4 (some ⟨w3.heap.size, 0, none⟩) 1 1 [h] (by simp [Act.eval]) hsrc rfl (by omega) ?_; intro v5 w5 hown5 hc5 hv5; have hst5 := hc5.blk hst4 (fun hm => hne3 p hm rfl); have hbx5 := hbx4.chg hc5 hbn; have e5 := hst5.cell 1; have k5 := hst5.frozen 1; simp only [List.getElem?_toArray, List.getElem?_cons_succ, List.getElem?_cons_zero] at e5; obtain ⟨m0, m1, m2, m3, m4, m5, m6⟩ := hbx5.cells)
      refine hK.out _ _ (by (try dsimp only); exact ⟨m0, m1, m2, m3, m4, m5, m6⟩) (fun hHeld => ?_)
      clear hK K
      (try dsimp only)
      (try simp only [Act.put, List.setIfInBounds_toArray, List.set_cons_zero, List.set_cons_succ])
      (refine take_on 8 (some 30) (v := ?_) rfl rfl (by kernel_rfl) (by kernel_rfl) (by kernel_rfl) (fun _ _ _ h => h) (by rfl) (by assumption) ?_ ?_; rotate_left; · (intro w hSw; (try dsimp only at hSw); go_simp; (try with_reducible rfl)))
      (try simp only [Act.put, List.setIfInBounds_toArray, List.set_cons_zero, List.set_cons_succ])
      (refine take_on 9 (some 31) (v := ?_) rfl rfl (by kernel_rfl) (by kernel_rfl) (by kernel_rfl) (fun _ _ _ h => h) (by rfl) (by assumption) ?_ ?_; rotate_left; · (intro w hSw; (try dsimp only at hSw); go_simp; (try with_reducible rfl)))
      (try simp only [Act.put, List.setIfInBounds_toArray, List.set_cons_zero, List.set_cons_succ])
      obtain ⟨A5, c5, rfl, _, _⟩ := hown5.form
      have hcl : Chg [p] w5 (w5.setCell ⟨p, 1, none⟩ (.slice A5 (N ++ [h]).length c5)) := (Chg.refl _ _).setCell (by simp) _
      have hbx6 := hbx5.chg hcl (by simpa using hbp)
      have hst6 := hst5.set_ 1 (.slice A5 (N ++ [h]).length c5)
      have how6 := hown5.chg hcl (by intro g hg hm; simp at hm; subst hm; exact put_own hv5 hst4.lt (fun hm => hne3 g hm rfl) hg)
      obtain ⟨y0, y1, y2, y3, y4, y5, y6⟩ := hbx6.cells
      have hN5 : (N ++ [h]).length ≤ most := by simp; omega
      have hL5 := Lib.hid (show TIn (w5.setCell ⟨p, 1, none⟩ (.slice A5 (N ++ [h]).length c5)) p most (.slice A5 (N ++ [h]).length c5) (N ++ [h]) from ⟨hst6, how6, hN5, hlo, hhi, HND.out⟩)
      have hC5 := Lib.hid (put_chg hch3 hA0 hc5 hcl (by rw [← hv3]; exact fun i hi => List.mem_cons_of_mem _ hi) hpS)
      have hG5 := Lib.hid (put_grew (p := p) hv5 hv3 hA0.size hch3.size)
      clear hst6 how6 hcl hN5 hown5 hst4 how4 hbx4 hnb hbx6
      generalize (N ++ [h]).length = n5 at *
      refine wpAnyH_ready (rs := [10]) (by kernel_rfl) (by simp) ?_; refine AllReadyH.cons (o := _) rfl (fun K hK => ?_) AllReadyH.nil
      go_simp
      skip
      refine hK.out _ _ (by (try dsimp only); exact ⟨y0, y1, y2, y3, y4, y5, y6⟩) (fun hHeld => ?_)
      clear hK K
      (try simp only [Act.put, List.setIfInBounds_toArray, List.set_cons_zero, List.set_cons_succ])
      refine wpAnyH_done (by kernel_rfl) ?_ _
      refine NoPanic.normal ?_
      go_wp2_with fail
      go_end0
      have hml := HML.out
      subst hml
      exact ⟨_, rfl, hC5.out, ⟨_, hL5.out, rfl⟩, hG5.out⟩
    · go_simp
      skip
      refine hK.out _ _ (by (try dsimp only); exact ⟨g0, g1, g2, g3, g4, g5, g6⟩) (fun hHeld => ?_)
      clear hK K
      (try simp only [Act.put, List.setIfInBounds_toArray, List.set_cons_zero, List.set_cons_succ])
      refine wpAnyH_ready (rs := [4]) (by kernel_rfl) (by simp) ?_; refine AllReadyH.cons (o := _) rfl (fun K hK => ?_) AllReadyH.nil
      go_simp
      skip
      refine hK.out _ _ (by (try dsimp only); exact ⟨g0, g1, g2, g3, g4, g5, g6⟩) (fun hHeld => ?_)
      clear hK K
      (try simp only [Act.put, List.setIfInBounds_toArray, List.set_cons_zero, List.set_cons_succ])
      refine wpAnyH_ready (rs := [7]) (by kernel_rfl) (by simp) ?_; refine AllReadyH.cons (o := _) rfl (fun K hK => ?_) AllReadyH.nil
      (refine step_append_H (some 29) rfl rfl (.tmp 26) (.tmp 28) rfl (.slice A3 N.length c3) N (by simp [Act.eval]) how4 (some ⟨w3.heap.size, 0, none⟩) 1 1 [h] (by simp [Act.eval]) hsrc rfl (by omega) ?_; intro v5 w5 hown5 hc5 hv5; have hst5 := hc5.blk hst4 (fun hm => hne3 p hm rfl); have hbx5 := hbx4.chg hc5 hbn; have e5 := hst5.cell 1; have k5 := hst5.frozen 1; simp only [List.getElem?_toArray, List.getElem?_cons_succ, List.getElem?_cons_zero] at e5; obtain ⟨m0, m1, m2, m3, m4, m5, m6⟩ := hbx5.cells)
      refine hK.out _ _ (by (try dsimp only); exact ⟨m0, m1, m2, m3, m4, m5, m6⟩) (fun hHeld => ?_)
      clear hK K
      (try dsimp only)
      (try simp only [Act.put, List.setIfInBounds_toArray, List.set_cons_zero, List.set_cons_succ])
      (refine take_on 8 (some 30) (v := ?_) rfl rfl (by kernel_rfl) (by kernel_rfl) (by kernel_rfl) (fun _ _ _ h => h) (by rfl) (by assumption) ?_ ?_; rotate_left; · (intro w hSw; (try dsimp only at hSw); go_simp; (try with_reducible rfl)))
      (try simp only [Act.put, List.setIfInBounds_toArray, List.set_cons_zero, List.set_cons_succ])
      (refine take_on 9 (some 31) (v := ?_) rfl rfl (by kernel_rfl) (by kernel_rfl) (by kernel_rfl) (fun _ _ _ h => h) (by rfl) (by assumption) ?_ ?_; rotate_left; · (intro w hSw; (try dsimp only at hSw); go_simp; (try with_reducible rfl)))
      (try simp only [Act.put, List.setIfInBounds_toArray, List.set_cons_zero, List.set_cons_succ])
      obtain ⟨A5, c5, rfl, _, _⟩ := hown5.form
      have hcl : Chg [p] w5 (w5.setCell ⟨p, 1, none⟩ (.slice A5 (N ++ [h]).length c5)) := (Chg.refl _ _).setCell (by simp) _
      have hbx6 := hbx5.chg hcl (by simpa using hbp)
      have hst6 := hst5.set_ 1 (.slice A5 (N ++ [h]).length c5)
      have how6 := hown5.chg hcl (by intro g hg hm; simp at hm; subst hm; exact put_own hv5 hst4.lt (fun hm => hne3 g hm rfl) hg)
      obtain ⟨y0, y1, y2, y3, y4, y5, y6⟩ := hbx6.cells
      have hN5 : (N ++ [h]).length ≤ most := by simp; omega
      have hL5 := Lib.hid (show TIn (w5.setCell ⟨p, 1, none⟩ (.slice A5 (N ++ [h]).length c5)) p most (.slice A5 (N ++ [h]).length c5) (N ++ [h]) from ⟨hst6, how6, hN5, hlo, hhi, HND.out⟩)
      have hC5 := Lib.hid (put_chg hch3 hA0 hc5 hcl (by rw [← hv3]; exact fun i hi => List.mem_cons_of_mem _ hi) hpS)
      have hG5 := Lib.hid (put_grew (p := p) hv5 hv3 hA0.size hch3.size)
      clear hst6 how6 hcl hN5 hown5 hst4 how4 hbx4 hnb hbx6
      generalize (N ++ [h]).length = n5 at *
      refine wpAnyH_ready (rs := [10]) (by kernel_rfl) (by simp) ?_; refine AllReadyH.cons (o := _) rfl (fun K hK => ?_) AllReadyH.nil
      go_simp
      skip
      refine hK.out _ _ (by (try dsimp only); exact ⟨y0, y1, y2, y3, y4, y5, y6⟩) (fun hHeld => ?_)
      clear hK K
      (try simp only [Act.put, List.setIfInBounds_toArray, List.set_cons_zero, List.set_cons_succ])
      refine wpAnyH_done (by kernel_rfl) ?_ _
      refine NoPanic.normal ?_
      go_wp2_with fail
      go_end0
      have hml := HML.out
      subst hml
      exact ⟨_, rfl, hC5.out, ⟨_, hL5.out, rfl⟩, hG5.out⟩

end Go.Proofs.Ytikdoldmhlbklaa
