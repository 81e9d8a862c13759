/-
  The contract of package store's Find.
-/
import Derived.Test.YtpmfooeifhhfkaaStoreE
namespace Go.Proofs.Ytpmfooeifhhfkaa
open Go.RowKit Go.Maps Go.Shelf

attribute [local go_sem] Oper.semAt_some

/-- what Find's three variables hold between two rounds -/
structure FindI (kb rb ob m1 : Nat) (k : Ky) (L : List Pg) (w : World) (pre : List (Ix8 L.length)) (W : World) : Prop where
  no : ∀ y ∈ pre, (pgX L y).k ≠ k
  hk : Blk W kb 24 k.cs
  hr : ∃ u, Blk W rb 3 #[u]
  ho : ∃ u, Blk W ob 4 #[u]
  ch : Chg [] w W
  lo : m1 ≤ W.heap.size
structure FindX (rb ob : Nat) (k : Ky) (L : List Pg) (w : World) (pre : List (Ix8 L.length)) (W : World) : Prop where
  why : ∃ l x, pre = l ++ [x] ∧ (∀ y ∈ l, (pgX L y).k ≠ k) ∧ (pgX L x).k = k ∧ Blk W rb 3 #[.int .i64 (pgX L x).f]
  ho : Blk W ob 4 #[.bool true]
  ch : Chg [] w W
theorem FindI.own {kb rb ob m1 : Nat} {k : Ky} {L : List Pg} {w : World} {B : Nat} (hB : w.heap.size ≤ B) : OwnFrom B (FindI kb rb ob m1 k L w) := by
  intro pre W W' row h hg hr
  have hr' := fun r e => (hr r e).2
  obtain ⟨u, h1⟩ := h.hr
  obtain ⟨u2, h2⟩ := h.ho
  exact ⟨h.no, blk_kept h.hk hg hr', ⟨u, blk_kept h1 hg hr'⟩, ⟨u2, blk_kept h2 hg hr'⟩, chg_kept h.ch hB hg hr, Nat.le_trans h.lo hg.size⟩
theorem FindX.own {rb ob : Nat} {k : Ky} {L : List Pg} {w : World} {B : Nat} (c : Code) (hB : w.heap.size ≤ B) : OwnFrom B (fun pre W => c = .ret ∧ FindX rb ob k L w pre W) := by
  rintro pre W W' row ⟨hc, h⟩ hg hr
  have hr' := fun r e => (hr r e).2
  obtain ⟨l, x, e1, e2, e3, e4⟩ := h.why
  exact ⟨hc, ⟨l, x, e1, e2, e3, blk_kept e4 hg hr'⟩, blk_kept h.ho hg hr', chg_kept h.ch hB hg hr⟩
theorem cells2_ret {P : Program} {fn : Func} {p q : Tmp} {ty ty2 : TypeId} (h : fn.results = #[.cell p ty, .cell q ty2]) {tmps : Array Value} {w : World} {g g2 : Nat} {t t2 : TypeId} {u u2 : Value} {d d2 : TypeDesc} (hb : Blk w g t #[u]) (hb2 : Blk w g2 t2 #[u2])
    (hp : tmps.getD p undef = .pointer (some ⟨g, 0, none⟩)) (hq : tmps.getD q undef = .pointer (some ⟨g2, 0, none⟩)) (hu : P.underlying ty = some d) (hd : (match d with | .struct _ | .array _ _ => false | _ => true) = true)
    (hu2 : P.underlying ty2 = some d2) (hd2 : (match d2 with | .struct _ | .array _ _ => false | _ => true) = true) :
    (results fn tmps).run P w = .ok (.tuple #[u, u2]) w := by
  have hp' : tmps[p]?.getD undef = .pointer (some ⟨g, 0, none⟩) := by simpa using hp
  have hq' : tmps[q]?.getD undef = .pointer (some ⟨g2, 0, none⟩) := by simpa using hq
  have hl : (loadVar ty ⟨g, 0, none⟩).run P w = .ok u w := by
    have hc := hb.cell 0
    simp only [List.getElem?_toArray, List.getElem?_cons_zero] at hc
    cases d <;> simp_all [loadVar, isAgg, underlying, Result.andThen]
  have hl2 : (loadVar ty2 ⟨g2, 0, none⟩).run P w = .ok u2 w := by
    have hc := hb2.cell 0
    simp only [List.getElem?_toArray, List.getElem?_cons_zero] at hc
    cases d2 <;> simp_all [loadVar, isAgg, underlying, Result.andThen]
  simp [results, h, hp', hq', asAddr, hl, hl2, Result.andThen]

set_option maxRecDepth 100000 in
set_option maxHeartbeats 8000000 in
theorem Sfind_any {q hp hb n a m fp mp : Nat} {s : Sr} {FS B : List Nat} {v : Value} (k : Ky) (w : World) (h : StX w q hp hb n a m s fp mp FS v B) :
    Calls Try.prog 17 #[.pointer (some ⟨q, 0, none⟩), .agg k.cs] w fun e w' => e = .returned (.tuple #[.int .i64 (findV s.L k), .bool (pgOf s.L k).isSome]) ∧ Chg [] w w' := by
  have hro : Fence.wide.round = none := rfl
  refine (callsIn_wide (n := 3)).1 ?_
  refine callsIn_of_wp_marks Try.func17 rfl trivial ?_ hro
  simp only [Try.ntmps17, List.size_toArray, List.length_cons, List.length_nil, Nat.reduceAdd, Nat.reduceSub, Array.replicate_succ, Array.replicate_zero, List.push_toArray, List.append_toArray, List.nil_append, List.cons_append]
  have k1 := ((Blk.new w 24 k.cs).alloc (.cells #[.int .i64 0] 3)).alloc (.cells #[.bool false] 4)
  have r1 := (Blk.new (w.alloc (.cells k.cs 24)) 3 #[.int .i64 0]).alloc (.cells #[.bool false] 4)
  have o1 := Blk.new ((w.alloc (.cells k.cs 24)).alloc (.cells #[.int .i64 0] 3)) 4 #[.bool false]
  rw [World.size_alloc] at r1
  rw [World.size_alloc, World.size_alloc] at o1
  have y1 := (((Chg.refl [] w).alloc (.cells k.cs 24)).alloc (.cells #[.int .i64 0] 3)).alloc (.cells #[.bool false] 4)
  obtain ⟨kg, kl, kr⟩ := k
  simp only [Ky.cs] at *
  gi_wp2
  generalize ((w.alloc (.cells #[.int .i64 kg, .int .i64 kl, .int .i64 kr] 24)).alloc (.cells #[.int .i64 0] 3)).alloc (.cells #[.bool false] 4) = w1 at *
  (first | refine ⟨trivial, (fun hh => by cases hh), ?_⟩ | refine ⟨(fun hh => by cases hh), ?_⟩ | refine ⟨trivial, ?_⟩ | skip)
  refine (callsIn_wide.2 (slots_any q _)).mono ?_; rintro e w2 ⟨rfl, hw2⟩
  have y12 : Chg [] w1 w2 := by rw [hw2]; exact (Chg.refl [] w1).alloc _
  have b2 : Blk w2 w1.heap.size 30 #[.pointer (some ⟨q, 0, none⟩)] := by rw [hw2]; exact Blk.new _ _ _
  replace k1 := k1.chg_ y12 (by simp); replace r1 := r1.chg_ y12 (by simp); replace o1 := o1.chg_ y12 (by simp); replace y1 := y1.trans y12 (by simp)
  clear hw2 y12
  generalize w1.heap.size = bb at *
  have hI0 : FindI w.heap.size (w.heap.size + 1) (w.heap.size + 1 + 1) w2.heap.size ⟨kg, kl, kr⟩ s.L w [] w2 := ⟨by simp, k1, ⟨_, r1⟩, ⟨_, o1⟩, y1, Nat.le_refl _⟩
  have hml : w.heap.size ≤ w2.heap.size := y1.size
  clear k1 r1 o1
  gi_wp2
  refine wpIn_rangeFunc_ownG (a := _) hro (by decide) (gf := 80) (lb := #[.pointer (some ⟨bb, 0, none⟩)]) rfl trivial (enters_of Try.func80 (by kernel_rfl) rfl)
    (slots_stops (3 - 1) bb w w2 h y1 b2) KpS.t (KpS.b hml) (Below.refl _ _) (fun _ => rfl)
    (FindI w.heap.size (w.heap.size + 1) (w.heap.size + 1 + 1) w2.heap.size ⟨kg, kl, kr⟩ s.L w) (fun c pre W => c = .ret ∧ FindX (w.heap.size + 1) (w.heap.size + 1 + 1) ⟨kg, kl, kr⟩ s.L w pre W) (FindI.own hml) (fun c => FindX.own c hml) hI0
    (fun x => { tmps := #[.pointer (some ⟨q, 0, none⟩), .agg #[.int .i64 kg, .int .i64 kl, .int .i64 kr], undef, .pointer (some ⟨w.heap.size, 0, none⟩), .pointer (some ⟨w.heap.size + 1, 0, none⟩), .pointer (some ⟨w.heap.size + 1 + 1, 0, none⟩), .pointer (some ⟨B.getD (x.val / 8) 0, 0, none⟩), .pointer (some ⟨q, 0, none⟩), .func (.func 80) #[] #[.pointer (some ⟨bb, 0, none⟩)], .pointer (some ⟨B.getD (x.val / 8) 0, 0, none⟩), .int .i64 ((x.val % 8 : Nat) : Int), undef, undef, undef, undef, undef, undef, undef, undef, undef, undef], defers := [] }) ?assign ?body ?done ?stop
  case assign =>
    intro l x W K hK
    unfold encI
    gi_wp2
    exact hK
  case body =>
    rintro l pre x W hI hlt
    obtain ⟨b, hen, hpb0, hmem⟩ := h.pgx x
    have hgb : B.getD (x.val / 8) 0 = b := by unfold encI at hen; simpa using hen
    rw [hgb]
    have hpb : PgB W b (pgX s.L x) := Blk.chg_ hpb0 hI.ch (by simp)
    have hkb := hI.hk
    obtain ⟨u1, hr⟩ := hI.hr
    obtain ⟨u2, ho⟩ := hI.ho
    have hq := fun w' => run_eqKy (pgX s.L x).k ⟨kg, kl, kr⟩ w'
    have hno := hI.no
    have hch := hI.ch
    have hlo := hI.lo
    clear hI hpb0 hen hgb
    simp only [Ky.cs] at hq hkb
    obtain ⟨p, hp⟩ : ∃ p, pgX s.L x = p := ⟨_, rfl⟩
    rw [hp] at hpb hq
    replace hp := Lib.hid hp
    cases hkey : decide (p.k = ⟨kg, kl, kr⟩) with
    | true =>
      rw [hkey] at hq
      replace hkey := Lib.hid hkey
      gi_wp2
      refine wpIn_region_only (S := fun w' => Chg [] W w') (by kernel_rfl) (by kernel_rfl) ((Chg.refl [] W).drew) (fun hHeld => ?_)
      (refine take_on 0 (some 11) (v := ?_) rfl rfl (by kernel_rfl) (by kernel_rfl) (by kernel_rfl) (fun _ _ _ h => h) (by rfl) (by assumption) ?_ ?_; rotate_left; · (intro w hSw; go_simp; (try with_reducible rfl)))
      (try simp only [Act.put, List.setIfInBounds_toArray, List.set_cons_zero, List.set_cons_succ])
      (refine take_on 1 (some 12) (v := ?_) rfl rfl (by kernel_rfl) (by kernel_rfl) (by kernel_rfl) (fun _ _ _ h => h) (by rfl) (by assumption) ?_ ?_; rotate_left; · (intro w hSw; go_simp; (try with_reducible rfl)))
      (try simp only [Act.put, List.setIfInBounds_toArray, List.set_cons_zero, List.set_cons_succ])
      (refine take_on 2 (some 13) (v := ?_) rfl rfl (by kernel_rfl) (by kernel_rfl) (by kernel_rfl) (fun _ _ _ h => h) (by rfl) (by assumption) ?_ ?_; rotate_left; · (intro w hSw; go_simp; (try with_reducible rfl)))
      (try simp only [Act.put, List.setIfInBounds_toArray, List.set_cons_zero, List.set_cons_succ])
      (refine take_on 3 (some 14) (v := ?_) rfl rfl (by kernel_rfl) (by kernel_rfl) (by kernel_rfl) (fun _ _ _ h => h) (by rfl) (by assumption) ?_ ?_; rotate_left; · (intro w hSw; (try dsimp only at hSw); have b_ := Blk.chg_ hpb hSw (by simp); obtain ⟨d0, d1, d2, d3⟩ := PgB.head b_; go_simp; (try with_reducible rfl)))
      (try simp only [Act.put, List.setIfInBounds_toArray, List.set_cons_zero, List.set_cons_succ])
      (refine take_on 4 (some 15) (v := ?_) rfl rfl (by kernel_rfl) (by kernel_rfl) (by kernel_rfl) (fun _ _ _ h => h) (by rfl) (by assumption) ?_ ?_; rotate_left; · (intro w hSw; (try dsimp only at hSw); have b_ := hkb.chg_ hSw (by simp); have d0 := b_.cell 0; have d1 := b_.cell 1; have d2 := b_.cell 2; simp only [List.getElem?_toArray, List.getElem?_cons_zero, List.getElem?_cons_succ] at d0 d1 d2; go_simp; (try with_reducible rfl)))
      (try simp only [Act.put, List.setIfInBounds_toArray, List.set_cons_zero, List.set_cons_succ])
      (refine take_on 5 (some 16) (v := ?_) rfl rfl (by kernel_rfl) (by kernel_rfl) (by kernel_rfl) (fun _ _ _ h => h) (by rfl) (by assumption) ?_ ?_; rotate_left; · (intro w hSw; go_simp; (try with_reducible rfl)))
      (try simp only [Act.put, List.setIfInBounds_toArray, List.set_cons_zero, List.set_cons_succ])
      refine wpAnyH_done (by kernel_rfl) ?_ _
      refine Only.normal ?_
      have hhd := PgB.head hpb
      obtain ⟨f0, _, _, _⟩ := hhd
      have c0 := hr.cell 0; have c1 := hr.frozen 0; have c2 := ho.cell 0; have c3 := ho.frozen 0
      simp only [List.getElem?_toArray, List.getElem?_cons_zero] at c0 c2
      gi_wp2
      have hcc : Chg [w.heap.size + 1, w.heap.size + 1 + 1] W (((W.setCell ⟨w.heap.size + 1, 0, none⟩ (.int .i64 p.f)).setCell ⟨w.heap.size + 1 + 1, 0, none⟩ (.bool true)).drew) := (((Chg.refl _ W).setCell (p := ⟨w.heap.size + 1, 0, none⟩) (by simp) _).setCell (p := ⟨w.heap.size + 1 + 1, 0, none⟩) (by simp) _).drew
      have hst := StpS.of_chg (m := w.heap.size) hcc hch.size (by
        intro i hi
        simp only [List.mem_cons, List.not_mem_nil, or_false] at hi
        rcases hi with rfl | rfl
        · exact ⟨by omega, _, _, hr, by decide⟩
        · exact ⟨by omega, _, _, ho, by decide⟩)
      have hr2 : Blk (((W.setCell ⟨w.heap.size + 1, 0, none⟩ (.int .i64 p.f)).setCell ⟨w.heap.size + 1 + 1, 0, none⟩ (.bool true)).drew) (w.heap.size + 1) 3 #[.int .i64 p.f] := ((hr.set_ 0 (.int .i64 p.f)).far (p := ⟨w.heap.size + 1 + 1, 0, none⟩) (by simp) _).drew
      have ho2 : Blk (((W.setCell ⟨w.heap.size + 1, 0, none⟩ (.int .i64 p.f)).setCell ⟨w.heap.size + 1 + 1, 0, none⟩ (.bool true)).drew) (w.heap.size + 1 + 1) 4 #[.bool true] := ((ho.far (p := ⟨w.heap.size + 1, 0, none⟩) (by simp) _).set_ 0 (.bool true)).drew
      exact ⟨hst.1.from _, rfl, ⟨pre, x, rfl, hno, by rw [hp.out]; exact of_decide_eq_true hkey.out, by rw [hp.out]; exact hr2⟩, ho2, hst.2.chg hch rfl⟩
    | false =>
      rw [hkey] at hq
      replace hkey := Lib.hid hkey
      gi_wp2
      refine wpIn_region_only (S := fun w' => Chg [] W w') (by kernel_rfl) (by kernel_rfl) ((Chg.refl [] W).drew) (fun hHeld => ?_)
      (refine take_on 0 (some 11) (v := ?_) rfl rfl (by kernel_rfl) (by kernel_rfl) (by kernel_rfl) (fun _ _ _ h => h) (by rfl) (by assumption) ?_ ?_; rotate_left; · (intro w hSw; go_simp; (try with_reducible rfl)))
      (try simp only [Act.put, List.setIfInBounds_toArray, List.set_cons_zero, List.set_cons_succ])
      (refine take_on 1 (some 12) (v := ?_) rfl rfl (by kernel_rfl) (by kernel_rfl) (by kernel_rfl) (fun _ _ _ h => h) (by rfl) (by assumption) ?_ ?_; rotate_left; · (intro w hSw; go_simp; (try with_reducible rfl)))
      (try simp only [Act.put, List.setIfInBounds_toArray, List.set_cons_zero, List.set_cons_succ])
      (refine take_on 2 (some 13) (v := ?_) rfl rfl (by kernel_rfl) (by kernel_rfl) (by kernel_rfl) (fun _ _ _ h => h) (by rfl) (by assumption) ?_ ?_; rotate_left; · (intro w hSw; go_simp; (try with_reducible rfl)))
      (try simp only [Act.put, List.setIfInBounds_toArray, List.set_cons_zero, List.set_cons_succ])
      (refine take_on 3 (some 14) (v := ?_) rfl rfl (by kernel_rfl) (by kernel_rfl) (by kernel_rfl) (fun _ _ _ h => h) (by rfl) (by assumption) ?_ ?_; rotate_left; · (intro w hSw; (try dsimp only at hSw); have b_ := Blk.chg_ hpb hSw (by simp); obtain ⟨d0, d1, d2, d3⟩ := PgB.head b_; go_simp; (try with_reducible rfl)))
      (try simp only [Act.put, List.setIfInBounds_toArray, List.set_cons_zero, List.set_cons_succ])
      (refine take_on 4 (some 15) (v := ?_) rfl rfl (by kernel_rfl) (by kernel_rfl) (by kernel_rfl) (fun _ _ _ h => h) (by rfl) (by assumption) ?_ ?_; rotate_left; · (intro w hSw; (try dsimp only at hSw); have b_ := hkb.chg_ hSw (by simp); have d0 := b_.cell 0; have d1 := b_.cell 1; have d2 := b_.cell 2; simp only [List.getElem?_toArray, List.getElem?_cons_zero, List.getElem?_cons_succ] at d0 d1 d2; go_simp; (try with_reducible rfl)))
      (try simp only [Act.put, List.setIfInBounds_toArray, List.set_cons_zero, List.set_cons_succ])
      (refine take_on 5 (some 16) (v := ?_) rfl rfl (by kernel_rfl) (by kernel_rfl) (by kernel_rfl) (fun _ _ _ h => h) (by rfl) (by assumption) ?_ ?_; rotate_left; · (intro w hSw; go_simp; (try with_reducible rfl)))
      (try simp only [Act.put, List.setIfInBounds_toArray, List.set_cons_zero, List.set_cons_succ])
      refine wpAnyH_done (by kernel_rfl) ?_ _
      refine Only.normal ?_
      gi_wp2
      have hst := StpS.new (m := w.heap.size) (Chg.refl [] W).drew hch.size
      refine ⟨hst.1.from _, hst.2, fun y hy => ?_, hkb.drew, ⟨u1, hr.drew⟩, ⟨u2, ho.drew⟩, hch.drew, hlo⟩
      rcases List.mem_append.1 hy with hy | hy
      · exact hno y hy
      · rw [List.mem_singleton] at hy; subst hy; rw [hp.out]; exact of_decide_eq_false hkey.out
  case done =>
    rintro D xs W2 hD rfl hI2 hK
    have hres := pgOf_no hI2.no
    obtain ⟨u1, hr⟩ := hI2.hr
    obtain ⟨u2, ho⟩ := hI2.ho
    have hc := hI2.ch
    have c0 := hr.cell 0; have c1 := hr.frozen 0; have c2 := ho.cell 0; have c3 := ho.frozen 0
    simp only [List.getElem?_toArray, List.getElem?_cons_zero] at c0 c2
    replace hres := Lib.hid hres
    clear hI2
    gi_wp2
    have hn1 : D ≠ w.heap.size + 1 := fun e => by subst e; have := (show W2.heap[w.heap.size + 1]? = _ from hr).symm.trans hK; cases this
    have hn2 : D ≠ w.heap.size + 1 + 1 := fun e => by subst e; have := (show W2.heap[w.heap.size + 1 + 1]? = _ from ho).symm.trans hK; cases this
    have hcc : Chg [w.heap.size + 1, w.heap.size + 1 + 1] W2 (((W2.setCell ⟨w.heap.size + 1, 0, none⟩ (.int .i64 0)).setCell ⟨w.heap.size + 1 + 1, 0, none⟩ (.bool false))) := (((Chg.refl _ W2).setCell (p := ⟨w.heap.size + 1, 0, none⟩) (by simp) _).setCell (p := ⟨w.heap.size + 1 + 1, 0, none⟩) (by simp) _)
    have hr2 : Blk ((W2.setCell ⟨w.heap.size + 1, 0, none⟩ (.int .i64 0)).setCell ⟨w.heap.size + 1 + 1, 0, none⟩ (.bool false)) (w.heap.size + 1) 3 #[.int .i64 0] := ((hr.set_ 0 (.int .i64 0)).far (p := ⟨w.heap.size + 1 + 1, 0, none⟩) (by simp) _)
    have ho2 : Blk ((W2.setCell ⟨w.heap.size + 1, 0, none⟩ (.int .i64 0)).setCell ⟨w.heap.size + 1 + 1, 0, none⟩ (.bool false)) (w.heap.size + 1 + 1) 4 #[.bool false] := ((ho.far (p := ⟨w.heap.size + 1, 0, none⟩) (by simp) _).set_ 0 (.bool false))
    have hc3 : Chg [] w ((W2.setCell ⟨w.heap.size + 1, 0, none⟩ (.int .i64 0)).setCell ⟨w.heap.size + 1 + 1, 0, none⟩ (.bool false)) := hc.trans hcc (by intro i hi hm; simp at hm; omega)
    have hK3 := (hcc.block D (Array.getElem?_eq_some_iff.1 hK).1 (by simp; exact ⟨hn1, hn2⟩)).trans hK
    generalize ((W2.setCell ⟨w.heap.size + 1, 0, none⟩ (.int .i64 0)).setCell ⟨w.heap.size + 1 + 1, 0, none⟩ (.bool false)) = W3 at *
    refine ⟨by simp, .inl ⟨_, _, rfl, run_takeDeferred hK3, ?_⟩⟩
    have hgr := grownBy_putObj' W3 D (.deferred none)
    have hrr : ∀ r, some D = some r → ∃ o : Obj, W3.heap[r]? = some o ∧ o.isCells = false := fun r e => by cases e; exact ⟨_, hK3, rfl⟩
    refine ⟨_, cells2_ret rfl (blk_kept hr2 hgr hrr) (blk_kept ho2 hgr hrr) rfl rfl Try.underlying3 rfl Try.underlying4 rfl, ?_⟩
    unfold findV
    rw [hres.out]
    exact ⟨rfl, chg_kept hc3 hml hgr (fun r e => by cases e; exact ⟨hD, _, hK3, rfl⟩)⟩
  case stop =>
    rintro D c pre W2 hD hpre ⟨rfl, hx⟩ hK
    obtain ⟨l, x, rfl, hno, hkx, hr⟩ := hx.why
    have hres := pgOf_first hpre hno hkx
    have ho := hx.ho
    have hc := hx.ch
    replace hres := Lib.hid hres
    clear hx
    gi_wp2
    refine ⟨by simp, .inl ⟨_, _, rfl, run_takeDeferred hK, ?_⟩⟩
    have hgr := grownBy_putObj' W2 D (.deferred none)
    have hrr : ∀ r, some D = some r → ∃ o : Obj, W2.heap[r]? = some o ∧ o.isCells = false := fun r e => by cases e; exact ⟨_, hK, rfl⟩
    refine ⟨_, cells2_ret rfl (blk_kept hr hgr hrr) (blk_kept ho hgr hrr) rfl rfl Try.underlying3 rfl Try.underlying4 rfl, ?_⟩
    unfold findV
    rw [hres.out]
    exact ⟨rfl, chg_kept hc hml hgr (fun r e => by cases e; exact ⟨hD, _, hK, rfl⟩)⟩

end Go.Proofs.Ytpmfooeifhhfkaa
