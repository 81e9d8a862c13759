/-
  What the laws of model use: an operation done, operations as arguments, outcomes compared, all words of the memory.
-/
import Derived.Test.YtedginkenmafmaaGreatDoorModelG
import Derived.Test.YtedginkenmafmaaGreatDoorG1
import Derived.Test.YtedginkenmafmaaGreatDoorG7
import Derived.Test.YtedginkenmafmaaGreatDoorG0
namespace Go.Proofs.YtedginkenmafmaaGreatDoor
open Go.RowKit Go.Shelf Go.Maps

/-- a slice of one's own words is a slice of words -/
theorem ownI_slu {w : World} {t : TypeId} {A : Option Addr} {n c : Nat} {L : List Int} (h : OwnI w t .u64 (.slice A n c) L) : SlU w A n L := by
  have hn := h.slice
  subst hn
  exact own_slu h
theorem Far.slu {F : List Nat} {w w' : World} {A : Option Addr} {n : Nat} {xs : List Int} (f : Far F w w') (hs : SlU w A n xs) (hA : ∀ g o, A = some ⟨g, o, none⟩ → g ∈ F) : SlU w' A n xs := by
  obtain ⟨S, hc, hd⟩ := f
  exact hs.chg hc fun g o e hm => hd g hm (hA g o e)
theorem Far.sla {F : List Nat} {w w' : World} {A : Option Addr} {n : Nat} {l : List (Int × Int)} (f : Far F w w') (hs : SlA w A n l) (hA : ∀ g o, A = some ⟨g, o, none⟩ → g ∈ F) : SlA w' A n l := by
  obtain ⟨S, hc, hd⟩ := f
  exact hs.chg hc fun g o e hm => hd g hm (hA g o e)

/-- an operation lies here -/
structure OpMC (w : World) (b o : Nat) (x : OpM) : Prop where
  c0 : w.cell? ⟨b, o, none⟩ = some (.int .i64 x.what)
  c1 : w.cell? ⟨b, o + 1, none⟩ = some (.int .i64 x.kind)
  c2 : w.cell? ⟨b, o + 2, none⟩ = some (.bool x.user)
  c3 : w.cell? ⟨b, o + 3, none⟩ = some (.int .u64 x.a)
  c4 : w.cell? ⟨b, o + 4, none⟩ = some (.int .u64 x.v)
  c5 : w.cell? ⟨b, o + 5, none⟩ = some (.int .i64 x.g)
  c6 : w.cell? ⟨b, o + 6, none⟩ = some (.int .i64 x.i)
  c7 : w.cell? ⟨b, o + 7, none⟩ = some (.int .i64 x.page)
theorem OpMC.chg {S : List Nat} {w w' : World} {b o : Nat} {x : OpM} (h : OpMC w b o x) (hc : Chg S w w') (hb : b < w.heap.size) (hn : b ∉ S) : OpMC w' b o x :=
  have e : ∀ i, w'.cell? ⟨b, i, none⟩ = w.cell? ⟨b, i, none⟩ := fun i => hc.cell (p := ⟨b, i, none⟩) hb hn
  ⟨(e _).trans h.c0, (e _).trans h.c1, (e _).trans h.c2, (e _).trans h.c3, (e _).trans h.c4, (e _).trans h.c5, (e _).trans h.c6, (e _).trans h.c7⟩
/-- a slice of operations, nil let in, reads as this list -/
structure SlM (w : World) (A : Option Addr) (n : Nat) (l : List OpM) : Prop where
  le : n ≤ 9223372036854775807
  len : l.length = n
  wf : ∀ x ∈ l, x.Wf
  at_ : 0 < n → ∃ b off, A = some ⟨b, off, none⟩ ∧ b < w.heap.size ∧ ∀ j x, l[j]? = some x → OpMC w b (off + j * 8) x
theorem SlM.new {w w' : World} {A : Option Addr} {n : Nat} {l : List OpM} (h : SlM w A n l) (hc : Chg [] w w') : SlM w' A n l :=
  ⟨h.le, h.len, h.wf, fun h0 => by
    obtain ⟨b, off, e, hb, hr⟩ := h.at_ h0
    exact ⟨b, off, e, Nat.lt_of_lt_of_le hb hc.size, fun j x hj => (hr j x hj).chg hc hb (by simp)⟩⟩
theorem SlM.get {w : World} {A : Option Addr} {n : Nat} {l : List OpM} (h : SlM w A n l) {k : Nat} (hk : k < n) :
    ∃ b off x, A = some ⟨b, off, none⟩ ∧ b < w.heap.size ∧ l[k]? = some x ∧ x.Wf ∧ OpMC w b (off + k * 8) x := by
  obtain ⟨b, off, e, hb, hr⟩ := h.at_ (by omega)
  have hl := h.len
  have hj : l[k]? = some (l[k]'(by omega)) := List.getElem?_eq_getElem (by omega)
  exact ⟨b, off, _, e, hb, hj, h.wf _ (List.getElem_mem _), hr k _ hj⟩

/-- eight cells of a block -/
theorem blk8 {w : World} {g : Nat} {t : TypeId} {x0 x1 x2 x3 x4 x5 x6 x7 : Value} (h : Blk w g t #[x0, x1, x2, x3, x4, x5, x6, x7]) :
    w.cell? ⟨g, 0, none⟩ = some x0 ∧ w.cell? ⟨g, 1, none⟩ = some x1 ∧ w.cell? ⟨g, 2, none⟩ = some x2 ∧ w.cell? ⟨g, 3, none⟩ = some x3 ∧ w.cell? ⟨g, 4, none⟩ = some x4 ∧ w.cell? ⟨g, 5, none⟩ = some x5 ∧ w.cell? ⟨g, 6, none⟩ = some x6 ∧ w.cell? ⟨g, 7, none⟩ = some x7 :=
  ⟨h.cell 0, h.cell 1, h.cell 2, h.cell 3, h.cell 4, h.cell 5, h.cell 6, h.cell 7⟩

/-- are two outcomes the same? -/
def Ot.eqb (a b : Ot) : Bool := a.how == b.how && (a.v == b.v && (a.code == b.code && a.a == b.a))
theorem Ot.eqb_iff (a b : Ot) : a.eqb b = true ↔ a = b := by
  cases a; cases b
  simp [Ot.eqb]
theorem Ot.eqb_self (a : Ot) : a.eqb a = true := (Ot.eqb_iff a a).2 rfl
theorem Ot.eqb_ne {a b : Ot} (h : a ≠ b) : a.eqb b = false := by rw [← Bool.not_eq_true, Ot.eqb_iff]; exact h
set_option maxRecDepth 100000 in
theorem run_inO (a b : Ot) (w : World) : (Op.equalIn 10000 37 (.agg a.cs) (.agg b.cs)).run Tryz.prog w = .ok (a.eqb b) w := by
  unfold Ot.cs
  rw [run_equalIn_struct w 9999 _ _ _ (by kernel_rfl) (by kernel_rfl)]
  simp only [Program.fieldsOf, Tryz.underlying37]
  have i1 := fun (n : Nat) (x y : Int) => run_equalIn_int (P := Tryz.prog) w n 3 .i64 .i64 x y Tryz.underlying3
  have i2 := fun (n : Nat) (x y : Int) => run_equalIn_int (P := Tryz.prog) w n 33 .u64 .u64 x y Tryz.underlying33
  refine fields_step (c := a.how == b.how) (by decide) (part_int w _ .i64 Tryz.underlying3 _ 0 a.how rfl) (part_int w _ .i64 Tryz.underlying3 _ 0 b.how rfl) (i1 _ _ _) ?_
  refine fields_step (c := a.v == b.v) (by decide) (part_int w _ .u64 Tryz.underlying33 _ 1 a.v rfl) (part_int w _ .u64 Tryz.underlying33 _ 1 b.v rfl) (i2 _ _ _) ?_
  refine fields_step (c := a.code == b.code) (r := a.a == b.a) (by decide) (part_int w _ .i64 Tryz.underlying3 _ 2 a.code rfl) (part_int w _ .i64 Tryz.underlying3 _ 2 b.code rfl) (i1 _ _ _) ?_
  rw [show (a.a == b.a) = ((a.a == b.a) && true) from (Bool.and_true _).symm]
  exact fields_step (c := a.a == b.a) (r := true) (by decide) (part_int w _ .u64 Tryz.underlying33 _ 3 a.a rfl) (part_int w _ .u64 Tryz.underlying33 _ 3 b.a rfl) (i2 _ _ _) fields_nil
theorem run_eqO (h v c a h' v' c' a' : Int) (w : World) : (binOp .eql 37 (.agg #[.int .i64 h, .int .u64 v, .int .i64 c, .int .u64 a]) (.agg #[.int .i64 h', .int .u64 v', .int .i64 c', .int .u64 a'])).run Tryz.prog w = .ok (.bool (Ot.eqb ⟨h, v, c, a⟩ ⟨h', v', c', a'⟩)) w := by
  have := run_inO ⟨h, v, c, a⟩ ⟨h', v', c', a'⟩ w
  unfold Ot.cs at this
  rw [run_eql_struct, this]; rfl
theorem run_neO (h v c a h' v' c' a' : Int) (w : World) : (binOp .neq 37 (.agg #[.int .i64 h, .int .u64 v, .int .i64 c, .int .u64 a]) (.agg #[.int .i64 h', .int .u64 v', .int .i64 c', .int .u64 a'])).run Tryz.prog w = .ok (.bool (!Ot.eqb ⟨h, v, c, a⟩ ⟨h', v', c', a'⟩)) w := by
  have := run_inO ⟨h, v, c, a⟩ ⟨h', v', c', a'⟩ w
  unfold Ot.cs at this
  rw [run_neq_struct, this]; rfl

section
variable {w0 w : World} {F : List Nat} {m t q p h b n : Nat} {S : List Nat} {L : List Int} {s : Ms}
/-- all words of the memory -/
theorem MWords_b (H : ModB w0 F w m t q S p L h b n s) : Calls Tryz.prog 32 #[.pointer (some ⟨q, 0, none⟩)] w fun e w' =>
    ∃ g c, e = .returned (.slice (some ⟨g, 0, none⟩) (8 * L.length) c) ∧ ModB w0 (g :: F) w' m t q S p L h b n s ∧ Chg [] w w' ∧ SlU w' (some ⟨g, 0, none⟩) (8 * L.length) (allG s.W L) ∧ w.heap.size ≤ g := by
  have hl := H.gu.ok
  refine (GuAll_at q S p L h b n s.W w H.gu).mono ?_; rintro e w' ⟨A, c, rfl, hc, ho, hg⟩
  obtain ⟨g, c', e, _, _⟩ := ho.pos_ (by rw [allG_len]; omega)
  injection e with e1 e2 e3
  subst e1; subst e3
  have hgg := hg g (by simp [Value.ownBlock])
  have hlt := ho.lt g (by simp [Value.ownBlock])
  exact ⟨g, _, rfl, H.more (G := [g]) hc (by intro i hi; simp at hi; subst hi; exact ⟨hgg, hlt⟩), hc, ownI_slu ho, hgg⟩

set_option maxRecDepth 100000 in
set_option maxHeartbeats 8000000 in
theorem DoM_b (o : OpM) (hw : o.Wf) (H : ModB w0 F w m t q S p L h b n s) :
    Calls Tryz.prog 34 #[.pointer (some ⟨m, 0, none⟩), o.val] w fun e w' => e = .returned (.agg (doM n L s o).2.cs) ∧ ModB w0 F w' m t q S p L h b n (doM n L s o).1 ∧ Far F w w' := by
  obtain ⟨what, kind, user, a, v, g, i, page⟩ := o
  obtain ⟨ha, hv, _, _⟩ := hw
  simp only at ha hv
  have hc2 : Chg [] w ((w.alloc (.cells #[.int .i64 what, .int .i64 kind, .bool user, .int .u64 a, .int .u64 v, .int .i64 g, .int .i64 i, .int .i64 page] 35)).alloc (.cells #[.int .i64 0, .int .u64 0, .int .i64 0, .int .u64 0] 37)) := ((Chg.refl [] w).alloc _).alloc _
  have bx := (Blk.new w 35 #[.int .i64 what, .int .i64 kind, .bool user, .int .u64 a, .int .u64 v, .int .i64 g, .int .i64 i, .int .i64 page]).alloc (.cells #[.int .i64 0, .int .u64 0, .int .i64 0, .int .u64 0] 37)
  have bo := Blk.new (w.alloc (.cells #[.int .i64 what, .int .i64 kind, .bool user, .int .u64 a, .int .u64 v, .int .i64 g, .int .i64 i, .int .i64 page] 35)) 37 #[.int .i64 0, .int .u64 0, .int .i64 0, .int .u64 0]
  rw [World.size_alloc] at bo
  have H2 := H.more (G := [w.heap.size, w.heap.size + 1]) hc2 (by intro i hi; simp at hi; simp; omega)
  have hs0 : w0.heap.size ≤ w.heap.size + 1 := by have := H.c0.size; omega
  have nF : Hid (w.heap.size + 1 ∉ F) := Lib.hid (fun hm => by have := H.tb.2.1 _ (List.mem_append.2 (.inr hm)); omega)
  clear H
  simp only [OpM.val]
  obtain ⟨x0, x1, x2, x3, x4, x5, x6, x7⟩ := blk8 bx
  have f2 : Far F w _ := Far.of_new hc2
  have hne : ¬ w.heap.size + 1 = w.heap.size := by omega
  have hne2 : ¬ w.heap.size = w.heap.size + 1 := by omega
  generalize hw2 : (w.alloc (.cells #[.int .i64 what, .int .i64 kind, .bool user, .int .u64 a, .int .u64 v, .int .i64 g, .int .i64 i, .int .i64 page] 35)).alloc (.cells #[.int .i64 0, .int .u64 0, .int .i64 0, .int .u64 0] 37) = w2 at *
  by_cases h4 : what = 4
  · subst h4
    have hC := MEdit_b g i v hv H2
    rw [show doM n L s ⟨4, kind, user, a, v, g, i, page⟩ = editM n L s g i v from by rfl]
    generalize editM n L s g i v = tt at *
    obtain ⟨s3, ⟨oh, ov, oc, oa⟩⟩ := tt
    simp only [Ot.cs] at *
    subst hw2
    go_enter Tryz.func34, Tryz.ntmps34
    go_wp2_with fail
    refine hC.mono ?_; rintro e w3 ⟨rfl, H3, f3⟩
    have bo3 := f3.blk bo (by simp)
    obtain ⟨r0, r1, r2, r3, z0, z1, z2, z3⟩ := blk4 bo3
    clear hC bo bx x0 x1 x2 x3 x4 x5 x6 x7
    go_wp2_with fail
    refine bodyPost_ret (cell_ret rfl (set4 bo3) rfl Tryz.underlying37 rfl (by kernel_rfl)) rfl ?_
    have hk := chg4 (y0 := .int .i64 oh) (y1 := .int .u64 ov) (y2 := .int .i64 oc) (y3 := .int .u64 oa) (g := w.heap.size + 1) (Chg.refl [w.heap.size + 1] w3) (by simp)
    exact ⟨rfl, (H3.turn (by simp) hk hs0).less (fun i hi => by simp [hi]), (f2.trans (f3.less (fun i hi => by simp [hi]))).trans ⟨_, hk, by simpa using nF.out⟩⟩
  by_cases h5 : what = 5
  · subst h5
    have hC := MForget_b page H2
    rw [show doM n L s ⟨5, kind, user, a, v, g, i, page⟩ = (forgetM s page, Ot.zero) from by rfl]
    simp only [Ot.cs, Ot.zero]
    subst hw2
    go_enter Tryz.func34, Tryz.ntmps34
    go_wp2_with fail
    refine hC.mono ?_; rintro e w3 ⟨rfl, H3, f3⟩
    have bo3 := f3.blk bo (by simp)
    obtain ⟨r0, r1, r2, r3, z0, z1, z2, z3⟩ := blk4 bo3
    clear hC bo bx x0 x1 x2 x3 x4 x5 x6 x7
    go_wp2_with fail
    refine bodyPost_ret (cell_ret rfl (set4 bo3) rfl Tryz.underlying37 rfl (by kernel_rfl)) rfl ?_
    have hk := chg4 (y0 := .int .i64 0) (y1 := .int .u64 0) (y2 := .int .i64 0) (y3 := .int .u64 0) (g := w.heap.size + 1) (Chg.refl [w.heap.size + 1] w3) (by simp)
    exact ⟨rfl, (H3.turn (by simp) hk hs0).less (fun i hi => by simp [hi]), (f2.trans (f3.less (fun i hi => by simp [hi]))).trans ⟨_, hk, by simpa using nF.out⟩⟩
  by_cases h6 : what = 6
  · subst h6
    have hC := MRoot_b g H2
    rw [show doM n L s ⟨6, kind, user, a, v, g, i, page⟩ = (rootM s g, Ot.zero) from by rfl]
    simp only [Ot.cs, Ot.zero]
    subst hw2
    go_enter Tryz.func34, Tryz.ntmps34
    go_wp2_with fail
    refine hC.mono ?_; rintro e w3 ⟨rfl, H3, f3⟩
    have bo3 := f3.blk bo (by simp)
    obtain ⟨r0, r1, r2, r3, z0, z1, z2, z3⟩ := blk4 bo3
    clear hC bo bx x0 x1 x2 x3 x4 x5 x6 x7
    go_wp2_with fail
    refine bodyPost_ret (cell_ret rfl (set4 bo3) rfl Tryz.underlying37 rfl (by kernel_rfl)) rfl ?_
    have hk := chg4 (y0 := .int .i64 0) (y1 := .int .u64 0) (y2 := .int .i64 0) (y3 := .int .u64 0) (g := w.heap.size + 1) (Chg.refl [w.heap.size + 1] w3) (by simp)
    exact ⟨rfl, (H3.turn (by simp) hk hs0).less (fun i hi => by simp [hi]), (f2.trans (f3.less (fun i hi => by simp [hi]))).trans ⟨_, hk, by simpa using nF.out⟩⟩
  by_cases h7 : what = 7
  · subst h7
    have hC := MFind_b page H2
    rw [show doM n L s ⟨7, kind, user, a, v, g, i, page⟩ = (findM n L s page, Ot.zero) from by rfl]
    simp only [Ot.cs, Ot.zero]
    subst hw2
    go_enter Tryz.func34, Tryz.ntmps34
    go_wp2_with fail
    refine hC.mono ?_; rintro e w3 ⟨rfl, H3, f3⟩
    have bo3 := f3.blk bo (by simp)
    obtain ⟨r0, r1, r2, r3, z0, z1, z2, z3⟩ := blk4 bo3
    clear hC bo bx x0 x1 x2 x3 x4 x5 x6 x7
    go_wp2_with fail
    refine bodyPost_ret (cell_ret rfl (set4 bo3) rfl Tryz.underlying37 rfl (by kernel_rfl)) rfl ?_
    have hk := chg4 (y0 := .int .i64 0) (y1 := .int .u64 0) (y2 := .int .i64 0) (y3 := .int .u64 0) (g := w.heap.size + 1) (Chg.refl [w.heap.size + 1] w3) (by simp)
    exact ⟨rfl, (H3.turn (by simp) hk hs0).less (fun i hi => by simp [hi]), (f2.trans (f3.less (fun i hi => by simp [hi]))).trans ⟨_, hk, by simpa using nF.out⟩⟩
  have hC := MAcc_b kind user a v ha hv H2
  rw [show doM n L s ⟨what, kind, user, a, v, g, i, page⟩ = accM n L s kind user a v from by unfold doM; simp only [if_neg h4, if_neg h5, if_neg h6, if_neg h7]]
  generalize accM n L s kind user a v = tt at *
  obtain ⟨s3, ⟨oh, ov, oc, oa⟩⟩ := tt
  simp only [Ot.cs] at *
  subst hw2
  go_enter Tryz.func34, Tryz.ntmps34
  go_wp2_with fail
  refine hC.mono ?_; rintro e w3 ⟨rfl, H3, f3⟩
  have bo3 := f3.blk bo (by simp)
  obtain ⟨r0, r1, r2, r3, z0, z1, z2, z3⟩ := blk4 bo3
  clear hC bo bx x0 x1 x2 x3 x4 x5 x6 x7
  go_wp2_with fail
  refine bodyPost_ret (cell_ret rfl (set4 bo3) rfl Tryz.underlying37 rfl (by kernel_rfl)) rfl ?_
  have hk := chg4 (y0 := .int .i64 oh) (y1 := .int .u64 ov) (y2 := .int .i64 oc) (y3 := .int .u64 oa) (g := w.heap.size + 1) (Chg.refl [w.heap.size + 1] w3) (by simp)
  exact ⟨rfl, (H3.turn (by simp) hk hs0).less (fun i hi => by simp [hi]), (f2.trans (f3.less (fun i hi => by simp [hi]))).trans ⟨_, hk, by simpa using nF.out⟩⟩
end

end Go.Proofs.YtedginkenmafmaaGreatDoor
