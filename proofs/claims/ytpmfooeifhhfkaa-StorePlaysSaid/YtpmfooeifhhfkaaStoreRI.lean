/-
  The document's store: set.
-/
import Derived.Test.YtpmfooeifhhfkaaStoreRH
import Derived.StillTailTactics
import Derived.Deep.CutRange
namespace Go.Proofs.Ytpmfooeifhhfkaa
open Go.RowKit Go.Maps
theorem Slot14_info : ((Try.prog.info? 45).map (fun i => (i.zero, i.size, i.bytes))) = some (some (.agg #[.int .i64 0, .int .i64 0, .bool false, .bool false, .bool false]), 5, 24) := by kernel_rfl
/-- the block of an address -/
def lB (A : Option Addr) : List Nat := (A.map Addr.block).toList
theorem own_pos {α : Type} {E : Enc α} {w : World} {t : TypeId} {v : Value} {L : List α} (h : OwnG E w t v L) (h0 : 0 < L.length) : ∃ g c, v = .slice (some ⟨g, 0, none⟩) L.length c ∧ g < w.heap.size := by
  obtain ⟨A, c, e, hn, ha⟩ := h.form
  cases A with
  | none => have := (hn rfl).1; omega
  | some a => obtain ⟨g, rfl, hg⟩ := ha a rfl; exact ⟨g, c, e, hg⟩
section
variable {q rp rb fp n a m : Nat} {s : Sr} {LA : Option Addr} {lc : Nat} {R : List (Option Addr × Nat)} {FS : List Nat}
/-- what a set leaves -/
def SetQ (q rp rb fp n a m : Nat) (s : Sr) (LA : Option Addr) (lc : Nat) (R : List (Option Addr × Nat)) (FS : List Nat) (j : Nat) (pf : Int) (i : Nat) (x : Slt) (f : Int) (w : World) (e : Ending) (w' : World) : Prop :=
  e = .returned (.tuple #[]) ∧ ∃ r', RStX w' q rp rb fp n a m (setS n s pf i x f) LA lc (R.set j r') FS ∧ Chg (rb :: lB LA) w w' ∧ ∃ g, r'.1 = some ⟨g, 0, none⟩ ∧ w.heap.size ≤ g
set_option maxRecDepth 100000 in
set_option maxHeartbeats 4000000 in
theorem Rset_yes (j : Nat) (pg : Pg) (i : Nat) (x : Slt) (f : Int) (w : World) (h : RStX w q rp rb fp n a m s LA lc R FS) (hnd : (s.L.map Pg.f).Nodup) (hq : s.L[j]? = some pg) (h8 : pg.s.length = 8) (hi : i < 8) (hk : x.kind ≠ 0 ∧ 0 ≤ f ∧ f < 1048576) :
    Calls Try.prog 78 #[.pointer (some ⟨q, 0, none⟩), .int .i64 j, .int .i64 i, .agg x.cl.toArray, .int .i64 f] w (SetQ q rp rb fp n a m s LA lc R FS j pg.f i x f w) := by
  have hj := (List.getElem?_eq_some_iff.1 hq).1
  have hjl : (j : Int) < (s.L.length : Int) := by omega
  have hi8 : (i : Int) < 8 := by omega
  have hsetp := setP_set hnd hq i x
  have hwd : wordS x f = (putV (entS x f) : Nat) := by unfold wordS; rw [if_neg hk.1]
  simp only [entS] at hwd
  have hP := fun w' => RPut_at (entS x f) w'
  obtain ⟨kd, tt, ⟨rw_, ru, rx⟩⟩ := x
  simp only at hk hwd
  simp only [entS, Ent.cs] at hP
  have hkb : (kd != 0) = true := by simpa using hk.1
  clear hk
  simp only [Slt.cl]
  have y1 := (Chg.refl [] w).alloc (.cells #[.int .i64 kd, .int .i64 tt, .bool rw_, .bool ru, .bool rx] 45)
  have bx := Blk.new w 45 #[.int .i64 kd, .int .i64 tt, .bool rw_, .bool ru, .bool rx]
  have hxl : w.heap.size < (w.alloc (.cells #[.int .i64 kd, .int .i64 tt, .bool rw_, .bool ru, .bool rx] 45)).heap.size := by simp
  have x0 := bx.cell 0; have x1 := bx.cell 1; have x2 := bx.cell 2; have x3 := bx.cell 3; have x4 := bx.cell 4
  simp only [List.getElem?_toArray, List.getElem?_cons_zero, List.getElem?_cons_succ] at x0 x1 x2 x3 x4
  generalize hw1 : w.alloc (.cells #[.int .i64 kd, .int .i64 tt, .bool rw_, .bool ru, .bool rx] 45) = w1 at *
  replace hw1 := Lib.hid hw1
  obtain ⟨xb, hxb⟩ : ∃ xb, w.heap.size = xb := ⟨_, rfl⟩
  rw [hxb] at bx hxl x0 x1 x2 x3 x4
  generalize hpv : ((putV _ : Nat) : Int) = pv at hP hwd
  replace hpv := Lib.hid hpv
  go_enter Try.func78, Try.ntmps78
  go_upto_region 3 with fail
  (try rw [hw1.out])
  go_wp2_with fail
  refine (hP _).mono ?_; rintro e w2 ⟨rfl, y2⟩
  clear hP
  have bx2 := bx.chg_ y2 (by simp)
  have hxl2 := Nat.lt_of_lt_of_le hxl y2.size
  replace y2 := y1.trans y2 (by simp)
  go_upto_region 5 with fail
  clear x0 x1 x2 x3 x4 bx hxl y1 hw1
  have y3 := y2.alloc (.cells #[] 45)
  have hr3 := h.new y3
  have q3 := hr3.st.cell 2
  simp only [List.getElem?_toArray, List.getElem?_cons_zero, List.getElem?_cons_succ] at q3
  obtain ⟨b, ⟨rA, rc⟩, cs, rfl, hrr, hbk, _, _, _, _, d4⟩ := hr3.page0 hq
  have hown3 : OwnG sltE (w2.alloc (.cells #[] 45)) 45 (.slice (some ⟨w2.heap.size, 0, none⟩) 0 0) [] := OwnG.lit (E := sltE) (L := []) (Blk.new w2 45 #[]) (by simp)
  have hsrc3 := (hr3.hs j pg (rA, rc) hq hrr).src
  simp only at d4 hsrc3
  have bx3 := bx2.alloc (.cells #[] 45)
  go_upto_region 6 with (at_builtin; (refine wpList_append_G (E := sltE) rfl _ _ 74 rfl 45 (.agg #[.int .i64 0, .int .i64 0, .bool false, .bool false, .bool false]) 24 Try.underlying74 Slot14_info rfl (.slice (some ⟨w2.heap.size, 0, none⟩) 0 0) [] rfl hown3 rA 8 rc pg.s rfl hsrc3 h8 (by simp) ?_); (intro v5 w5 ho5 hc5 hb5); (rw [List.nil_append] at ho5); (obtain ⟨g5, c5, rfl, hg5⟩ := own_pos ho5 (by omega)); (rw [h8] at ho5 hb5 ⊢))
  have hge5 : w.heap.size ≤ g5 := by
    have h2 := y2.size
    rcases hb5 with e | e
    · simp only [Value.ownBlock, Option.some.injEq] at e; omega
    · have h3 := y3.size; simp only [Value.ownBlock, Option.some.injEq] at e; omega
  have y5 : Chg [] w w5 := y3.trans hc5 (fun k_ hk_ hm => by have h2 := y2.size; simp [Value.ownBlock] at hm; omega)
  have bx5 := bx3.chg_ hc5 (by simp [Value.ownBlock]; omega)
  have hxg : xb ≠ g5 := by
    rcases hb5 with e | e
    · simp only [Value.ownBlock, Option.some.injEq] at e; omega
    · have h3 := bx3.lt; simp only [Value.ownBlock, Option.some.injEq] at e; omega
  clear hb5 hc5 hsrc3 hown3 hr3 q3 hbk d4 bx3 y3 y2 bx2 hrr
  obtain ⟨b8, o8, x8, eA, _, hx8, hat8⟩ := ho5.slg.get (k := i) (by omega)
  cases eA
  obtain ⟨t0, t1, t2, t3, t4⟩ := sltAt5 hat8
  simp only [show sltE.k = 5 from rfl, Nat.zero_add] at t0 t1 t2 t3 t4
  obtain ⟨cs5, hg5b⟩ := own_cells ho5 g5 (by simp [Value.ownBlock])
  have f0 := hg5b.frozen (i * 5); have f1 := hg5b.frozen (i * 5 + 1); have f2 := hg5b.frozen (i * 5 + 2); have f3 := hg5b.frozen (i * 5 + 3); have f4 := hg5b.frozen (i * 5 + 4)
  have x0 := bx5.cell 0; have x1 := bx5.cell 1; have x2 := bx5.cell 2; have x3 := bx5.cell 3; have x4 := bx5.cell 4
  simp only [List.getElem?_toArray, List.getElem?_cons_zero, List.getElem?_cons_succ] at x0 x1 x2 x3 x4
  have ho6 := OwnS.set5 ho5 (i := i) (by omega) (⟨kd, tt, ⟨rw_, ru, rx⟩⟩ : Slt)
  have k6 := chg_set5 w5 g5 (i * 5) (⟨kd, tt, ⟨rw_, ru, rx⟩⟩ : Slt)
  have y6 := y5.trans k6 (fun k_ hk_ hm => by simp only [List.mem_singleton] at hm; omega)
  unfold set5 at ho6 y6
  simp only at ho6 y6
  go_upto_region 7 with fail
  clear t0 t1 t2 t3 t4 f0 f1 f2 f3 f4 x0 x1 x2 x3 x4 bx5 hg5b hat8 hx8 hxg k6 ho5 y5
  generalize (((((w5.setCell ⟨g5, i * 5, none⟩ (.int .i64 kd)).setCell ⟨g5, i * 5 + 1, none⟩ (.int .i64 tt)).setCell ⟨g5, i * 5 + 2, none⟩ (.bool rw_)).setCell ⟨g5, i * 5 + 3, none⟩ (.bool ru)).setCell ⟨g5, i * 5 + 4, none⟩ (.bool rx)) = w6 at *
  have hr6 := h.new y6
  have q6 := hr6.st.cell 2
  simp only [List.getElem?_toArray, List.getElem?_cons_zero, List.getElem?_cons_succ] at q6
  obtain ⟨b', ⟨rA', rc'⟩, cs', eb, hrr, hbk, d0, _, _, _, d4⟩ := hr6.page0 hq
  cases eb
  have f4 := hbk.frozen (j * 5 + 4)
  have hput := hr6.put (r := (some ⟨g5, 0, none⟩, c5)) hq ho6
  rw [← hsetp] at hput
  have y7 : Chg [b] w (w6.setCell ⟨b, j * 5 + 4, none⟩ (.slice (some ⟨g5, 0, none⟩) 8 c5)) := (y6.weak (by simp)).trans ((Chg.refl [b] w6).setCell (p := ⟨b, j * 5 + 4, none⟩) (by simp) _) (fun _ _ h => h)
  simp only at hput
  go_upto_region 8 with fail
  clear q6 d0 d4 f4 hbk y6 hr6 ho6
  generalize w6.setCell ⟨b, j * 5 + 4, none⟩ (.slice (some ⟨g5, 0, none⟩) 8 c5) = w7 at *
  have hLj : (setP s.L pg.f i (⟨kd, tt, ⟨rw_, ru, rx⟩⟩ : Slt))[j]? = some ⟨pg.f, pg.k, pg.s.set i (⟨kd, tt, ⟨rw_, ru, rx⟩⟩ : Slt)⟩ := by rw [hsetp, List.getElem?_set, if_pos rfl, if_pos hj]
  have hll : (setP s.L pg.f i (⟨kd, tt, ⟨rw_, ru, rx⟩⟩ : Slt)).length = s.L.length := (setP_map _ _ _).2.2
  have hset := RSet_at rp rb n s.W pg.f i pv w7.drew (hput.new (Chg.refl [] w7).drew).hm
  have q7 := hput.st
  simp only [hll] at q7
  have q0 := q7.cell 0; have q2 := q7.cell 2
  simp only [List.getElem?_toArray, List.getElem?_cons_zero, List.getElem?_cons_succ] at q0 q2
  obtain ⟨b', r', cs', eb, _, _, d0, _⟩ := hput.page0 hLj
  cases eb
  simp only at d0
  have hfin : ∀ w', Chg [rb] w7.drew w' → RMemAt w' rp rb n (setW n s.W pg.f i pv) → SetQ q rp rb fp n a m s (some ⟨b, 0, none⟩) lc R FS j pg.f i (⟨kd, tt, ⟨rw_, ru, rx⟩⟩ : Slt) f w (.returned (.tuple #[])) w' := by
    intro w' y8 hm8
    have h8' := (hput.new (Chg.refl [] w7).drew).words y8 hm8
    refine ⟨rfl, (some ⟨g5, 0, none⟩, c5), ?_, ?_, g5, rfl, hge5⟩
    · have e : setS n s pg.f i (⟨kd, tt, ⟨rw_, ru, rx⟩⟩ : Slt) f = ⟨setP s.L pg.f i (⟨kd, tt, ⟨rw_, ru, rx⟩⟩ : Slt), s.fr, setW n s.W pg.f i pv⟩ := by unfold setS; rw [hwd]; simp
      rw [e]; exact h8'
    · exact ((y7.drew).weak (T := rb :: lB (some ⟨b, 0, none⟩)) (fun k_ _ hk_ => by simp only [List.mem_singleton] at hk_; subst hk_; simp [lB])).trans y8 (fun k_ _ hk_ => by simp only [List.mem_singleton] at hk_; subst hk_; simp)
  clear hput h hq y7 hLj hll q7 hsetp hwd
  refine wp_region_still_tail 14 (by kernel_rfl) (by kernel_rfl) ?_
  simp only [List.take_succ_cons, List.take_zero, List.drop_succ_cons, List.drop_zero]
  change wpStill _ _ (World.drew _) _ _ _
  iterate 14 still_step
  refine wpStill_nil ?_
  change wpList _ _ _ _ _ (World.drew w7)
  go_wp2_with fail
  refine hset.mono ?_; rintro e w8 ⟨rfl, y8, hm8⟩
  go_wp2_with fail
  go_end0
  exact hfin w8 y8 hm8
set_option maxRecDepth 100000 in
set_option maxHeartbeats 4000000 in
theorem Rset_no (j : Nat) (pg : Pg) (i : Nat) (x : Slt) (f : Int) (w : World) (h : RStX w q rp rb fp n a m s LA lc R FS) (hnd : (s.L.map Pg.f).Nodup) (hq : s.L[j]? = some pg) (h8 : pg.s.length = 8) (hi : i < 8) (hk : x.kind = 0) :
    Calls Try.prog 78 #[.pointer (some ⟨q, 0, none⟩), .int .i64 j, .int .i64 i, .agg x.cl.toArray, .int .i64 f] w (SetQ q rp rb fp n a m s LA lc R FS j pg.f i x f w) := by
  have hj := (List.getElem?_eq_some_iff.1 hq).1
  have hjl : (j : Int) < (s.L.length : Int) := by omega
  have hi8 : (i : Int) < 8 := by omega
  have hsetp := setP_set hnd hq i x
  have hwd : wordS x f = 0 := by unfold wordS; rw [if_pos hk]
  obtain ⟨kd, tt, ⟨rw_, ru, rx⟩⟩ := x
  simp only at hk
  subst hk
  simp only [Slt.cl]
  have y1 := (Chg.refl [] w).alloc (.cells #[.int .i64 0, .int .i64 tt, .bool rw_, .bool ru, .bool rx] 45)
  have bx := Blk.new w 45 #[.int .i64 0, .int .i64 tt, .bool rw_, .bool ru, .bool rx]
  have hxl : w.heap.size < (w.alloc (.cells #[.int .i64 0, .int .i64 tt, .bool rw_, .bool ru, .bool rx] 45)).heap.size := by simp
  have x0 := bx.cell 0; have x1 := bx.cell 1; have x2 := bx.cell 2; have x3 := bx.cell 3; have x4 := bx.cell 4
  simp only [List.getElem?_toArray, List.getElem?_cons_zero, List.getElem?_cons_succ] at x0 x1 x2 x3 x4
  generalize hw1 : w.alloc (.cells #[.int .i64 0, .int .i64 tt, .bool rw_, .bool ru, .bool rx] 45) = w1 at *
  replace hw1 := Lib.hid hw1
  obtain ⟨xb, hxb⟩ : ∃ xb, w.heap.size = xb := ⟨_, rfl⟩
  rw [hxb] at bx hxl x0 x1 x2 x3 x4
  go_enter Try.func78, Try.ntmps78
  go_upto_region 5 with fail
  (try rw [hw1.out])
  have y2 := y1
  have bx2 := bx
  have hxl2 := hxl
  obtain ⟨w2, hw2⟩ : ∃ w2, w1 = w2 := ⟨_, rfl⟩
  rw [hw2] at y2 bx2 hxl2 ⊢
  clear hw2
  clear x0 x1 x2 x3 x4 bx hxl y1 hw1
  have y3 := y2.alloc (.cells #[] 45)
  have hr3 := h.new y3
  have q3 := hr3.st.cell 2
  simp only [List.getElem?_toArray, List.getElem?_cons_zero, List.getElem?_cons_succ] at q3
  obtain ⟨b, ⟨rA, rc⟩, cs, rfl, hrr, hbk, _, _, _, _, d4⟩ := hr3.page0 hq
  have hown3 : OwnG sltE (w2.alloc (.cells #[] 45)) 45 (.slice (some ⟨w2.heap.size, 0, none⟩) 0 0) [] := OwnG.lit (E := sltE) (L := []) (Blk.new w2 45 #[]) (by simp)
  have hsrc3 := (hr3.hs j pg (rA, rc) hq hrr).src
  simp only at d4 hsrc3
  have bx3 := bx2.alloc (.cells #[] 45)
  go_upto_region 6 with (at_builtin; (refine wpList_append_G (E := sltE) rfl _ _ 74 rfl 45 (.agg #[.int .i64 0, .int .i64 0, .bool false, .bool false, .bool false]) 24 Try.underlying74 Slot14_info rfl (.slice (some ⟨w2.heap.size, 0, none⟩) 0 0) [] rfl hown3 rA 8 rc pg.s rfl hsrc3 h8 (by simp) ?_); (intro v5 w5 ho5 hc5 hb5); (rw [List.nil_append] at ho5); (obtain ⟨g5, c5, rfl, hg5⟩ := own_pos ho5 (by omega)); (rw [h8] at ho5 hb5 ⊢))
  have hge5 : w.heap.size ≤ g5 := by
    have h2 := y2.size
    rcases hb5 with e | e
    · simp only [Value.ownBlock, Option.some.injEq] at e; omega
    · have h3 := y3.size; simp only [Value.ownBlock, Option.some.injEq] at e; omega
  have y5 : Chg [] w w5 := y3.trans hc5 (fun k_ hk_ hm => by have h2 := y2.size; simp [Value.ownBlock] at hm; omega)
  have bx5 := bx3.chg_ hc5 (by simp [Value.ownBlock]; omega)
  have hxg : xb ≠ g5 := by
    rcases hb5 with e | e
    · simp only [Value.ownBlock, Option.some.injEq] at e; omega
    · have h3 := bx3.lt; simp only [Value.ownBlock, Option.some.injEq] at e; omega
  clear hb5 hc5 hsrc3 hown3 hr3 q3 hbk d4 bx3 y3 y2 bx2 hrr
  obtain ⟨b8, o8, x8, eA, _, hx8, hat8⟩ := ho5.slg.get (k := i) (by omega)
  cases eA
  obtain ⟨t0, t1, t2, t3, t4⟩ := sltAt5 hat8
  simp only [show sltE.k = 5 from rfl, Nat.zero_add] at t0 t1 t2 t3 t4
  obtain ⟨cs5, hg5b⟩ := own_cells ho5 g5 (by simp [Value.ownBlock])
  have f0 := hg5b.frozen (i * 5); have f1 := hg5b.frozen (i * 5 + 1); have f2 := hg5b.frozen (i * 5 + 2); have f3 := hg5b.frozen (i * 5 + 3); have f4 := hg5b.frozen (i * 5 + 4)
  have x0 := bx5.cell 0; have x1 := bx5.cell 1; have x2 := bx5.cell 2; have x3 := bx5.cell 3; have x4 := bx5.cell 4
  simp only [List.getElem?_toArray, List.getElem?_cons_zero, List.getElem?_cons_succ] at x0 x1 x2 x3 x4
  have ho6 := OwnS.set5 ho5 (i := i) (by omega) (⟨0, tt, ⟨rw_, ru, rx⟩⟩ : Slt)
  have k6 := chg_set5 w5 g5 (i * 5) (⟨0, tt, ⟨rw_, ru, rx⟩⟩ : Slt)
  have y6 := y5.trans k6 (fun k_ hk_ hm => by simp only [List.mem_singleton] at hm; omega)
  unfold set5 at ho6 y6
  simp only at ho6 y6
  go_upto_region 7 with fail
  clear t0 t1 t2 t3 t4 f0 f1 f2 f3 f4 x0 x1 x2 x3 x4 bx5 hg5b hat8 hx8 hxg k6 ho5 y5
  generalize (((((w5.setCell ⟨g5, i * 5, none⟩ (.int .i64 0)).setCell ⟨g5, i * 5 + 1, none⟩ (.int .i64 tt)).setCell ⟨g5, i * 5 + 2, none⟩ (.bool rw_)).setCell ⟨g5, i * 5 + 3, none⟩ (.bool ru)).setCell ⟨g5, i * 5 + 4, none⟩ (.bool rx)) = w6 at *
  have hr6 := h.new y6
  have q6 := hr6.st.cell 2
  simp only [List.getElem?_toArray, List.getElem?_cons_zero, List.getElem?_cons_succ] at q6
  obtain ⟨b', ⟨rA', rc'⟩, cs', eb, hrr, hbk, d0, _, _, _, d4⟩ := hr6.page0 hq
  cases eb
  have f4 := hbk.frozen (j * 5 + 4)
  have hput := hr6.put (r := (some ⟨g5, 0, none⟩, c5)) hq ho6
  rw [← hsetp] at hput
  have y7 : Chg [b] w (w6.setCell ⟨b, j * 5 + 4, none⟩ (.slice (some ⟨g5, 0, none⟩) 8 c5)) := (y6.weak (by simp)).trans ((Chg.refl [b] w6).setCell (p := ⟨b, j * 5 + 4, none⟩) (by simp) _) (fun _ _ h => h)
  simp only at hput
  go_upto_region 8 with fail
  clear q6 d0 d4 f4 hbk y6 hr6 ho6
  generalize w6.setCell ⟨b, j * 5 + 4, none⟩ (.slice (some ⟨g5, 0, none⟩) 8 c5) = w7 at *
  have hLj : (setP s.L pg.f i (⟨0, tt, ⟨rw_, ru, rx⟩⟩ : Slt))[j]? = some ⟨pg.f, pg.k, pg.s.set i (⟨0, tt, ⟨rw_, ru, rx⟩⟩ : Slt)⟩ := by rw [hsetp, List.getElem?_set, if_pos rfl, if_pos hj]
  have hll : (setP s.L pg.f i (⟨0, tt, ⟨rw_, ru, rx⟩⟩ : Slt)).length = s.L.length := (setP_map _ _ _).2.2
  have hset := RSet_at rp rb n s.W pg.f i 0 w7.drew (hput.new (Chg.refl [] w7).drew).hm
  have q7 := hput.st
  simp only [hll] at q7
  have q0 := q7.cell 0; have q2 := q7.cell 2
  simp only [List.getElem?_toArray, List.getElem?_cons_zero, List.getElem?_cons_succ] at q0 q2
  obtain ⟨b', r', cs', eb, _, _, d0, _⟩ := hput.page0 hLj
  cases eb
  simp only at d0
  have hfin : ∀ w', Chg [rb] w7.drew w' → RMemAt w' rp rb n (setW n s.W pg.f i 0) → SetQ q rp rb fp n a m s (some ⟨b, 0, none⟩) lc R FS j pg.f i (⟨0, tt, ⟨rw_, ru, rx⟩⟩ : Slt) f w (.returned (.tuple #[])) w' := by
    intro w' y8 hm8
    have h8' := (hput.new (Chg.refl [] w7).drew).words y8 hm8
    refine ⟨rfl, (some ⟨g5, 0, none⟩, c5), ?_, ?_, g5, rfl, hge5⟩
    · have e : setS n s pg.f i (⟨0, tt, ⟨rw_, ru, rx⟩⟩ : Slt) f = ⟨setP s.L pg.f i (⟨0, tt, ⟨rw_, ru, rx⟩⟩ : Slt), s.fr, setW n s.W pg.f i 0⟩ := by unfold setS; rw [hwd]; simp
      rw [e]; exact h8'
    · exact ((y7.drew).weak (T := rb :: lB (some ⟨b, 0, none⟩)) (fun k_ _ hk_ => by simp only [List.mem_singleton] at hk_; subst hk_; simp [lB])).trans y8 (fun k_ _ hk_ => by simp only [List.mem_singleton] at hk_; subst hk_; simp)
  clear hput h hq y7 hLj hll q7 hsetp hwd
  refine wp_region_still_tail 14 (by kernel_rfl) (by kernel_rfl) ?_
  simp only [List.take_succ_cons, List.take_zero, List.drop_succ_cons, List.drop_zero]
  change wpStill _ _ (World.drew _) _ _ _
  iterate 14 still_step
  refine wpStill_nil ?_
  change wpList _ _ _ _ _ (World.drew w7)
  go_wp2_with fail
  refine hset.mono ?_; rintro e w8 ⟨rfl, y8, hm8⟩
  go_wp2_with fail
  go_end0
  exact hfin w8 y8 hm8
end

end Go.Proofs.Ytpmfooeifhhfkaa
