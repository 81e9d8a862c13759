/-
 A statement that lays three variables which a closure captures, beside one call: a region that draws its order, whose orders are gone through here once. No program is named here.
-/
import Derived.Test.YtmbgepafpcbakaaGreatDoorGGaK
import Derived.OrdersHeld
namespace Go.Proofs.YtmbgepafpcbakaaGreatDoor
open Go.RowKit
section
variable {P : Program} {md : Region.Mode} {ops : Array Oper} {Q : Exit → Act → World → Prop} {S : World → Prop}
theorem op_of_wp {i : Nat} {o : Oper} {a : Act} {w : World} {K : Act → World → Prop} (hi : ops[i]? = some o) (hw : ∀ y, Region.wanted o y = true) (h : Oper.wp P o a w K Q) : wpOp P ops Q i K a w := by
 unfold wpOp
 simp only [hi, hw, if_true]
 exact .inl h
theorem wp_of_run {o : Oper} {a : Act} {w w' : World} {v : Value} {K : Act → World → Prop} (hr : (execOp a.eval o).run P w = .ok (.value v) w') (h : K (a.put o.dst v) w') : Oper.wp P o a w K Q := by
 unfold Oper.wp
 rw [hr]
 simpa [Oper.upon] using h
theorem SepC.drop3 {w0 w : World} {T : List Th} : ∀ (N : List Th), SepC w0 w (N ++ T) → SepC w0 w T
 | [], H => H
 | _ :: N, H => SepC.drop3 N H.tail
theorem anyH_one {k : Nat} {l : Array Bool} {a : Act} {w : World} {j : Nat} (hr : Region.ready md ops l = [j]) (h : wpOp P ops Q j (fun a' w' => S w' ∧ wpAnyH P md ops Q S k (l.setIfInBounds j true) a' w') a w) : wpAnyH P md ops Q S (k + 1) l a w :=
 ⟨(fun h0 => by rw [hr] at h0; cases h0), fun i hi => by rw [hr, List.mem_singleton] at hi; subst hi; exact h⟩
def newB (x4 x5 x6 : Bool) (b4 b5 b6 : Nat) (t4 t5 t6 : TypeId) (z4 z5 z6 : Value) : List Th :=
 (if x4 then [blkT b4 t4 #[z4]] else []) ++ ((if x5 then [blkT b5 t5 #[z5]] else []) ++ (if x6 then [blkT b6 t6 #[z6]] else []))
def cntB (c x4 x5 x6 : Bool) : Nat := (!c).toNat + (!x4).toNat + (!x5).toNat + (!x6).toNat
abbrev ptrB (b : Nat) : Value := .pointer (some ⟨b, 0, none⟩)
theorem boxes3 (iC i4 i5 i6 j4 j5 j6 : Nat) {oC o4 o5 o6 p4 p5 p6 : Oper} (lst : Bool → Bool → Bool → Bool → Bool → Bool → Bool → Array Bool) (at_ : Value → Value → Value → Value → Act)
  {t4 t5 t6 : TypeId} {z4 z5 z6 y4 y5 y6 xC : Value}
  (gC : ops[iC]? = some oC) (g4 : ops[i4]? = some o4) (g5 : ops[i5]? = some o5) (g6 : ops[i6]? = some o6) (h4 : ops[j4]? = some p4) (h5 : ops[j5]? = some p5) (h6 : ops[j6]? = some p6)
  (wC : ∀ y, Region.wanted oC y = true) (w4 : ∀ y, Region.wanted o4 y = true) (w5 : ∀ y, Region.wanted o5 y = true) (w6 : ∀ y, Region.wanted o6 y = true) (k4 : ∀ y, Region.wanted p4 y = true) (k5 : ∀ y, Region.wanted p5 y = true) (k6 : ∀ y, Region.wanted p6 y = true)
  (sC : ∀ x4 x5 x6, (lst false x4 x5 x6 false false false).setIfInBounds iC true = lst true x4 x5 x6 false false false)
  (s4 : ∀ c x5 x6, (lst c false x5 x6 false false false).setIfInBounds i4 true = lst c true x5 x6 false false false)
  (s5 : ∀ c x4 x6, (lst c x4 false x6 false false false).setIfInBounds i5 true = lst c x4 true x6 false false false)
  (s6 : ∀ c x4 x5, (lst c x4 x5 false false false false).setIfInBounds i6 true = lst c x4 x5 true false false false)
  (u4 : (lst true true true true false false false).setIfInBounds j4 true = lst true true true true true false false) (u5 : (lst true true true true true false false).setIfInBounds j5 true = lst true true true true true true false) (u6 : (lst true true true true true true false).setIfInBounds j6 true = lst true true true true true true true)
  (hR : ∀ c x4 x5 x6, (c && x4 && x5 && x6) = false → Region.ready md ops (lst c x4 x5 x6 false false false) = (if c then [] else [iC]) ++ ((if x4 then [] else [i4]) ++ ((if x5 then [] else [i5]) ++ (if x6 then [] else [i6]))))
  (hR4 : Region.ready md ops (lst true true true true false false false) = [j4]) (hR5 : Region.ready md ops (lst true true true true true false false) = [j5]) (hR6 : Region.ready md ops (lst true true true true true true false) = [j6]) (hR7 : Region.ready md ops (lst true true true true true true true) = [])
  (dC : ∀ v4 v5 v6 vC x, (at_ v4 v5 v6 vC).put oC.dst x = at_ v4 v5 v6 x) (d4 : ∀ v4 v5 v6 vC x, (at_ v4 v5 v6 vC).put o4.dst x = at_ x v5 v6 vC) (d5 : ∀ v4 v5 v6 vC x, (at_ v4 v5 v6 vC).put o5.dst x = at_ v4 x v6 vC) (d6 : ∀ v4 v5 v6 vC x, (at_ v4 v5 v6 vC).put o6.dst x = at_ v4 v5 x vC)
  (e4 : ∀ a : Act, a.put p4.dst undef = a) (e5 : ∀ a : Act, a.put p5.dst undef = a) (e6 : ∀ a : Act, a.put p6.dst undef = a)
  (rC : ∀ v4 v5 v6 vC u (K : Act → World → Prop), (∀ u', Chg [] u u' → K ((at_ v4 v5 v6 vC).put oC.dst xC) u') → Oper.wp P oC (at_ v4 v5 v6 vC) u K Q)
  (r4 : ∀ (a : Act) u, (execOp a.eval o4).run P u = .ok (.value (ptrB u.heap.size)) (u.alloc (.cells #[z4] t4))) (r5 : ∀ (a : Act) u, (execOp a.eval o5).run P u = .ok (.value (ptrB u.heap.size)) (u.alloc (.cells #[z5] t5))) (r6 : ∀ (a : Act) u, (execOp a.eval o6).run P u = .ok (.value (ptrB u.heap.size)) (u.alloc (.cells #[z6] t6)))
  (q4 : ∀ b v5 v6 u (K : Act → World → Prop), u.cell? ⟨b, 0, none⟩ = some z4 → u.frozen? ⟨b, 0, none⟩ = false → K ((at_ (ptrB b) v5 v6 xC).put p4.dst undef) (u.setCell ⟨b, 0, none⟩ y4) → Oper.wp P p4 (at_ (ptrB b) v5 v6 xC) u K Q)
  (q5 : ∀ b v4 v6 u (K : Act → World → Prop), u.cell? ⟨b, 0, none⟩ = some z5 → u.frozen? ⟨b, 0, none⟩ = false → K ((at_ v4 (ptrB b) v6 xC).put p5.dst undef) (u.setCell ⟨b, 0, none⟩ y5) → Oper.wp P p5 (at_ v4 (ptrB b) v6 xC) u K Q)
  (q6 : ∀ b v4 v5 u (K : Act → World → Prop), u.cell? ⟨b, 0, none⟩ = some z6 → u.frozen? ⟨b, 0, none⟩ = false → K ((at_ v4 v5 (ptrB b) xC).put p6.dst undef) (u.setCell ⟨b, 0, none⟩ y6) → Oper.wp P p6 (at_ v4 v5 (ptrB b) xC) u K Q)
  {w0 : World} {T : List Th} {u : World} (H : SepC w0 u T) (hS : ∀ u', SepC w0 u' T → S u')
  (fin : ∀ b4 b5 b6 u', SepC w0 u' (blkT b6 t6 #[y6] :: blkT b5 t5 #[y5] :: blkT b4 t4 #[y4] :: T) → Q .normal (at_ (ptrB b4) (ptrB b5) (ptrB b6) xC) u') (v4 v5 v6 vC : Value) :
  wpAnyH P md ops Q S 7 (lst false false false false false false false) (at_ v4 v5 v6 vC) u := by
 have ta : ∀ b4 b5 b6 u', SepC w0 u' (blkT b4 t4 #[z4] :: blkT b5 t5 #[z5] :: blkT b6 t6 #[z6] :: T) → wpAnyH P md ops Q S 3 (lst true true true true false false false) (at_ (ptrB b4) (ptrB b5) (ptrB b6) xC) u' := by
  intro b4 b5 b6 u1 H1
  refine anyH_one (k := 2) hR4 ?_
  refine op_of_wp h4 k4 (q4 _ _ _ _ _ (H1.blk.cell 0) (H1.blk.frozen 0) ?_)
  have H2 := H1.cellSet 0 y4
  simp only [qI, qO] at H2
  refine ⟨hS _ H2.tail.tail.tail, ?_⟩
  rw [e4, u4]
  refine anyH_one (k := 1) hR5 ?_
  have H3 := H2.pick 1 rfl
  refine op_of_wp h5 k5 (q5 _ _ _ _ _ (H3.blk.cell 0) (H3.blk.frozen 0) ?_)
  have H4 := H3.cellSet 0 y5
  simp only [qI, qO] at H4
  refine ⟨hS _ H4.tail.tail.tail, ?_⟩
  rw [e5, u5]
  refine anyH_one (k := 0) hR6 ?_
  have H5 := H4.pick 2 rfl
  refine op_of_wp h6 k6 (q6 _ _ _ _ _ (H5.blk.cell 0) (H5.blk.frozen 0) ?_)
  have H6 := H5.cellSet 0 y6
  simp only [qI, qO] at H6
  refine ⟨hS _ H6.tail.tail.tail, ?_⟩
  rw [e6, u6]
  exact ⟨hR7, fin _ _ _ _ H6⟩
 have main : ∀ (m : Nat) (c x4 x5 x6 : Bool), cntB c x4 x5 x6 = m → ∀ v4 v5 v6 vC b4 b5 b6 u', (c = true → vC = xC) → (x4 = true → v4 = ptrB b4) → (x5 = true → v5 = ptrB b5) → (x6 = true → v6 = ptrB b6) →
   SepC w0 u' (newB x4 x5 x6 b4 b5 b6 t4 t5 t6 z4 z5 z6 ++ T) → wpAnyH P md ops Q S (m + 3) (lst c x4 x5 x6 false false false) (at_ v4 v5 v6 vC) u' := by
  intro m
  induction m with
  | zero =>
   intro c x4 x5 x6 hm v4 v5 v6 vC b4 b5 b6 u1 hc a4 a5 a6 H1
   cases c <;> cases x4 <;> cases x5 <;> cases x6 <;> simp [cntB] at hm
   rw [hc rfl, a4 rfl, a5 rfl, a6 rfl]
   exact ta b4 b5 b6 u1 H1
  | succ m ih =>
   intro c x4 x5 x6 hm v4 v5 v6 vC b4 b5 b6 u1 hc a4 a5 a6 H1
   have hn : (c && x4 && x5 && x6) = false := by
    cases c <;> cases x4 <;> cases x5 <;> cases x6 <;> simp [cntB] at hm ⊢
   have hr := hR c x4 x5 x6 hn
   refine ⟨fun h => ?_, fun j hj => ?_⟩
   ·rw [hr] at h
    cases c <;> cases x4 <;> cases x5 <;> cases x6 <;> simp at h hn
   rw [hr] at hj
   simp only [List.mem_append] at hj
   rcases hj with hj | hj | hj | hj
   ·cases c with
    | true => simp at hj
    | false =>
     simp only [Bool.false_eq_true, if_false, List.mem_singleton] at hj
     subst hj
     refine op_of_wp gC wC (rC _ _ _ _ _ _ fun u2 hk => ?_)
     have H2 := H1.new hk
     refine ⟨hS _ (SepC.drop3 _ H2), ?_⟩
     rw [dC, sC]
     exact ih true x4 x5 x6 (by simp [cntB] at hm ⊢; omega) v4 v5 v6 xC b4 b5 b6 u2 (fun _ => rfl) a4 a5 a6 H2
   ·cases x4 with
    | true => simp at hj
    | false =>
     simp only [Bool.false_eq_true, if_false, List.mem_singleton] at hj
     subst hj
     refine op_of_wp g4 w4 (wp_of_run (r4 _ _) ?_)
     have H2 := H1.alloc #[z4] t4
     refine ⟨hS _ (SepC.drop3 _ H2.tail), ?_⟩
     rw [d4, s4]
     exact ih c true x5 x6 (by simp [cntB] at hm ⊢; omega) (ptrB u1.heap.size) v5 v6 vC u1.heap.size b5 b6 _ hc (fun _ => rfl) a5 a6 H2
   ·cases x5 with
    | true => simp at hj
    | false =>
     simp only [Bool.false_eq_true, if_false, List.mem_singleton] at hj
     subst hj
     refine op_of_wp g5 w5 (wp_of_run (r5 _ _) ?_)
     have H2 := H1.alloc #[z5] t5
     refine ⟨hS _ (SepC.drop3 _ H2.tail), ?_⟩
     rw [d5, s5]
     refine ih c x4 true x6 (by simp [cntB] at hm ⊢; omega) v4 (ptrB u1.heap.size) v6 vC b4 u1.heap.size b6 _ hc a4 (fun _ => rfl) a6 ?_
     cases x4 with
     | false => exact H2
     | true => exact H2.swap
   cases x6 with
   | true => simp at hj
   | false =>
    simp only [Bool.false_eq_true, if_false, List.mem_singleton] at hj
    subst hj
    refine op_of_wp g6 w6 (wp_of_run (r6 _ _) ?_)
    have H2 := H1.alloc #[z6] t6
    refine ⟨hS _ (SepC.drop3 _ H2.tail), ?_⟩
    rw [d6, s6]
    refine ih c x4 x5 true (by simp [cntB] at hm ⊢; omega) v4 v5 (ptrB u1.heap.size) vC b4 b5 u1.heap.size _ hc a4 a5 (fun _ => rfl) ?_
    cases x4 with
    | false =>
     cases x5 with
     | false => exact H2
     | true => exact H2.swap
    | true =>
     cases x5 with
     | false => exact H2.swap
     | true => exact (H2.pick 2 rfl).pick 2 rfl
 exact main 4 false false false false rfl v4 v5 v6 vC 0 0 0 u (by simp) (by simp) (by simp) (by simp) H
def lstB (l : Array Bool) (iC i4 i5 i6 j4 j5 j6 : Nat) (c x4 x5 x6 y4 y5 y6 : Bool) : Array Bool := ((((((l.setIfInBounds iC c).setIfInBounds i4 x4).setIfInBounds i5 x5).setIfInBounds i6 x6).setIfInBounds j4 y4).setIfInBounds j5 y5).setIfInBounds j6 y6
def actB (a : Act) (n4 n5 n6 nC : Nat) (v4 v5 v6 vC : Value) : Act := (((a.put (some n4) v4).put (some n5) v5).put (some n6) v6).put (some nC) vC
theorem boxes3_at {l : Array Bool} {a : Act} (iC i4 i5 i6 j4 j5 j6 n4 n5 n6 nC : Nat) {oC o4 o5 o6 p4 p5 p6 : Oper}
  {t4 t5 t6 : TypeId} {z4 z5 z6 y4 y5 y6 xC : Value}
  (gC : ops[iC]? = some oC) (g4 : ops[i4]? = some o4) (g5 : ops[i5]? = some o5) (g6 : ops[i6]? = some o6) (h4 : ops[j4]? = some p4) (h5 : ops[j5]? = some p5) (h6 : ops[j6]? = some p6)
  (wC : ∀ y, Region.wanted oC y = true) (w4 : ∀ y, Region.wanted o4 y = true) (w5 : ∀ y, Region.wanted o5 y = true) (w6 : ∀ y, Region.wanted o6 y = true) (k4 : ∀ y, Region.wanted p4 y = true) (k5 : ∀ y, Region.wanted p5 y = true) (k6 : ∀ y, Region.wanted p6 y = true)
  (hR : ∀ c x4 x5 x6, (c && x4 && x5 && x6) = false → Region.ready md ops (lstB l iC i4 i5 i6 j4 j5 j6 c x4 x5 x6 false false false) = (if c then [] else [iC]) ++ ((if x4 then [] else [i4]) ++ ((if x5 then [] else [i5]) ++ (if x6 then [] else [i6]))))
  (hR4 : Region.ready md ops (lstB l iC i4 i5 i6 j4 j5 j6 true true true true false false false) = [j4]) (hR5 : Region.ready md ops (lstB l iC i4 i5 i6 j4 j5 j6 true true true true true false false) = [j5]) (hR6 : Region.ready md ops (lstB l iC i4 i5 i6 j4 j5 j6 true true true true true true false) = [j6]) (hR7 : Region.ready md ops (lstB l iC i4 i5 i6 j4 j5 j6 true true true true true true true) = [])
  (e4 : ∀ a : Act, a.put p4.dst undef = a) (e5 : ∀ a : Act, a.put p5.dst undef = a) (e6 : ∀ a : Act, a.put p6.dst undef = a)
  (rC : ∀ v4 v5 v6 vC u (K : Act → World → Prop), (∀ u', Chg [] u u' → K ((actB a n4 n5 n6 nC v4 v5 v6 vC).put oC.dst xC) u') → Oper.wp P oC (actB a n4 n5 n6 nC v4 v5 v6 vC) u K Q)
  (r4 : ∀ (a : Act) u, (execOp a.eval o4).run P u = .ok (.value (ptrB u.heap.size)) (u.alloc (.cells #[z4] t4))) (r5 : ∀ (a : Act) u, (execOp a.eval o5).run P u = .ok (.value (ptrB u.heap.size)) (u.alloc (.cells #[z5] t5))) (r6 : ∀ (a : Act) u, (execOp a.eval o6).run P u = .ok (.value (ptrB u.heap.size)) (u.alloc (.cells #[z6] t6)))
  (q4 : ∀ b v5 v6 u (K : Act → World → Prop), u.cell? ⟨b, 0, none⟩ = some z4 → u.frozen? ⟨b, 0, none⟩ = false → K ((actB a n4 n5 n6 nC (ptrB b) v5 v6 xC).put p4.dst undef) (u.setCell ⟨b, 0, none⟩ y4) → Oper.wp P p4 (actB a n4 n5 n6 nC (ptrB b) v5 v6 xC) u K Q)
  (q5 : ∀ b v4 v6 u (K : Act → World → Prop), u.cell? ⟨b, 0, none⟩ = some z5 → u.frozen? ⟨b, 0, none⟩ = false → K ((actB a n4 n5 n6 nC v4 (ptrB b) v6 xC).put p5.dst undef) (u.setCell ⟨b, 0, none⟩ y5) → Oper.wp P p5 (actB a n4 n5 n6 nC v4 (ptrB b) v6 xC) u K Q)
  (q6 : ∀ b v4 v5 u (K : Act → World → Prop), u.cell? ⟨b, 0, none⟩ = some z6 → u.frozen? ⟨b, 0, none⟩ = false → K ((actB a n4 n5 n6 nC v4 v5 (ptrB b) xC).put p6.dst undef) (u.setCell ⟨b, 0, none⟩ y6) → Oper.wp P p6 (actB a n4 n5 n6 nC v4 v5 (ptrB b) xC) u K Q)
  (fC : oC.dst = some nC) (f4 : o4.dst = some n4) (f5 : o5.dst = some n5) (f6 : o6.dst = some n6) (hi : [iC, i4, i5, i6, j4, j5, j6].Nodup) (hn : [n4, n5, n6, nC].Nodup)
  {w0 : World} {T : List Th} {u : World} (H : SepC w0 u T) (hS : ∀ u', SepC w0 u' T → S u')
  (fin : ∀ b4 b5 b6 u', SepC w0 u' (blkT b6 t6 #[y6] :: blkT b5 t5 #[y5] :: blkT b4 t4 #[y4] :: T) → Q .normal (actB a n4 n5 n6 nC (ptrB b4) (ptrB b5) (ptrB b6) xC) u') (hl : lstB l iC i4 i5 i6 j4 j5 j6 false false false false false false false = l) (ha : actB a n4 n5 n6 nC undef undef undef undef = a) :
  wpAnyH P md ops Q S 7 l a u := by
 simp only [List.nodup_cons, List.mem_cons, List.not_mem_nil, or_false, not_or, not_false_eq_true, List.nodup_nil, and_true] at hi hn
 obtain ⟨⟨q01, q02, q03, q04, q05, q06⟩, ⟨q12, q13, q14, q15, q16⟩, ⟨q23, q24, q25, q26⟩, ⟨q34, q35, q36⟩, ⟨q45, q46⟩, q56⟩ := hi
 obtain ⟨⟨r01, r02, r03⟩, ⟨r12, r13⟩, r23⟩ := hn
 have sC : ∀ x4 x5 x6, (lstB l iC i4 i5 i6 j4 j5 j6 false x4 x5 x6 false false false).setIfInBounds iC true = lstB l iC i4 i5 i6 j4 j5 j6 true x4 x5 x6 false false false := by
  intro x4 x5 x6; unfold lstB; rw [Array.setIfInBounds_comm _ _ (Ne.symm q06), Array.setIfInBounds_comm _ _ (Ne.symm q05), Array.setIfInBounds_comm _ _ (Ne.symm q04), Array.setIfInBounds_comm _ _ (Ne.symm q03), Array.setIfInBounds_comm _ _ (Ne.symm q02), Array.setIfInBounds_comm _ _ (Ne.symm q01)]; rw [Array.setIfInBounds_setIfInBounds]
 have s4 : ∀ c x5 x6, (lstB l iC i4 i5 i6 j4 j5 j6 c false x5 x6 false false false).setIfInBounds i4 true = lstB l iC i4 i5 i6 j4 j5 j6 c true x5 x6 false false false := by
  intro c x5 x6; unfold lstB; rw [Array.setIfInBounds_comm _ _ (Ne.symm q16), Array.setIfInBounds_comm _ _ (Ne.symm q15), Array.setIfInBounds_comm _ _ (Ne.symm q14), Array.setIfInBounds_comm _ _ (Ne.symm q13), Array.setIfInBounds_comm _ _ (Ne.symm q12)]; rw [Array.setIfInBounds_setIfInBounds]
 have s5 : ∀ c x4 x6, (lstB l iC i4 i5 i6 j4 j5 j6 c x4 false x6 false false false).setIfInBounds i5 true = lstB l iC i4 i5 i6 j4 j5 j6 c x4 true x6 false false false := by
  intro c x4 x6; unfold lstB; rw [Array.setIfInBounds_comm _ _ (Ne.symm q26), Array.setIfInBounds_comm _ _ (Ne.symm q25), Array.setIfInBounds_comm _ _ (Ne.symm q24), Array.setIfInBounds_comm _ _ (Ne.symm q23)]; rw [Array.setIfInBounds_setIfInBounds]
 have s6 : ∀ c x4 x5, (lstB l iC i4 i5 i6 j4 j5 j6 c x4 x5 false false false false).setIfInBounds i6 true = lstB l iC i4 i5 i6 j4 j5 j6 c x4 x5 true false false false := by
  intro c x4 x5; unfold lstB; rw [Array.setIfInBounds_comm _ _ (Ne.symm q36), Array.setIfInBounds_comm _ _ (Ne.symm q35), Array.setIfInBounds_comm _ _ (Ne.symm q34)]; rw [Array.setIfInBounds_setIfInBounds]
 have u4 : (lstB l iC i4 i5 i6 j4 j5 j6 true true true true false false false).setIfInBounds j4 true = lstB l iC i4 i5 i6 j4 j5 j6 true true true true true false false := by
  unfold lstB; rw [Array.setIfInBounds_comm _ _ (Ne.symm q46), Array.setIfInBounds_comm _ _ (Ne.symm q45)]; rw [Array.setIfInBounds_setIfInBounds]
 have u5 : (lstB l iC i4 i5 i6 j4 j5 j6 true true true true true false false).setIfInBounds j5 true = lstB l iC i4 i5 i6 j4 j5 j6 true true true true true true false := by
  unfold lstB; rw [Array.setIfInBounds_comm _ _ (Ne.symm q56)]; rw [Array.setIfInBounds_setIfInBounds]
 have u6 : (lstB l iC i4 i5 i6 j4 j5 j6 true true true true true true false).setIfInBounds j6 true = lstB l iC i4 i5 i6 j4 j5 j6 true true true true true true true := by
  unfold lstB; rw [Array.setIfInBounds_setIfInBounds]
 have dC : ∀ v4 v5 v6 vC x, (actB a n4 n5 n6 nC v4 v5 v6 vC).put oC.dst x = actB a n4 n5 n6 nC v4 v5 v6 x := by
  intro v4 v5 v6 vC x; rw [fC]; simp only [actB, Act.put]; rw [Array.setIfInBounds_setIfInBounds]
 have d4 : ∀ v4 v5 v6 vC x, (actB a n4 n5 n6 nC v4 v5 v6 vC).put o4.dst x = actB a n4 n5 n6 nC x v5 v6 vC := by
  intro v4 v5 v6 vC x; rw [f4]; simp only [actB, Act.put]; rw [Array.setIfInBounds_comm _ _ (Ne.symm r03), Array.setIfInBounds_comm _ _ (Ne.symm r02), Array.setIfInBounds_comm _ _ (Ne.symm r01)]; rw [Array.setIfInBounds_setIfInBounds]
 have d5 : ∀ v4 v5 v6 vC x, (actB a n4 n5 n6 nC v4 v5 v6 vC).put o5.dst x = actB a n4 n5 n6 nC v4 x v6 vC := by
  intro v4 v5 v6 vC x; rw [f5]; simp only [actB, Act.put]; rw [Array.setIfInBounds_comm _ _ (Ne.symm r13), Array.setIfInBounds_comm _ _ (Ne.symm r12)]; rw [Array.setIfInBounds_setIfInBounds]
 have d6 : ∀ v4 v5 v6 vC x, (actB a n4 n5 n6 nC v4 v5 v6 vC).put o6.dst x = actB a n4 n5 n6 nC v4 v5 x vC := by
  intro v4 v5 v6 vC x; rw [f6]; simp only [actB, Act.put]; rw [Array.setIfInBounds_comm _ _ (Ne.symm r23)]; rw [Array.setIfInBounds_setIfInBounds]
 have h := boxes3 iC i4 i5 i6 j4 j5 j6 (lstB l iC i4 i5 i6 j4 j5 j6) (actB a n4 n5 n6 nC) gC g4 g5 g6 h4 h5 h6 wC w4 w5 w6 k4 k5 k6 sC s4 s5 s6 u4 u5 u6 hR hR4 hR5 hR6 hR7 dC d4 d5 d6 e4 e5 e6 rC r4 r5 r6 q4 q5 q6 H hS fin undef undef undef undef
 rw [hl, ha] at h
 exact h
end
end Go.Proofs.YtmbgepafpcbakaaGreatDoor
