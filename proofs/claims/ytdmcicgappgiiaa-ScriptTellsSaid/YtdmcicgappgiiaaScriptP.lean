/-
  Plain facts on scripts: operations and their bytes. No program is walked here.
-/
import Derived.Test.YtdmcicgappgiiaaG0
namespace Go.Proofs.Ytdmcicgappgiiaa
open Go.RowKit

/-- an operation of a script -/
structure Sop where
  what : Int
  user : Bool
  a : Int
  v : Int
  g : Int
  i : Int
  n : Int
instance : Inhabited Sop := ⟨⟨0, false, 0, 0, 0, 0, 0⟩⟩
def Sop.cl (o : Sop) : List Value := [.int .i64 o.what, .bool o.user, .int .u64 o.a, .int .u64 o.v, .int .i64 o.g, .int .i64 o.i, .int .i64 o.n]
def Sop.val (o : Sop) : Value := .agg #[.int .i64 o.what, .bool o.user, .int .u64 o.a, .int .u64 o.v, .int .i64 o.g, .int .i64 o.i, .int .i64 o.n]
structure Sop.Wf (o : Sop) : Prop where
  a : 0 ≤ o.a ∧ o.a < 18446744073709551616
  v : 0 ≤ o.v ∧ o.v < 18446744073709551616
def hasPU (w : Int) : Bool := w == 0 || (w == 1 || w == 2)
def hasPA (w : Int) : Bool := w == 0 || (w == 1 || (w == 2 || (w == 3 || w == 7)))
def hasPV (w : Int) : Bool := w == 1 || w == 5
def hasPG (w : Int) : Bool := w == 4 || w == 5
def hasPI (w : Int) : Bool := w == 5
def hasPN (w : Int) : Bool := w == 6 || w == 8
def boundS (o : Sop) : Bool := decide (0 ≤ o.what ∧ o.what ≤ 8 ∧ 0 ≤ o.g ∧ o.g ≤ 255 ∧ 0 ≤ o.n ∧ o.n ≤ 255 ∧ 0 ≤ o.i ∧ o.i ≤ 7)
def ownS (o : Sop) : Bool := (!o.user || hasPU o.what) && ((o.a == 0 || hasPA o.what) && ((o.v == 0 || hasPV o.what) && ((o.g == 0 || hasPG o.what) && ((o.i == 0 || hasPI o.what) && (o.n == 0 || hasPN o.what)))))
def rightS (o : Sop) : Bool := boundS o && ownS o
def b8 (x : Int) : List Int := [x / 72057594037927936 % 256, x / 281474976710656 % 256, x / 1099511627776 % 256, x / 4294967296 % 256, x / 16777216 % 256, x / 65536 % 256, x / 256 % 256, x % 256]
def n8 (l : List Int) : Int := l.foldl (fun n x => 256 * n + x) 0
def oneS (o : Sop) : List Int :=
  (o.what + if o.user then 128 else 0) :: ((if hasPA o.what then b8 o.a else []) ++ ((if hasPG o.what then [o.g] else []) ++ ((if hasPI o.what then [o.i] else []) ++ ((if hasPV o.what then b8 o.v else []) ++ (if hasPN o.what then [o.n] else [])))))
def putS (l : List Sop) : List Int := if l.all rightS then l.flatMap oneS else []
def plA (w : Int) : Nat := if hasPA w then 9 else 1
def plG (w : Int) : Nat := plA w + if hasPG w then 1 else 0
def plI (w : Int) : Nat := plG w + if hasPI w then 1 else 0
def plV (w : Int) : Nat := plI w + if hasPV w then 8 else 0
def sizeS (w : Int) : Nat := plV w + if hasPN w then 1 else 0
def whatS (b : List Int) : Int := b.getD 0 0 % 128
def opS (b : List Int) : Sop where
  what := whatS b
  user := decide (128 ≤ b.getD 0 0)
  a := if hasPA (whatS b) then n8 ((b.drop 1).take 8) else 0
  g := if hasPG (whatS b) then b.getD (plA (whatS b)) 0 else 0
  i := if hasPI (whatS b) then b.getD (plG (whatS b)) 0 else 0
  v := if hasPV (whatS b) then n8 ((b.drop (plI (whatS b))).take 8) else 0
  n := if hasPN (whatS b) then b.getD (plV (whatS b)) 0 else 0
/-- do right bytes of an operation stand first? -/
def canS (b : List Int) : Bool := decide (0 < b.length) && (decide (whatS b ≤ 8) && (decide (sizeS (whatS b) ≤ b.length) && rightS (opS b)))
def getF : Nat → List Int → List Sop × Nat
  | 0, _ => ([], 0)
  | f + 1, b => if canS b then (opS b :: (getF f (b.drop (sizeS (whatS b)))).1, sizeS (whatS b) + (getF f (b.drop (sizeS (whatS b)))).2) else ([], 0)
def getS (b : List Int) : List Sop × Nat := getF b.length b

theorem n8_b8 {x : Int} (h : 0 ≤ x ∧ x < 18446744073709551616) : n8 (b8 x) = x := by
  simp only [n8, b8, List.foldl_cons, List.foldl_nil]; omega
theorem b8_n8 {c0 c1 c2 c3 c4 c5 c6 c7 : Int} (h0 : 0 ≤ c0 ∧ c0 < 256) (h1 : 0 ≤ c1 ∧ c1 < 256) (h2 : 0 ≤ c2 ∧ c2 < 256) (h3 : 0 ≤ c3 ∧ c3 < 256) (h4 : 0 ≤ c4 ∧ c4 < 256) (h5 : 0 ≤ c5 ∧ c5 < 256) (h6 : 0 ≤ c6 ∧ c6 < 256) (h7 : 0 ≤ c7 ∧ c7 < 256) :
    b8 (n8 [c0, c1, c2, c3, c4, c5, c6, c7]) = [c0, c1, c2, c3, c4, c5, c6, c7] := by
  simp only [n8, b8, List.foldl_cons, List.foldl_nil]
  congr 1; · omega
  congr 1; · omega
  congr 1; · omega
  congr 1; · omega
  congr 1; · omega
  congr 1; · omega
  congr 1; · omega
  congr 1; omega
theorem n8_lt {c0 c1 c2 c3 c4 c5 c6 c7 : Int} (h0 : 0 ≤ c0 ∧ c0 < 256) (h1 : 0 ≤ c1 ∧ c1 < 256) (h2 : 0 ≤ c2 ∧ c2 < 256) (h3 : 0 ≤ c3 ∧ c3 < 256) (h4 : 0 ≤ c4 ∧ c4 < 256) (h5 : 0 ≤ c5 ∧ c5 < 256) (h6 : 0 ≤ c6 ∧ c6 < 256) (h7 : 0 ≤ c7 ∧ c7 < 256) :
    0 ≤ n8 [c0, c1, c2, c3, c4, c5, c6, c7] ∧ n8 [c0, c1, c2, c3, c4, c5, c6, c7] < 18446744073709551616 := by
  simp only [n8, List.foldl_cons, List.foldl_nil]; omega
theorem b8_len (x : Int) : (b8 x).length = 8 := rfl
theorem b8_rng (x : Int) : ∀ y ∈ b8 x, 0 ≤ y ∧ y < 256 := by
  intro y hy
  simp only [b8, List.mem_cons, List.not_mem_nil, or_false] at hy
  rcases hy with h | h | h | h | h | h | h | h <;> subst h <;> omega
/-- the kinds -/
theorem what_cases {w : Int} (h0 : 0 ≤ w) (h1 : w ≤ 8) : w = 0 ∨ w = 1 ∨ w = 2 ∨ w = 3 ∨ w = 4 ∨ w = 5 ∨ w = 6 ∨ w = 7 ∨ w = 8 := by omega
theorem oneS_len {o : Sop} : (oneS o).length = sizeS o.what := by
  unfold oneS sizeS plV plI plG plA
  simp only [List.length_cons, List.length_append]
  cases hasPA o.what <;> cases hasPG o.what <;> cases hasPI o.what <;> cases hasPV o.what <;> cases hasPN o.what <;> simp [b8_len]
theorem right_bound {o : Sop} (h : rightS o = true) : 0 ≤ o.what ∧ o.what ≤ 8 ∧ 0 ≤ o.g ∧ o.g ≤ 255 ∧ 0 ≤ o.n ∧ o.n ≤ 255 ∧ 0 ≤ o.i ∧ o.i ≤ 7 := by
  unfold rightS boundS at h
  rw [Bool.and_eq_true, decide_eq_true_eq] at h
  exact h.1
theorem oneS_rng {o : Sop} (h : rightS o = true) : ∀ y ∈ oneS o, 0 ≤ y ∧ y < 256 := by
  have hb := right_bound h
  intro y hy
  unfold oneS at hy
  simp only [List.mem_cons, List.mem_append] at hy
  rcases hy with rfl | hy | hy | hy | hy | hy
  · split <;> omega
  · split at hy
    · exact b8_rng _ _ hy
    · simp at hy
  · split at hy
    · simp at hy; omega
    · simp at hy
  · split at hy
    · simp at hy; omega
    · simp at hy
  · split at hy
    · exact b8_rng _ _ hy
    · simp at hy
  · split at hy
    · simp at hy; omega
    · simp at hy
/-- what is put is read -/
theorem op_one {o : Sop} (hw : o.Wf) (h : rightS o = true) (t : List Int) : opS (oneS o ++ t) = o ∧ whatS (oneS o ++ t) = o.what := by
  have hb := right_bound h
  have ho : ownS o = true := by unfold rightS at h; rw [Bool.and_eq_true] at h; exact h.2
  have ha := n8_b8 hw.a
  have hv := n8_b8 hw.v
  obtain ⟨w, u, a, v, g, i, n⟩ := o
  simp only at ha hv hb
  unfold ownS at ho
  simp only at ho
  have hw0 : (w + if u then 128 else 0) % 128 = w := by cases u <;> simp <;> omega
  have hw1 : decide (128 ≤ (w + if u then 128 else 0)) = u := by cases u <;> simp <;> omega
  have e0 : whatS (oneS ⟨w, u, a, v, g, i, n⟩ ++ t) = w := by
    unfold whatS oneS
    simp only [List.cons_append, List.getD_cons_zero]
    exact hw0
  refine ⟨?_, e0⟩
  unfold opS
  rw [e0]
  have e1 : decide (128 ≤ (oneS ⟨w, u, a, v, g, i, n⟩ ++ t).getD 0 0) = u := by
    unfold oneS
    simp only [List.cons_append, List.getD_cons_zero]
    exact hw1
  rw [e1]
  clear h hw e0 e1 hw0 hw1
  obtain ⟨hw0, hw1, _⟩ := hb
  rcases what_cases hw0 hw1 with rfl | rfl | rfl | rfl | rfl | rfl | rfl | rfl | rfl <;>
    simp [hasPU, hasPA, hasPV, hasPG, hasPI, hasPN, plA, plG, plI, plV, oneS, b8] at ho ⊢ <;> simp only [b8] at ha hv <;> simp [ho, ha, hv]
theorem can_one {o : Sop} (hw : o.Wf) (h : rightS o = true) (t : List Int) : canS (oneS o ++ t) = true := by
  obtain ⟨e1, e2⟩ := op_one hw h t
  unfold canS
  rw [e1, e2, h]
  have hl := oneS_len (o := o)
  have hb := right_bound h
  have : 0 < sizeS o.what := by rw [← hl]; simp [oneS]
  simp [hl]; omega
/-- a list of eight bytes -/
theorem eight {l : List Int} (h : 8 ≤ l.length) : ∃ c0 c1 c2 c3 c4 c5 c6 c7 t, l = c0 :: c1 :: c2 :: c3 :: c4 :: c5 :: c6 :: c7 :: t := by
  match l, h with
  | c0 :: c1 :: c2 :: c3 :: c4 :: c5 :: c6 :: c7 :: t, _ => exact ⟨c0, c1, c2, c3, c4, c5, c6, c7, t, rfl⟩
theorem b8_take {l : List Int} (h : 8 ≤ l.length) (hr : ∀ x ∈ l, 0 ≤ x ∧ x < 256) : b8 (n8 (l.take 8)) = l.take 8 ∧ 0 ≤ n8 (l.take 8) ∧ n8 (l.take 8) < 18446744073709551616 := by
  obtain ⟨c0, c1, c2, c3, c4, c5, c6, c7, t, rfl⟩ := eight h
  have r0 := hr c0 (by simp); have r1 := hr c1 (by simp); have r2 := hr c2 (by simp); have r3 := hr c3 (by simp)
  have r4 := hr c4 (by simp); have r5 := hr c5 (by simp); have r6 := hr c6 (by simp); have r7 := hr c7 (by simp)
  exact ⟨b8_n8 r0 r1 r2 r3 r4 r5 r6 r7, n8_lt r0 r1 r2 r3 r4 r5 r6 r7⟩
theorem take_eight {l : List Int} (_h : 8 ≤ l.length) (m : Nat) : l.take (8 + m) = l.take 8 ++ (l.drop 8).take m := List.take_add
/-- what is read has its bytes -/
theorem one_op {b : List Int} (hr : ∀ x ∈ b, 0 ≤ x ∧ x < 256) (h : canS b = true) : oneS (opS b) = b.take (sizeS (whatS b)) ∧ rightS (opS b) = true ∧ (opS b).Wf ∧ 0 < sizeS (whatS b) ∧ sizeS (whatS b) ≤ b.length := by
  unfold canS at h
  simp only [Bool.and_eq_true, decide_eq_true_eq] at h
  obtain ⟨h0, h8, hs, hR⟩ := h
  have hpos : 0 < sizeS (whatS b) := by unfold sizeS plV plI plG plA; split <;> omega
  have hb := right_bound hR
  have hw0 : 0 ≤ whatS b := hb.1
  match b, h0 with
  | x :: t, _ =>
    have hx := hr x (by simp)
    have hrt : ∀ y ∈ t, 0 ≤ y ∧ y < 256 := fun y hy => hr y (by simp [hy])
    have hxx : x % 128 + (if 128 ≤ x then 128 else 0) = x := by split <;> omega
    have eW : whatS (x :: t) = x % 128 := rfl
    have hcase := what_cases hw0 h8
    simp only [List.length_cons] at hs
    have key : oneS (opS (x :: t)) = (x :: t).take (sizeS (whatS (x :: t))) ∧ (opS (x :: t)).Wf := by
      unfold oneS opS
      simp only [eW] at hcase hs ⊢
      simp only [List.getD_cons_zero, decide_eq_true_eq, hxx]
      have wz : (0 : Int) ≤ 0 ∧ (0 : Int) < 18446744073709551616 := by omega
      clear hR hb hw0 h8 hxx hpos
      generalize x % 128 = w at *
      rcases hcase with rfl | rfl | rfl | rfl | rfl | rfl | rfl | rfl | rfl
      · simp [hasPA, hasPV, hasPG, hasPI, hasPN, sizeS, plA, plG, plI, plV] at hs ⊢
        have := b8_take hs hrt
        exact ⟨this.1, this.2, wz⟩
      · simp [hasPA, hasPV, hasPG, hasPI, hasPN, sizeS, plA, plG, plI, plV] at hs ⊢
        have h1 := b8_take (l := t) (by omega) hrt
        have h2 := b8_take (l := t.drop 8) (by simp; omega) (fun y hy => hrt y (List.mem_of_mem_drop hy))
        refine ⟨?_, h1.2, h2.2⟩
        rw [h1.1, h2.1, ← List.take_add]
      · simp [hasPA, hasPV, hasPG, hasPI, hasPN, sizeS, plA, plG, plI, plV] at hs ⊢
        have := b8_take hs hrt
        exact ⟨this.1, this.2, wz⟩
      · simp [hasPA, hasPV, hasPG, hasPI, hasPN, sizeS, plA, plG, plI, plV] at hs ⊢
        have := b8_take hs hrt
        exact ⟨this.1, this.2, wz⟩
      · match t, hs with
        | y :: t, _ => simp [hasPA, hasPV, hasPG, hasPI, hasPN, sizeS, plA, plG, plI, plV]; exact ⟨wz, wz⟩
      · match t, hs with
        | y :: z :: t, hs =>
          simp [hasPA, hasPV, hasPG, hasPI, hasPN, sizeS, plA, plG, plI, plV] at hs ⊢
          have := b8_take (l := t) (by omega) (fun q hq => hrt q (by simp [hq]))
          exact ⟨this.1, wz, this.2⟩
        | [y], hs => simp [hasPA, hasPV, hasPG, hasPI, hasPN, sizeS, plA, plG, plI, plV] at hs
        | [], hs => simp [hasPA, hasPV, hasPG, hasPI, hasPN, sizeS, plA, plG, plI, plV] at hs
      · match t, hs with
        | y :: t, _ => simp [hasPA, hasPV, hasPG, hasPI, hasPN, sizeS, plA, plG, plI, plV]; exact ⟨wz, wz⟩
      · simp [hasPA, hasPV, hasPG, hasPI, hasPN, sizeS, plA, plG, plI, plV] at hs ⊢
        have := b8_take hs hrt
        exact ⟨this.1, this.2, wz⟩
      · match t, hs with
        | y :: t, _ => simp [hasPA, hasPV, hasPG, hasPI, hasPN, sizeS, plA, plG, plI, plV]; exact ⟨wz, wz⟩
    exact ⟨key.1, hR, key.2, hpos, by simpa using hs⟩

/-! ### many -/
theorem canS_nil : canS [] = false := rfl
theorem size_pos (w : Int) : 0 < sizeS w := by unfold sizeS plV plI plG plA; split <;> omega
/-- more steps than bytes are no more -/
theorem getF_more : ∀ (f : Nat) (b : List Int), b.length ≤ f → getF f b = getF b.length b := by
  intro f
  induction f using Nat.strongRecOn with
  | ind f ih =>
    intro b hb
    match f, b with
    | 0, b =>
      have : b.length = 0 := by omega
      rw [this]
    | f + 1, [] => rfl
    | f + 1, x :: t =>
      have hs := size_pos (whatS (x :: t))
      have hl : ((x :: t).drop (sizeS (whatS (x :: t)))).length ≤ t.length := by simp; omega
      simp only [List.length_cons] at hb
      rw [List.length_cons, getF, getF, ih f (by omega) _ (by omega)]
      by_cases hf : t.length < f + 1
      · rw [ih t.length hf _ hl]
      · have : f = t.length := by omega
        subst this; rw [ih t.length (by omega) _ hl]
theorem getS_step {b : List Int} (h : canS b = true) : getS b = (opS b :: (getS (b.drop (sizeS (whatS b)))).1, sizeS (whatS b) + (getS (b.drop (sizeS (whatS b)))).2) := by
  unfold getS
  match b, h with
  | x :: t, h =>
    have hs := size_pos (whatS (x :: t))
    rw [List.length_cons, getF, if_pos h, getF_more t.length _ (by simp; omega)]
theorem getS_stop {b : List Int} (h : canS b = false) : getS b = ([], 0) := by
  unfold getS
  match b, h with
  | [], _ => rfl
  | x :: t, h => rw [List.length_cons, getF, h]; rfl
theorem getS_one {o : Sop} (hw : o.Wf) (h : rightS o = true) (t : List Int) : getS (oneS o ++ t) = (o :: (getS t).1, (oneS o).length + (getS t).2) := by
  rw [getS_step (can_one hw h t), (op_one hw h t).1, (op_one hw h t).2, ← oneS_len, List.drop_left]
/-- right ones' bytes, and what is behind -/
theorem getS_put : ∀ (l : List Sop) (t : List Int), (∀ o ∈ l, o.Wf) → l.all rightS = true → getS (l.flatMap oneS ++ t) = (l ++ (getS t).1, (l.flatMap oneS).length + (getS t).2)
  | [], t, _, _ => by simp
  | o :: l, t, hw, h => by
    rw [List.all_cons, Bool.and_eq_true] at h
    have ih := getS_put l t (fun x hx => hw x (by simp [hx])) h.2
    rw [List.flatMap_cons, List.append_assoc, getS_one (hw o (by simp)) h.1, ih]
    simp only [List.cons_append, List.length_append]
    congr 1; omega
theorem getS_all (l : List Sop) (hw : ∀ o ∈ l, o.Wf) (h : l.all rightS = true) : getS (l.flatMap oneS) = (l, (l.flatMap oneS).length) := by
  have := getS_put l [] hw h
  rw [List.append_nil, getS_stop canS_nil] at this
  simpa using this
/-- what is got -/
theorem getS_got : ∀ (k : Nat) (b : List Int), b.length ≤ k → (∀ x ∈ b, 0 ≤ x ∧ x < 256) → (∀ o ∈ (getS b).1, o.Wf) ∧ (getS b).1.all rightS = true ∧ (getS b).1.flatMap oneS = b.take (getS b).2 ∧ (getS b).2 ≤ b.length
  | 0, b, hk, _ => by
    have : b = [] := List.length_eq_zero_iff.1 (by omega)
    subst this
    exact ⟨by simp [getS_stop canS_nil], rfl, rfl, by simp [getS_stop canS_nil]⟩
  | k + 1, b, hk, hr => by
    cases h : canS b with
    | false => rw [getS_stop h]; simp
    | true =>
      obtain ⟨h1, h2, h3, h4, h5⟩ := one_op hr h
      have ih := getS_got k (b.drop (sizeS (whatS b))) (by simp; omega) (fun x hx => hr x (List.mem_of_mem_drop hx))
      rw [getS_step h]
      obtain ⟨i1, i2, i3, i4⟩ := ih
      refine ⟨fun o ho => ?_, by simp only [List.all_cons, h2, i2]; rfl, ?_, ?_⟩
      · simp only [List.mem_cons] at ho
        rcases ho with rfl | ho
        · exact h3
        · exact i1 o ho
      · simp only [List.flatMap_cons, h1, i3, ← List.take_add]
      · simp at i4 ⊢; omega
/-- a cut operation is none -/
theorem can_cut {o : Sop} (hw : o.Wf) (h : rightS o = true) {j : Nat} (hj : j < (oneS o).length) (t : List Int) : canS ((oneS o ++ t).take j) = false := by
  match j with
  | 0 => rfl
  | j + 1 =>
    have e := (op_one hw h t).2
    have e2 : whatS ((oneS o ++ t).take (j + 1)) = o.what := by
      rw [← e]; unfold whatS oneS; simp
    unfold canS
    rw [e2, ← oneS_len]
    have : ¬ (oneS o).length ≤ ((oneS o ++ t).take (j + 1)).length := by simp; omega
    rw [decide_eq_false this]; simp
/-- how many operations' bytes there are whole in the first k, and how many bytes these have -/
def manyS : List Sop → Nat → Nat
  | [], _ => 0
  | o :: l, k => if (oneS o).length ≤ k then 1 + manyS l (k - (oneS o).length) else 0
theorem many_le : ∀ (l : List Sop) (k : Nat), manyS l k ≤ l.length
  | [], _ => Nat.le_refl _
  | o :: l, k => by
    unfold manyS; split
    · have := many_le l (k - (oneS o).length); simp; omega
    · omega
theorem getS_cut : ∀ (l : List Sop) (k : Nat), (∀ o ∈ l, o.Wf) → l.all rightS = true → k ≤ (l.flatMap oneS).length → getS ((l.flatMap oneS).take k) = (l.take (manyS l k), ((l.take (manyS l k)).flatMap oneS).length)
  | [], k, _, _, _ => by simp [getS_stop canS_nil]
  | o :: l, k, hw, h, hk => by
    rw [List.all_cons, Bool.and_eq_true] at h
    rw [List.flatMap_cons] at hk ⊢
    unfold manyS
    by_cases hc : (oneS o).length ≤ k
    · rw [if_pos hc]
      obtain ⟨d, rfl⟩ : ∃ d, k = (oneS o).length + d := ⟨k - (oneS o).length, by omega⟩
      have ih := getS_cut l d (fun x hx => hw x (by simp [hx])) h.2 (by simp at hk ⊢; omega)
      rw [List.take_length_add_append, getS_one (hw o (by simp)) h.1, ih]
      rw [Nat.add_sub_cancel_left, Nat.add_comm 1, List.take_succ_cons, List.flatMap_cons, List.length_append]
    · rw [if_neg hc, getS_stop (can_cut (hw o (by simp)) h.1 (by omega) _)]
      simp
theorem many_flat : ∀ (l : List Sop) (k : Nat), ((l.take (manyS l k)).flatMap oneS).length ≤ k ∧ (∀ o, l[manyS l k]? = some o → k < ((l.take (manyS l k)).flatMap oneS).length + (oneS o).length)
  | [], k => by simp
  | o :: l, k => by
    unfold manyS
    by_cases hc : (oneS o).length ≤ k
    · rw [if_pos hc]
      have ih := many_flat l (k - (oneS o).length)
      rw [Nat.add_comm 1, List.take_succ_cons, List.flatMap_cons, List.length_append]
      refine ⟨by omega, fun x hx => ?_⟩
      rw [List.getElem?_cons_succ] at hx
      have := ih.2 x hx; omega
    · rw [if_neg hc]
      refine ⟨by simp, fun x hx => ?_⟩
      simp at hx; subst hx; simp; omega
/-- a kind that is none -/
theorem can_none {x : Int} (h0 : 9 ≤ x) (h1 : x < 128) (t : List Int) : canS (x :: t) = false := by
  have e : whatS (x :: t) = x := by unfold whatS; simp; omega
  unfold canS
  rw [e, decide_eq_false (p := x ≤ 8) (by omega)]; simp
theorem getS_first (l : List Sop) {x : Int} (t : List Int) (hw : ∀ o ∈ l, o.Wf) (h : l.all rightS = true) (h0 : 9 ≤ x) (h1 : x < 128) : getS (l.flatMap oneS ++ x :: t) = (l, (l.flatMap oneS).length) := by
  rw [getS_put l _ hw h, getS_stop (can_none h0 h1 t)]; simp
/-- unlike right ones have unlike bytes -/
theorem flat_inj {a b : List Sop} (ha : ∀ o ∈ a, o.Wf) (hb : ∀ o ∈ b, o.Wf) (h1 : a.all rightS = true) (h2 : b.all rightS = true) (h : a.flatMap oneS = b.flatMap oneS) : a = b := by
  have e1 := getS_all a ha h1
  rw [h, getS_all b hb h2] at e1
  injection e1 with e1 _
  exact e1.symm

end Go.Proofs.Ytdmcicgappgiiaa
