/-
  Parts of operations as letters: plain facts. No program is walked here.
-/
import Derived.Test.YtdmcicgappgiiaaScriptP
import Derived.Test.YtdmcicgappgiiaaRowG
namespace Go.Proofs.Ytdmcicgappgiiaa
open Go.RowKit

/-- a kind's parts, as letters -/
def partsC (w : Int) : List Int := if w = 0 ∨ w = 2 then [85, 65] else if w = 1 then [85, 65, 86] else if w = 3 ∨ w = 7 then [65] else if w = 4 then [71] else if w = 5 then [71, 73, 86] else if w = 6 ∨ w = 8 then [78] else []
def partsB (w : Int) : ByteArray := strOfNums (partsC w)
def sizeC (c : Int) : Nat := if c = 65 ∨ c = 86 then 8 else if c = 71 ∨ c = 73 ∨ c = 78 then 1 else 0
def isC (c : Int) : Prop := c = 85 ∨ c = 65 ∨ c = 86 ∨ c = 71 ∨ c = 73 ∨ c = 78
def valueC (o : Sop) (c : Int) : Int := if c = 85 then (if o.user then 1 else 0) else if c = 65 then o.a else if c = 86 then o.v else if c = 71 then o.g else if c = 73 then o.i else o.n
def withC (o : Sop) (c v : Int) : Sop := if c = 85 then { o with user := v != 0 } else if c = 65 then { o with a := v } else if c = 86 then { o with v := v } else if c = 71 then { o with g := v } else if c = 73 then { o with i := v } else { o with n := v }
def zeroS (w : Int) : Sop := ⟨w, false, 0, 0, 0, 0, 0⟩
def onlyK (o : Sop) (k : Nat) : Sop := ((partsC o.what).take k).foldl (fun x c => withC x c (valueC o c)) (zeroS o.what)
def eqS (o p : Sop) : Bool := o.what == p.what && (o.user == p.user && (o.a == p.a && (o.v == p.v && (o.g == p.g && (o.i == p.i && o.n == p.n)))))
def smallS (o : Sop) : Bool := decide (0 ≤ o.g ∧ o.g < 256) && (decide (0 ≤ o.n ∧ o.n < 256) && decide (0 ≤ o.i ∧ o.i < 8))

theorem parts_is (w : Int) : ∀ c ∈ partsC w, isC c := by
  intro c hc
  unfold partsC at hc
  unfold isC
  repeat' split at hc
  all_goals simp at hc
  all_goals omega
theorem parts_len (w : Int) : (partsC w).length ≤ 3 := by unfold partsC; repeat' split
                                                          all_goals simp
theorem take_at {α : Type} {l : List α} {k : Nat} {x : α} (h : l[k]? = some x) : l.take (k + 1) = l.take k ++ [x] := by
  have h1 := (List.getElem?_eq_some_iff.1 h).1
  rw [List.take_succ_eq_append_getElem h1, (List.getElem?_eq_some_iff.1 h).2]
theorem only_succ {o : Sop} {k : Nat} {c : Int} (h : (partsC o.what)[k]? = some c) : onlyK o (k + 1) = withC (onlyK o k) c (valueC o c) := by
  unfold onlyK; rw [take_at h, List.foldl_append]; rfl
theorem eqS_iff {o p : Sop} : eqS o p = true ↔ o = p := by
  cases o; cases p; simp [eqS, Bool.and_eq_true]
instance Sop.dec : DecidableEq Sop := fun _ _ => decidable_of_iff _ eqS_iff
theorem only_all (o : Sop) : eqS (onlyK o (partsC o.what).length) o = ownS o := by
  unfold onlyK
  rw [List.take_length]
  obtain ⟨w, u, a, v, g, i, n⟩ := o
  unfold partsC ownS hasPU hasPA hasPV hasPG hasPI hasPN zeroS
  have bc : ∀ x : Int, ((0 : Int) == x) = (x == 0) := fun x => by rw [Bool.eq_iff_iff]; simp; omega
  by_cases h0 : w = 0
  · subst h0; cases u <;> simp [withC, valueC, eqS, bc]
  by_cases h1 : w = 1
  · subst h1; cases u <;> simp [withC, valueC, eqS, bc]
  by_cases h2 : w = 2
  · subst h2; cases u <;> simp [withC, valueC, eqS, bc]
  by_cases h3 : w = 3
  · subst h3; cases u <;> simp [withC, valueC, eqS, bc]
  by_cases h4 : w = 4
  · subst h4; cases u <;> simp [withC, valueC, eqS, bc]
  by_cases h5 : w = 5
  · subst h5; cases u <;> simp [withC, valueC, eqS, bc]
  by_cases h6 : w = 6
  · subst h6; cases u <;> simp [withC, valueC, eqS, bc]
  by_cases h7 : w = 7
  · subst h7; cases u <;> simp [withC, valueC, eqS, bc]
  by_cases h8 : w = 8
  · subst h8; cases u <;> simp [withC, valueC, eqS, bc]
  rw [show (w == 0) = false by simpa using h0, show (w == 1) = false by simpa using h1, show (w == 2) = false by simpa using h2, show (w == 3) = false by simpa using h3, show (w == 4) = false by simpa using h4, show (w == 5) = false by simpa using h5, show (w == 6) = false by simpa using h6, show (w == 7) = false by simpa using h7, show (w == 8) = false by simpa using h8]
  cases u <;> simp [h0, h1, h2, h3, h4, h5, h6, h7, h8, eqS, bc]
theorem right_small (o : Sop) : rightS o = (decide (0 ≤ o.what ∧ o.what < 9) && (smallS o && ownS o)) := by
  unfold rightS boundS smallS
  rw [← Bool.and_assoc]
  congr 1
  rw [Bool.eq_iff_iff]
  simp only [Bool.and_eq_true, decide_eq_true_eq]
  omega

/-! the bytes of a part -/
/-- the lowest k bytes of a number, the highest first -/
def lowB (v : Int) : Nat → List Int
  | 0 => []
  | k + 1 => v / 256 ^ k % 256 :: lowB v k
theorem lowB_len (v : Int) : ∀ k, (lowB v k).length = k
  | 0 => rfl
  | k + 1 => by rw [lowB, List.length_cons, lowB_len v k]
theorem lowB_8 (v : Int) : lowB v 8 = b8 v := by simp [lowB, b8]
theorem lowB_1 {v : Int} (h : 0 ≤ v ∧ v < 256) : lowB v 1 = [v] := by simp [lowB]; omega
/-- an operation's bytes, up to the k-th part -/
def putK (o : Sop) (k : Nat) : List Int := (o.what + if o.user then 128 else 0) :: ((partsC o.what).take k).flatMap fun c => lowB (valueC o c) (sizeC c)
theorem putK_succ {o : Sop} {k : Nat} {c : Int} (h : (partsC o.what)[k]? = some c) : putK o (k + 1) = putK o k ++ lowB (valueC o c) (sizeC c) := by
  unfold putK; rw [take_at h]; simp
theorem putK_all {o : Sop} (h : rightS o = true) : putK o (partsC o.what).length = oneS o := by
  have hb := right_bound h
  unfold putK
  rw [List.take_length]
  obtain ⟨w, u, a, v, g, i, n⟩ := o
  simp only at hb
  obtain ⟨hw0, hw1, hg0, hg1, hn0, hn1, hi0, hi1⟩ := hb
  clear h
  rcases what_cases hw0 hw1 with rfl | rfl | rfl | rfl | rfl | rfl | rfl | rfl | rfl <;>
    simp [oneS, partsC, valueC, sizeC, hasPA, hasPV, hasPG, hasPI, hasPN, lowB_8, lowB] <;> omega

/-! what is read -/
/-- the place behind the k-th part -/
def atK (w : Int) (k : Nat) : Nat := 1 + ((partsC w).take k).foldl (fun n c => n + sizeC c) 0
theorem atK_succ {w : Int} {k : Nat} {c : Int} (h : (partsC w)[k]? = some c) : atK w (k + 1) = atK w k + sizeC c := by
  unfold atK; rw [take_at h, List.foldl_append]; simp [Nat.add_assoc]
/-- the operation that is read, up to the k-th part -/
def getK (b : List Int) : Nat → Sop
  | 0 => zeroS (whatS b)
  | k + 1 => match (partsC (whatS b))[k]? with
    | some c => withC (getK b k) c (n8 ((b.drop (atK (whatS b) k)).take (sizeC c)))
    | none => getK b k
theorem getK_succ {b : List Int} {k : Nat} {c : Int} (h : (partsC (whatS b))[k]? = some c) : getK b (k + 1) = withC (getK b k) c (n8 ((b.drop (atK (whatS b) k)).take (sizeC c))) := by rw [getK, h]
theorem atK_all {w : Int} (h0 : 0 ≤ w) (h8 : w ≤ 8) : atK w (partsC w).length = sizeS w := by
  unfold atK
  rw [List.take_length]
  rcases what_cases h0 h8 with rfl | rfl | rfl | rfl | rfl | rfl | rfl | rfl | rfl <;> rfl
theorem n8_one {b : List Int} {k : Nat} (h : k < b.length) : n8 ((b.drop k).take 1) = b.getD k 0 := by
  rw [List.drop_eq_getElem_cons h, List.take_succ_cons]
  simp [n8, List.getD_eq_getElem?_getD, List.getElem?_eq_getElem h]
theorem atK_mono (w : Int) : ∀ k, atK w k ≤ atK w (k + 1) := by
  intro k
  cases h : (partsC w)[k]? with
  | some c => rw [atK_succ h]; omega
  | none =>
    have := List.getElem?_eq_none_iff.1 h
    unfold atK
    rw [List.take_of_length_le this, List.take_of_length_le (by omega)]
    exact Nat.le_refl _
/-- all of it is the operation, with User as the first byte tells it -/
theorem getK_all {b : List Int} (h0 : 0 ≤ whatS b) (h8 : whatS b ≤ 8) (hl : sizeS (whatS b) ≤ b.length) : { getK b (partsC (whatS b)).length with user := decide (128 ≤ b.getD 0 0) } = opS b := by
  unfold opS
  generalize decide (128 ≤ b.getD 0 0) = u
  generalize hw : whatS b = w at *
  rcases what_cases h0 h8 with rfl | rfl | rfl | rfl | rfl | rfl | rfl | rfl | rfl <;>
    (simp [sizeS, plV, plI, plG, plA, hasPA, hasPV, hasPG, hasPI, hasPN] at hl
     simp [getK, hw, partsC, atK, sizeC, withC, zeroS, hasPA, hasPV, hasPG, hasPI, hasPN, plV, plI, plG, plA])
  all_goals (clear h0 h8 hw; rcases b with _ | ⟨x, _ | ⟨y, _ | ⟨z, t⟩⟩⟩ <;> simp [n8] at hl ⊢)

end Go.Proofs.Ytdmcicgappgiiaa
