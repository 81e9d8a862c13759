/-
  Plain facts on machines: whose a frame is. No program is walked here.
-/
import Derived.Test.YtkggkdjhecagnaaG3
namespace Go.Proofs.Ytkggkdjhecagnaa
open Go.RowKit

/-- a machine -/
structure Cf where
  host : Int
  map : List Int
  first : Int
  many : Int
  tlb : Int
  asids : Int
  root : Int
def Cf.pool (c : Cf) (f : Int) : Bool := decide (c.first ≤ f ∧ f < c.first + c.many)
structure Cf.Ok (c : Cf) : Prop where
  map : OkL c.map c.host
  first : 0 ≤ c.first
  many : 0 ≤ c.many
  room : c.first + c.many ≤ c.host
  apart : ∀ h ∈ c.map, c.pool h = false
  tlb : 1 ≤ c.tlb ∧ c.tlb ≤ 64
  asids : 1 ≤ c.asids ∧ c.asids ≤ 8
  root : 0 ≤ c.root ∧ c.root ≤ 255
noncomputable def Cf.right (c : Cf) : Bool := @decide c.Ok (Classical.propDecidable _)
theorem Cf.right_iff (c : Cf) : c.right = true ↔ c.Ok := by unfold Cf.right; exact @decide_eq_true_iff _ (Classical.propDecidable _)
theorem Cf.right_no {c : Cf} (h : ¬ c.Ok) : c.right = false := by rw [Bool.eq_false_iff, Ne, Cf.right_iff]; exact h
/-- those of the first n frames of which something is so -/
def pickF (p : Int → Bool) (n : Nat) : List Int := ((List.range n).map fun i : Nat => (i : Int)).filter p
def Cf.img (c : Cf) (f : Int) : Bool := c.map.contains f
def Cf.frn (c : Cf) (f : Int) : Bool := !c.map.contains f && !c.pool f
noncomputable def Cf.image (c : Cf) : List Int := if c.right then pickF c.img c.host.toNat else []
noncomputable def Cf.foreign (c : Cf) : List Int := if c.right then pickF c.frn c.host.toNat else []

theorem pickF_zero (p : Int → Bool) : pickF p 0 = [] := rfl
theorem pickF_succ (p : Int → Bool) (n : Nat) : pickF p (n + 1) = pickF p n ++ if p n then [(n : Int)] else [] := by
  unfold pickF
  rw [List.range_succ, List.map_append, List.filter_append]
  congr 1
  cases h : p n <;> simp [h]
theorem pickF_mem {p : Int → Bool} {n : Nat} {x : Int} : x ∈ pickF p n ↔ 0 ≤ x ∧ x < n ∧ p x = true := by
  unfold pickF
  rw [List.mem_filter, List.mem_map]
  constructor
  · rintro ⟨⟨i, hi, rfl⟩, h⟩
    rw [List.mem_range] at hi
    exact ⟨by omega, by omega, h⟩
  · rintro ⟨h0, h1, h⟩
    exact ⟨⟨x.toNat, List.mem_range.2 (by omega), by omega⟩, h⟩
theorem pickF_up (p : Int → Bool) (n : Nat) : (pickF p n).Pairwise (· < ·) := by
  unfold pickF
  refine List.Pairwise.filter _ ?_
  rw [List.pairwise_map]
  exact List.pairwise_lt_range.imp (fun h => by omega)
theorem pickF_nodup (p : Int → Bool) (n : Nat) : (pickF p n).Nodup := (pickF_up p n).imp (fun h => by omega)
theorem pickF_le (p : Int → Bool) (n : Nat) : (pickF p n).length ≤ n := by
  unfold pickF
  have := List.length_filter_le p ((List.range n).map fun i : Nat => (i : Int))
  simpa using this
theorem pickF_congr {p q : Int → Bool} {n : Nat} (h : ∀ x : Int, 0 ≤ x → x < n → p x = q x) : pickF p n = pickF q n := by
  unfold pickF
  apply List.filter_congr
  intro x hx
  rw [List.mem_map] at hx
  obtain ⟨i, hi, rfl⟩ := hx
  rw [List.mem_range] at hi
  exact h _ (by omega) (by omega)
/-- those of two kinds that no frame is both of -/
theorem pickF_or {p q : Int → Bool} (n : Nat) (h : ∀ x : Int, 0 ≤ x → x < n → ¬ (p x = true ∧ q x = true)) : (pickF (fun x => p x || q x) n).length = (pickF p n).length + (pickF q n).length := by
  induction n with
  | zero => rfl
  | succ n ih =>
    rw [pickF_succ, pickF_succ, pickF_succ, List.length_append, List.length_append, List.length_append, ih (fun x h0 h1 => h x h0 (by omega))]
    have := h n (by omega) (by omega)
    cases hp : p n <;> cases hq : q n <;> simp [hp, hq] at this ⊢ <;> omega
theorem pickF_in (a m n : Nat) : (pickF (fun x => decide ((a : Int) ≤ x ∧ x < a + m)) n).length = min (n - a) m := by
  induction n with
  | zero => simp [pickF_zero]
  | succ n ih =>
    rw [pickF_succ, List.length_append, ih]
    by_cases h : (a : Int) ≤ n ∧ (n : Int) < a + m
    · rw [if_pos (by simpa using h)]; simp; omega
    · rw [if_neg (by simpa using h)]; simp; omega
/-- as many as the list has -/
theorem pickF_list {n : Nat} : ∀ {L : List Int}, L.Nodup → (∀ x ∈ L, 0 ≤ x ∧ x < n) → (pickF (fun x => L.contains x) n).length = L.length
  | [], _, _ => by
    rw [List.length_eq_zero_iff.2]; rfl
    unfold pickF; rw [List.filter_eq_nil_iff]; intro x _; simp
  | y :: L, hd, h => by
    rw [List.nodup_cons] at hd
    have ih := pickF_list hd.2 (fun x hx => h x (by simp [hx]))
    have hy := h y (by simp)
    have e : pickF (fun x => (y :: L).contains x) n = pickF (fun x => decide (((y.toNat : Nat) : Int) ≤ x ∧ x < (y.toNat : Nat) + (1 : Nat)) || L.contains x) n := by
      apply pickF_congr
      intro x _ _
      rw [List.contains_cons]
      congr 1
      rw [Bool.eq_iff_iff]; simp; omega
    rw [e, pickF_or, pickF_in, ih, List.length_cons]
    · omega
    · intro x _ _ hx
      simp only [decide_eq_true_eq, List.contains_iff_mem] at hx
      have : x = y := by omega
      exact hd.1 (this ▸ hx.2)

section
variable {c : Cf}
theorem Cf.image_of (h : c.Ok) : c.image = pickF c.img c.host.toNat := by unfold Cf.image; rw [if_pos ((Cf.right_iff c).2 h)]
theorem Cf.foreign_of (h : c.Ok) : c.foreign = pickF c.frn c.host.toNat := by unfold Cf.foreign; rw [if_pos ((Cf.right_iff c).2 h)]
theorem Cf.image_no (h : ¬ c.Ok) : c.image = [] := by unfold Cf.image; rw [Cf.right_no h]; rfl
theorem Cf.foreign_no (h : ¬ c.Ok) : c.foreign = [] := by unfold Cf.foreign; rw [Cf.right_no h]; rfl
theorem Cf.Ok.host (h : c.Ok) : 1 ≤ c.host ∧ c.host ≤ 256 := ⟨h.map.2.2.1, h.map.2.2.2.1⟩
theorem Cf.Ok.bound (h : c.Ok) : ∀ x ∈ c.map, 0 ≤ x ∧ x < (c.host.toNat : Int) := fun x hx => by
  have := h.map.2.2.2.2.1 x hx; omega
theorem Cf.image_len (h : c.Ok) : c.image.length = c.map.length := by
  rw [Cf.image_of h]; exact pickF_list h.map.2.2.2.2.2 h.bound
theorem Cf.img_iff {f : Int} : c.img f = true ↔ f ∈ c.map := by unfold Cf.img; exact List.contains_iff_mem
theorem Cf.frn_iff {f : Int} : c.frn f = true ↔ f ∉ c.map ∧ c.pool f = false := by
  unfold Cf.frn; rw [Bool.and_eq_true, Bool.not_eq_true', Bool.not_eq_true', Bool.eq_false_iff, Ne, List.contains_iff_mem]
/-- a host with one frame more -/
theorem Cf.more_ok (h : c.Ok) : Cf.Ok { c with host := c.host + 1 } ↔ c.host < 256 := by
  obtain ⟨⟨m1, m2, m3, m4, m5, m6⟩, hf, hm, hr, ha, ht, has, hro⟩ := h
  constructor
  · intro k; have := k.map.2.2.2.1; simp only at this; omega
  · intro k
    exact ⟨⟨m1, m2, by simp only; omega, by simp only; omega, fun x hx => by have := m5 x hx; simp only; omega, m6⟩, hf, hm, by simp only; omega, ha, ht, has, hro⟩
theorem Cf.more_foreign (h : c.Ok) (k : c.host < 256) : (Cf.foreign { c with host := c.host + 1 }).length = c.foreign.length + 1 := by
  rw [Cf.foreign_of ((Cf.more_ok h).2 k), Cf.foreign_of h]
  have e : (c.host + 1).toNat = c.host.toNat + 1 := by have := h.host; omega
  have e2 : Cf.frn { c with host := c.host + 1 } = c.frn := rfl
  simp only [e, e2]
  rw [pickF_succ, List.length_append]
  have hh := h.host
  have : c.frn (c.host.toNat : Int) = true := by
    rw [Cf.frn_iff]
    refine ⟨fun hm => by have := h.bound _ hm; omega, ?_⟩
    unfold Cf.pool; rw [decide_eq_false_iff_not]
    have := h.room; omega
  rw [if_pos this]; rfl
/-- no frames, or fewer, for shadow pages -/
theorem Cf.fewer_ok (h : c.Ok) {k : Int} (k0 : 0 ≤ k) (k1 : k ≤ c.many) : Cf.Ok { c with many := k } := by
  obtain ⟨hm, hf, hm0, hr, ha, ht, has, hro⟩ := h
  refine ⟨hm, hf, k0, by simp only; omega, fun x hx => ?_, ht, has, hro⟩
  have := ha x hx
  unfold Cf.pool at this ⊢
  rw [decide_eq_false_iff_not] at this ⊢
  simp only; omega
/-- the frames that are given up -/
def Cf.given (c : Cf) (k : Int) (f : Int) : Bool := decide (c.first + k ≤ f ∧ f < c.first + c.many)
theorem Cf.fewer_foreign (h : c.Ok) {k : Int} (k0 : 0 ≤ k) (k1 : k ≤ c.many) : (Cf.foreign { c with many := k }).length = c.foreign.length + (c.many - k).toNat := by
  rw [Cf.foreign_of (Cf.fewer_ok h k0 k1), Cf.foreign_of h]
  have hh := h.host
  have hr := h.room
  have h0 := h.first
  have e : pickF (Cf.frn { c with many := k }) c.host.toNat = pickF (fun x => c.frn x || decide ((((c.first + k).toNat : Nat) : Int) ≤ x ∧ x < ((c.first + k).toNat : Nat) + ((c.many - k).toNat : Nat))) c.host.toNat := by
    apply pickF_congr
    intro x x0 x1
    rw [Bool.eq_iff_iff, Bool.or_eq_true, Cf.frn_iff, Cf.frn_iff]
    unfold Cf.pool
    simp only [decide_eq_false_iff_not, decide_eq_true_eq]
    constructor
    · rintro ⟨hn, hp⟩
      by_cases hq : c.first + k ≤ x ∧ x < c.first + c.many
      · right; omega
      · left; exact ⟨hn, by omega⟩
    · rintro (⟨hn, hp⟩ | hp)
      · exact ⟨hn, by omega⟩
      · refine ⟨fun hm => ?_, by omega⟩
        have := h.apart x hm
        unfold Cf.pool at this
        rw [decide_eq_false_iff_not] at this
        omega
  simp only [e]
  rw [pickF_or, pickF_in]
  · congr 1; omega
  · intro x _ _ hx
    rw [Cf.frn_iff] at hx
    unfold Cf.pool at hx
    simp only [decide_eq_false_iff_not, decide_eq_true_eq] at hx
    omega
/-- with another list of the same frames -/
theorem Cf.map_ok {L : List Int} (hl : L.length = c.map.length) (hm : ∀ x, x ∈ L ↔ x ∈ c.map) (hd : L.Nodup ↔ c.map.Nodup) : Cf.Ok { c with map := L } ↔ c.Ok := by
  constructor
  · rintro ⟨⟨m1, m2, m3, m4, m5, m6⟩, hf, hm0, hr, ha, ht, has, hro⟩
    exact ⟨⟨hl ▸ m1, hl ▸ m2, m3, m4, fun x hx => m5 x ((hm x).2 hx), hd.1 m6⟩, hf, hm0, hr, fun x hx => ha x ((hm x).2 hx), ht, has, hro⟩
  · rintro ⟨⟨m1, m2, m3, m4, m5, m6⟩, hf, hm0, hr, ha, ht, has, hro⟩
    exact ⟨⟨hl ▸ m1, hl ▸ m2, m3, m4, fun x hx => m5 x ((hm x).1 hx), hd.2 m6⟩, hf, hm0, hr, fun x hx => ha x ((hm x).1 hx), ht, has, hro⟩
theorem Cf.map_same {L : List Int} (hl : L.length = c.map.length) (hm : ∀ x, x ∈ L ↔ x ∈ c.map) (hd : L.Nodup ↔ c.map.Nodup) :
    Cf.right { c with map := L } = c.right ∧ Cf.image { c with map := L } = c.image ∧ Cf.foreign { c with map := L } = c.foreign := by
  have hk := Cf.map_ok (c := c) hl hm hd
  have e1 : Cf.right { c with map := L } = c.right := by rw [Bool.eq_iff_iff, Cf.right_iff, Cf.right_iff]; exact hk
  have hc : ∀ x, L.contains x = c.map.contains x := fun x => by rw [Bool.eq_iff_iff, List.contains_iff_mem, List.contains_iff_mem]; exact hm x
  have e2 : Cf.img { c with map := L } = c.img := by funext x; exact hc x
  have e3 : Cf.frn { c with map := L } = c.frn := by funext x; unfold Cf.frn; simp only [hc]; rfl
  refine ⟨e1, ?_, ?_⟩
  · unfold Cf.image; rw [e1, e2]
  · unfold Cf.foreign; rw [e1, e3]
end

/-! ### a list in another order: from a place on, backwards -/
def turnL (L : List Int) (at_ : Nat) : List Int := (List.range L.length).map fun i => L.getD ((L.length - 1 - i + at_) % L.length) 0
theorem turnL_len (L : List Int) (a : Nat) : (turnL L a).length = L.length := by simp [turnL]
theorem turn_place {n a i : Nat} (hi : i < n) : (n - 1 - (n - 1 - i + a) % n + a) % n = i := by
  have hn : 0 < n := by omega
  have h1 := Nat.mod_lt (n - 1 - i + a) hn
  have h2 := Nat.div_add_mod (n - 1 - i + a) n
  generalize (n - 1 - i + a) % n = r at *
  generalize (n - 1 - i + a) / n = q at *
  have : n - 1 - r + a = i + n * q := by omega
  rw [this, Nat.add_mul_mod_self_left, Nat.mod_eq_of_lt hi]
theorem turnL_mem (L : List Int) (a : Nat) (x : Int) : x ∈ turnL L a ↔ x ∈ L := by
  unfold turnL
  rw [List.mem_map]
  constructor
  · rintro ⟨i, hi, rfl⟩
    rw [List.mem_range] at hi
    have := Nat.mod_lt (L.length - 1 - i + a) (show 0 < L.length by omega)
    rw [List.getD_eq_getElem?_getD, List.getElem?_eq_getElem this]
    exact List.getElem_mem _
  · intro hx
    obtain ⟨i, hi, rfl⟩ := List.getElem_of_mem hx
    refine ⟨(L.length - 1 - i + a) % L.length, List.mem_range.2 (Nat.mod_lt _ (by omega)), ?_⟩
    rw [turn_place hi, List.getD_eq_getElem?_getD, List.getElem?_eq_getElem hi]; rfl
theorem nodup_iff_getD {L : List Int} : L.Nodup ↔ ∀ i j, i < L.length → j < L.length → L.getD i 0 = L.getD j 0 → i = j := by
  constructor
  · intro h i j hi hj e
    rw [List.getD_eq_getElem?_getD, List.getD_eq_getElem?_getD, List.getElem?_eq_getElem hi, List.getElem?_eq_getElem hj] at e
    rw [List.nodup_iff_pairwise_ne, List.pairwise_iff_getElem] at h
    simp only [Option.getD_some] at e
    rcases Nat.lt_trichotomy i j with hl | hl | hl
    · exact absurd e (h i j hi hj hl)
    · exact hl
    · exact absurd e.symm (h j i hj hi hl)
  · intro h
    rw [List.nodup_iff_pairwise_ne, List.pairwise_iff_getElem]
    intro i j hi hj hij e
    have := h i j hi hj (by rw [List.getD_eq_getElem?_getD, List.getD_eq_getElem?_getD, List.getElem?_eq_getElem hi, List.getElem?_eq_getElem hj, e])
    omega
theorem turnL_get (L : List Int) (a : Nat) {i : Nat} (hi : i < L.length) : (turnL L a).getD i 0 = L.getD ((L.length - 1 - i + a) % L.length) 0 := by
  unfold turnL
  rw [List.getD_eq_getElem?_getD, List.getElem?_map, List.getElem?_range hi]; rfl
theorem turnL_nodup (L : List Int) (a : Nat) : (turnL L a).Nodup ↔ L.Nodup := by
  rw [nodup_iff_getD, nodup_iff_getD, turnL_len]
  constructor
  · intro h i j hi hj e
    have hn : 0 < L.length := by omega
    have := h _ _ (Nat.mod_lt (L.length - 1 - i + a) hn) (Nat.mod_lt (L.length - 1 - j + a) hn) (by rw [turnL_get _ _ (Nat.mod_lt _ hn), turnL_get _ _ (Nat.mod_lt _ hn), turn_place hi, turn_place hj, e])
    rw [← turn_place (a := a) hi, ← turn_place (a := a) hj, this]
  · intro h i j hi hj e
    have hn : 0 < L.length := by omega
    rw [turnL_get _ _ hi, turnL_get _ _ hj] at e
    have := h _ _ (Nat.mod_lt _ hn) (Nat.mod_lt _ hn) e
    rw [← turn_place (a := a) hi, ← turn_place (a := a) hj, this]
theorem turnL_succ (L : List Int) (a : Nat) {k : Nat} (_hk : k < L.length) : ((List.range (k + 1)).map fun i => L.getD ((L.length - 1 - i + a) % L.length) 0) = ((List.range k).map fun i => L.getD ((L.length - 1 - i + a) % L.length) 0) ++ [L.getD ((L.length - 1 - k + a) % L.length) 0] := by
  rw [List.range_succ, List.map_append]; rfl

end Go.Proofs.Ytkggkdjhecagnaa
