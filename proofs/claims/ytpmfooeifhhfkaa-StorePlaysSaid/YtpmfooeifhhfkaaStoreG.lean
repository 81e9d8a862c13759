/-
  What Parents, Leaves, All and Of tell, slot by slot: plain.
-/
import Derived.Test.YtpmfooeifhhfkaaStoreF
namespace Go.Proofs.Ytpmfooeifhhfkaa
open Go.RowKit Go.Maps Go.Shelf

theorem flat_congr {α β : Type} {f g : α → List β} : ∀ {L : List α}, (∀ x ∈ L, f x = g x) → L.flatMap f = L.flatMap g
  | [], _ => rfl
  | x :: L, h => by rw [List.flatMap_cons, List.flatMap_cons, h x List.mem_cons_self, flat_congr fun y hy => h y (List.mem_cons_of_mem _ hy)]
theorem fin_range_val (n : Nat) : (List.finRange n).map Fin.val = List.range n := by
  apply List.ext_getElem
  · simp
  · intro i h1 h2; simp
theorem range8 {α : Type} (g : Nat → Nat → List α) : ∀ n, (List.range (8 * n)).flatMap (fun k => g (k / 8) (k % 8)) = (List.range n).flatMap fun j => (List.range 8).flatMap (g j)
  | 0 => rfl
  | n + 1 => by
    rw [show 8 * (n + 1) = 8 * n + 8 by omega, List.range_add, List.flatMap_append, range8 g n, show List.range (n + 1) = List.range n ++ [n] from List.range_succ, List.flatMap_append]
    congr 1
    rw [List.flatMap_map]
    simp only [List.flatMap_cons, List.flatMap_nil, List.append_nil]
    apply flat_congr
    intro i hi
    rw [List.mem_range] at hi
    rw [show (8 * n + i) / 8 = n by omega, show (8 * n + i) % 8 = i by omega]
theorem range_list {α β : Type} [Inhabited α] (f : α → List β) (L : List α) : (List.range L.length).flatMap (fun j => f (L.getD j default)) = L.flatMap f := by
  rw [← List.flatMap_map]
  congr 1
  apply List.ext_getElem
  · simp
  · intro i h1 h2
    have : i < L.length := by simpa using h2
    simp [List.getD_eq_getElem?_getD, this]
instance Pg.inh : Inhabited Pg := ⟨⟨0, ⟨0, 0, 0⟩, []⟩⟩
instance Slt.inh : Inhabited Slt := ⟨Slt.no⟩
/-- what is told of all slots is what is told page by page -/
theorem allI_flat {β : Type} (L : List Pg) (G : Pg → Nat → List β) : (allI L.length).flatMap (fun x => G (pgX L x) (x.val % 8)) = L.flatMap fun p => (List.range 8).flatMap (G p) := by
  have e : ∀ x : Ix8 L.length, G (pgX L x) (x.val % 8) = (fun k => G (L.getD (k / 8) default) (k % 8)) x.val := fun x => by
    have hx := x.isLt
    simp [pgX, List.getD_eq_getElem?_getD, show x.val / 8 < L.length by omega]
  have e2 : (allI L.length).flatMap (fun x => (fun k => G (L.getD (k / 8) default) (k % 8)) x.val) = ((allI L.length).map Fin.val).flatMap (fun k => G (L.getD (k / 8) default) (k % 8)) := by rw [List.flatMap_map]
  rw [flat_congr (fun x _ => e x), e2]
  unfold allI
  rw [fin_range_val, range8 (fun j i => G (L.getD j default) i) L.length]
  exact range_list (fun p => (List.range 8).flatMap (G p)) L

theorem toldF_flat (kind to_ f : Int) : ∀ (l : List Slt) (j : Nat), toldF kind to_ f j l = (List.range l.length).flatMap fun i => if (l.getD i default).kind = kind ∧ (l.getD i default).to_ = to_ then [(f, ((j + i : Nat) : Int))] else []
  | [], _ => rfl
  | x :: l, j => by
    rw [toldF, toldF_flat kind to_ f l (j + 1), List.length_cons, List.range_succ_eq_map, List.flatMap_cons, List.flatMap_map]
    congr 1
    apply flat_congr
    intro i _
    simp only [List.getD_cons_succ]
    rw [show j + 1 + i = j + (i + 1) by omega]

/-- a slot that is told -/
def slX (L : List Pg) (x : Ix8 L.length) : Slt := (pgX L x).s.getD (x.val % 8) default
/-- the links among slots -/
def lnkF (kind to_ : Int) (L : List Pg) (pre : List (Ix8 L.length)) : List (Int × Int) := pre.flatMap fun x => if (slX L x).kind = kind ∧ (slX L x).to_ = to_ then [((pgX L x).f, ((x.val % 8 : Nat) : Int))] else []
theorem lnkF_all {L : List Pg} (h8 : ∀ p ∈ L, p.s.length = 8) (kind to_ : Int) : lnkF kind to_ L (allI L.length) = toldP kind to_ L := by
  unfold lnkF toldP
  have := allI_flat L (fun p i => if (p.s.getD i default).kind = kind ∧ (p.s.getD i default).to_ = to_ then [(p.f, ((i : Nat) : Int))] else [])
  unfold slX
  rw [this]
  apply flat_congr
  intro p hp
  rw [toldF_flat, h8 p hp]
  apply flat_congr
  intro i _
  rw [Nat.zero_add]
theorem lnkF_snoc (kind to_ : Int) (L : List Pg) (pre : List (Ix8 L.length)) (x : Ix8 L.length) : lnkF kind to_ L (pre ++ [x]) = lnkF kind to_ L pre ++ (if (slX L x).kind = kind ∧ (slX L x).to_ = to_ then [((pgX L x).f, ((x.val % 8 : Nat) : Int))] else []) := by
  unfold lnkF; rw [List.flatMap_append]; simp
theorem lnkF_len (kind to_ : Int) (L : List Pg) : ∀ pre : List (Ix8 L.length), (lnkF kind to_ L pre).length ≤ pre.length
  | [] => by simp [lnkF]
  | x :: pre => by
    have := lnkF_len kind to_ L pre
    unfold lnkF at this ⊢
    rw [List.flatMap_cons, List.length_append, List.length_cons]
    split
    · simp only [List.length_cons, List.length_nil]; omega
    · simp only [List.length_nil]; omega

/-- the pages of which q says so, among slots -/
def tldF (so : Ky → Bool) (L : List Pg) (pre : List (Ix8 L.length)) : List Int := pre.flatMap fun x => if x.val % 8 = 0 ∧ so (pgX L x).k = true then [(pgX L x).f] else []
theorem tldF_all (so : Ky → Bool) (L : List Pg) : tldF so L (allI L.length) = (L.filter fun p => so p.k).map Pg.f := by
  unfold tldF
  have := allI_flat L (fun p i => if i = 0 ∧ so p.k = true then [p.f] else [])
  rw [this]
  have e : ∀ p : Pg, ((List.range 8).flatMap fun i => if i = 0 ∧ so p.k = true then [p.f] else []) = if so p.k = true then [p.f] else [] := fun p => by
    rw [show List.range 8 = [0, 1, 2, 3, 4, 5, 6, 7] from rfl]
    by_cases h : so p.k = true <;> simp [h]
  rw [flat_congr (fun p _ => e p)]
  induction L with
  | nil => rfl
  | cons p L ih =>
    have ih' : (L.flatMap fun p => if so p.k = true then [p.f] else []) = (L.filter fun p => so p.k).map Pg.f := by
      clear ih this
      induction L with
      | nil => rfl
      | cons q L ih2 =>
        rw [List.flatMap_cons, List.filter_cons, ih2]
        by_cases h : so q.k = true <;> simp [h]
    rw [List.flatMap_cons, List.filter_cons, ih']
    by_cases h : so p.k = true <;> simp [h]
theorem tldF_snoc (so : Ky → Bool) (L : List Pg) (pre : List (Ix8 L.length)) (x : Ix8 L.length) : tldF so L (pre ++ [x]) = tldF so L pre ++ (if x.val % 8 = 0 ∧ so (pgX L x).k = true then [(pgX L x).f] else []) := by
  unfold tldF; rw [List.flatMap_append]; simp
theorem tldF_len (so : Ky → Bool) (L : List Pg) : ∀ pre : List (Ix8 L.length), (tldF so L pre).length ≤ pre.length
  | [] => by simp [tldF]
  | x :: pre => by
    have := tldF_len so L pre
    unfold tldF at this ⊢
    rw [List.flatMap_cons, List.length_append, List.length_cons]
    split
    · simp only [List.length_cons, List.length_nil]; omega
    · simp only [List.length_nil]; omega

/-- pairs of numbers, as structs At -/
def atE : Enc (Int × Int) := ⟨fun x => [.int .i64 x.1, .int .i64 x.2], 2, by decide, fun _ => rfl, fun x u hu => by
  simp only [List.mem_cons, List.not_mem_nil, or_false] at hu
  rcases hu with rfl | rfl <;> rfl⟩
theorem At_info : ((Try.prog.info? 70).map (fun i => (i.zero, i.size, i.bytes))) = some (some (.agg #[.int .i64 0, .int .i64 0]), 2, 16) := by kernel_rfl

end Go.Proofs.Ytpmfooeifhhfkaa
