/-
  A host's machine: plain facts on walks, level by level; on numbers of pages; results in a slot, in a cell and in a slot.
-/
import Derived.Test.YtfckedecpflldaaMmuP
import Derived.Test.YtfckedecpflldaaWdW
namespace Go.Proofs.Ytfckedecpflldaa
open Go.RowKit

/-- behind k levels: where the walk stands, and what may be done -/
def walkK (n : Nat) (W : List Int) (root page : Int) : Nat → Option (Int × Rg)
  | 0 => some (root, Rg.all)
  | k + 1 => (walkK n W root page k).bind fun x => (rdH n W x.1 (idxI page (3 - k))).map fun e => (e.f, x.2.and (ofE e))
theorem walkK_3 (n : Nat) (W : List Int) (root page : Int) : walkK n W root page 3 = walkH n W root page := by
  unfold walkH
  simp only [walkK, Option.bind_some, show (3 : Int) - ((0 : Nat) : Int) = 3 from rfl, show (3 : Int) - ((1 : Nat) : Int) = 2 from rfl, show (3 : Int) - ((2 : Nat) : Int) = 1 from rfl]
  cases rdH n W root (idxI page 3) with
  | none => rfl
  | some e3 =>
    simp only [Option.map_some, Option.bind_some]
    cases rdH n W e3.f (idxI page 2) with
    | none => rfl
    | some e2 => simp only [Option.map_some, Option.bind_some]
theorem walkK_stop {n : Nat} {W : List Int} {root page f : Int} {r : Rg} {k : Nat} (hk : k < 3) (h : walkK n W root page k = some (f, r)) (hr : rdH n W f (idxI page (3 - k)) = none) : walkH n W root page = none := by
  have h1 : walkK n W root page (k + 1) = none := by rw [walkK, h, Option.bind_some, hr]; rfl
  have h2 : ∀ j, walkK n W root page (k + 1 + j) = none := fun j => by
    induction j with
    | zero => exact h1
    | succ j ih => rw [← Nat.add_assoc, walkK, ih]; rfl
  have := h2 (2 - k)
  rw [show k + 1 + (2 - k) = 3 by omega, walkK_3] at this
  exact this
theorem walkK_go {n : Nat} {W : List Int} {root page f : Int} {r : Rg} {k : Nat} {e : Ent} (h : walkK n W root page k = some (f, r)) (hr : rdH n W f (idxI page (3 - k)) = some e) : walkK n W root page (k + 1) = some (e.f, r.and (ofE e)) := by
  rw [walkK, h, Option.bind_some, hr]; rfl
theorem rd_yes {n : Nat} {W : List Int} {f i : Int} (h1 : hasW n f i = true) (h2 : (getE (getW n W f i).toNat).p = true) : rdH n W f i = some (getE (getW n W f i).toNat) := by
  unfold rdH; rw [h1, h2]; rfl
theorem rd_no {n : Nat} {W : List Int} {f i : Int} (h : hasW n f i = false ∨ (getE (getW n W f i).toNat).p = false) : rdH n W f i = none := by
  unfold rdH; rcases h with h | h <;> rw [h] <;> simp
/-- what a walk tells -/
def walkF (n : Nat) (W : List Int) (root page : Int) : Int := ((walkH n W root page).map Prod.fst).getD 0
def walkR (n : Nat) (W : List Int) (root page : Int) : Rg := ((walkH n W root page).map Prod.snd).getD ⟨false, false, false⟩
theorem walk_is {n : Nat} {W : List Int} {root page f : Int} {r : Rg} (h : walkH n W root page = some (f, r)) : walkF n W root page = f ∧ walkR n W root page = r ∧ (walkH n W root page).isSome = true := by
  unfold walkF walkR; rw [h]; exact ⟨rfl, rfl, rfl⟩
theorem walk_not {n : Nat} {W : List Int} {root page : Int} (h : walkH n W root page = none) : walkF n W root page = 0 ∧ walkR n W root page = ⟨false, false, false⟩ ∧ (walkH n W root page).isSome = false := by
  unfold walkF walkR; rw [h]; exact ⟨rfl, rfl, rfl⟩
/-! numbers of pages -/
theorem idx_mod (p l : Int) : idxI (p % 512) l = idxI p l := by
  unfold idxI
  have e1 : p % 512 % 512 = p % 512 := Int.emod_emod_of_dvd p (Int.dvd_refl 512)
  have e2 : p % 512 % 8 = p % 8 := Int.emod_emod_of_dvd p ⟨64, rfl⟩
  rw [e1, e2]
theorem walk_mod (n : Nat) (W : List Int) (root p : Int) : walkH n W root (p % 512) = walkH n W root p := by
  unfold walkH; simp only [idx_mod]
theorem join_mod (p : Int) : (pageN (joinN p 0) : Int) = p % 512 := by
  unfold pageN joinN canonN
  have h1 := Int.emod_nonneg p (show (512 : Int) ≠ 0 by decide)
  have h2 := Int.emod_lt_of_pos p (show (0 : Int) < 512 by decide)
  have h3 : ((0 : Int) % 8).toNat = 0 := rfl
  rw [h3]
  generalize p % 512 = q at *
  obtain ⟨Q, rfl⟩ := Int.eq_ofNat_of_zero_le h1
  simp only [Int.toNat_natCast]
  split <;> omega

/-- results in a slot, in a cell as a whole, and in a slot -/
theorem tct_ret {P : Program} {fn : Func} {r p q : Tmp} {ty : TypeId} (h : fn.results = #[.tmp r, .cell p ty, .tmp q]) {tmps : Array Value} {w : World} {g : Nat} {t : TypeId} {cs : Array Value} {d : TypeDesc} {u v : Value} (hb : Blk w g t cs)
    (hr : tmps.getD r undef = u) (hp : tmps.getD p undef = .pointer (some ⟨g, 0, none⟩)) (hq : tmps.getD q undef = v) (hu : P.underlying ty = some d) (hd : (match d with | .struct _ | .array _ _ => true | _ => false) = true) (hi : (P.info? ty).map (·.size) = some cs.size) :
    (results fn tmps).run P w = .ok (.tuple #[u, .agg cs, v]) w := by
  have hr' : tmps[r]?.getD undef = u := by simpa using hr
  have hp' : tmps[p]?.getD undef = .pointer (some ⟨g, 0, none⟩) := by simpa using hp
  have hq' : tmps[q]?.getD undef = v := by simpa using hq
  simp [results, h, hr', hp', hq', asAddr, run_loadVar_row w g t ty cs (0, 0) d hb hu hd hi]

end Go.Proofs.Ytfckedecpflldaa
