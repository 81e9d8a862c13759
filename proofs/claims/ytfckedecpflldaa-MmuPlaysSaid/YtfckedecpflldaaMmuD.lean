/-
  Calls of a host's machine, as they come in; rights that are not unlike.
-/
import Derived.Test.YtfckedecpflldaaMmuHead
import Derived.Test.YtfckedecpflldaaRowG
namespace Go.Proofs.Ytfckedecpflldaa
open Go.RowKit

set_option maxRecDepth 100000 in
theorem run_neR15 (a : Rg) (w : World) : (binOp .neq 47 (.agg a.cs) (.agg a.cs)).run Try.prog w = .ok (.bool false) w := by
  have h := run_eqR a a w
  rw [run_eql_struct] at h
  rw [run_neq_struct]
  cases hh : (Op.equalIn 10000 47 (.agg a.cs) (.agg a.cs)).run Try.prog w with
  | ok b w' =>
    rw [hh] at h
    simp only [Result.andThen, Rg.eqb_self] at h ⊢
    injection h with h1 h2
    injection h1 with h1
    subst h1; subst h2; rfl
  | halt x w' => rw [hh] at h; cases h


/-- a call -/
structure OpX where
  what : Int
  root : Int
  asid : Int
  page : Int
  kind : Int
  user : Bool
  f : Int
  i : Int
  v : Int
def OpX.cs (o : OpX) : Array Value := #[.int .i64 o.what, .int .i64 o.root, .int .i64 o.asid, .int .i64 o.page, .int .i64 o.kind, .bool o.user, .int .i64 o.f, .int .i64 o.i, .int .u64 o.v]
def OpX.Wf (o : OpX) : Prop := 0 ≤ o.v ∧ o.v < 18446744073709551616
def opX : Enc OpX := ⟨fun o => o.cs.toList, 9, by decide, fun _ => rfl, fun o u hu => by
  simp only [OpX.cs, List.mem_cons, List.not_mem_nil, or_false] at hu
  rcases hu with rfl | rfl | rfl | rfl | rfl | rfl | rfl | rfl | rfl <;> rfl⟩
theorem opX_cells {w : World} {A : Option Addr} {n : Nat} {L : List OpX} (h : SlG opX w A n L) {k : Nat} (hk : k < n) : ∃ b off o, A = some ⟨b, off, none⟩ ∧ L[k]? = some o ∧
    w.cell? ⟨b, off + k * 9, none⟩ = some (.int .i64 o.what) ∧ w.cell? ⟨b, off + k * 9 + 1, none⟩ = some (.int .i64 o.root) ∧ w.cell? ⟨b, off + k * 9 + 2, none⟩ = some (.int .i64 o.asid) ∧ w.cell? ⟨b, off + k * 9 + 3, none⟩ = some (.int .i64 o.page) ∧
    w.cell? ⟨b, off + k * 9 + 4, none⟩ = some (.int .i64 o.kind) ∧ w.cell? ⟨b, off + k * 9 + 5, none⟩ = some (.bool o.user) ∧ w.cell? ⟨b, off + k * 9 + 6, none⟩ = some (.int .i64 o.f) ∧ w.cell? ⟨b, off + k * 9 + 7, none⟩ = some (.int .i64 o.i) ∧
    w.cell? ⟨b, off + k * 9 + 8, none⟩ = some (.int .u64 o.v) := by
  obtain ⟨b, off, x, e, _, hx, hat⟩ := h.get hk
  exact ⟨b, off, x, e, hx, hat 0 _ rfl, hat 1 _ rfl, hat 2 _ rfl, hat 3 _ rfl, hat 4 _ rfl, hat 5 _ rfl, hat 6 _ rfl, hat 7 _ rfl, hat 8 _ rfl⟩
/-- calls that came in -/
structure OpsX (w : World) (A : Option Addr) (n : Nat) (L : List OpX) : Prop where
  sl : SlG opX w A n L
  wf : ∀ o ∈ L, o.Wf
theorem OpsX.new {w w' : World} {A : Option Addr} {n : Nat} {L : List OpX} (h : OpsX w A n L) (hc : Chg [] w w') : OpsX w' A n L := ⟨h.sl.new hc, h.wf⟩
theorem OpsX.at_ {w : World} {A : Option Addr} {n : Nat} {L : List OpX} (h : OpsX w A n L) {k : Nat} {o : OpX} (ho : L[k]? = some o) : o.Wf := h.wf o (List.mem_of_getElem? ho)

end Go.Proofs.Ytfckedecpflldaa
