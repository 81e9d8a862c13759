/-
  Keys, slots held against each other; the contract of package store's Find.
-/
import Derived.Test.YtpmfooeifhhfkaaStoreD
namespace Go.Proofs.Ytpmfooeifhhfkaa
open Go.RowKit Go.Maps Go.Shelf

set_option maxRecDepth 100000 in
theorem run_inKy (a b : Ky) (w : World) : (Op.equalIn 10000 24 (.agg a.cs) (.agg b.cs)).run Try.prog w = .ok (decide (a = b)) w := by
  have e : decide (a = b) = (a.g == b.g && (a.lev == b.lev && a.role == b.role)) := by
    rw [Bool.eq_iff_iff, decide_eq_true_eq, Ky.ext_]; simp
  rw [e]
  unfold Ky.cs
  rw [run_equalIn_struct w 9999 _ _ _ (by kernel_rfl) (by kernel_rfl)]
  simp only [Program.fieldsOf, Try.underlying24]
  refine fields_step (c := a.g == b.g) (by decide) (part_int w _ .i64 Try.underlying3 _ 0 a.g rfl) (part_int w _ .i64 Try.underlying3 _ 0 b.g rfl) (run_equalIn_int w 9998 _ .i64 .i64 _ _ Try.underlying3) ?_
  refine fields_step (c := a.lev == b.lev) (by decide) (part_int w _ .i64 Try.underlying3 _ 1 a.lev rfl) (part_int w _ .i64 Try.underlying3 _ 1 b.lev rfl) (run_equalIn_int w 9998 _ .i64 .i64 _ _ Try.underlying3) ?_
  exact fields_int Try.underlying3 (by decide) rfl (part_int w _ .i64 Try.underlying3 _ 2 a.role rfl) (part_int w _ .i64 Try.underlying3 _ 2 b.role rfl) fields_nil
theorem run_eqKy (a b : Ky) (w : World) : (binOp .eql 24 (.agg a.cs) (.agg b.cs)).run Try.prog w = .ok (.bool (decide (a = b))) w := by
  rw [run_eql_struct, run_inKy]; rfl
theorem run_neKy (a b : Ky) (w : World) : (binOp .neq 24 (.agg a.cs) (.agg b.cs)).run Try.prog w = .ok (.bool (!decide (a = b))) w := by
  rw [run_neq_struct, run_inKy]; rfl

theorem fields_lastS {d : Nat} {xs ys : Array Value} {w : World} {f : Field} {fs : List Field} {x y : Value} {c : Bool} (hn : f.name ≠ "_") (hx : (part f.type xs f.offset).run Try.prog w = .ok x w) (hy : (part f.type ys f.offset).run Try.prog w = .ok y w)
    (he : (Op.equalIn d f.type x y).run Try.prog w = .ok c w) (h : (Op.eqFields d xs ys fs).run Try.prog w = .ok true w) : (Op.eqFields d xs ys (f :: fs)).run Try.prog w = .ok c w := by
  have := fields_step hn hx hy he h
  simpa using this
set_option maxRecDepth 100000 in
theorem run_inSl (a b : Slt) (w : World) : (Op.equalIn 10000 45 (.agg a.cl.toArray) (.agg b.cl.toArray)).run Try.prog w = .ok (decide (a = b)) w := by
  have e : decide (a = b) = (a.kind == b.kind && (a.to_ == b.to_ && (a.r.w == b.r.w && (a.r.u == b.r.u && a.r.x == b.r.x)))) := by
    rw [Bool.eq_iff_iff, decide_eq_true_eq, Slt.ext_, ← Rg.eqb_iff]; simp [Rg.eqb]
  rw [e]
  unfold Slt.cl
  rw [run_equalIn_struct w 9999 _ _ _ (by kernel_rfl) (by kernel_rfl)]
  simp only [Program.fieldsOf, Try.underlying45]
  have hR : (Op.equalIn 9999 37 (.agg #[.bool a.r.w, .bool a.r.u, .bool a.r.x]) (.agg #[.bool b.r.w, .bool b.r.u, .bool b.r.x])).run Try.prog w = .ok (a.r.w == b.r.w && (a.r.u == b.r.u && a.r.x == b.r.x)) w := by
    rw [run_equalIn_struct w 9998 _ _ _ (by kernel_rfl) (by kernel_rfl)]
    simp only [Program.fieldsOf, Try.underlying37]
    exact (fields_bool (by decide) rfl (part_bool w _ Try.underlying4 _ 0 a.r.w rfl) (part_bool w _ Try.underlying4 _ 0 b.r.w rfl) (fields_bool (by decide) rfl (part_bool w _ Try.underlying4 _ 1 a.r.u rfl) (part_bool w _ Try.underlying4 _ 1 b.r.u rfl) (fields_last (by decide) rfl (part_bool w _ Try.underlying4 _ 2 a.r.x rfl) (part_bool w _ Try.underlying4 _ 2 b.r.x rfl) fields_nil)))
  refine fields_step (c := a.kind == b.kind) (by decide) (part_int w _ .i64 Try.underlying3 _ 0 a.kind rfl) (part_int w _ .i64 Try.underlying3 _ 0 b.kind rfl) (run_equalIn_int w 9998 _ .i64 .i64 _ _ Try.underlying3) ?_
  refine fields_step (c := a.to_ == b.to_) (by decide) (part_int w _ .i64 Try.underlying3 _ 1 a.to_ rfl) (part_int w _ .i64 Try.underlying3 _ 1 b.to_ rfl) (run_equalIn_int w 9998 _ .i64 .i64 _ _ Try.underlying3) ?_
  exact fields_lastS (c := a.r.w == b.r.w && (a.r.u == b.r.u && a.r.x == b.r.x)) (by decide) (by kernel_rfl) (by kernel_rfl) hR fields_nil
theorem run_eqSl (a b : Slt) (w : World) : (binOp .eql 45 (.agg a.cl.toArray) (.agg b.cl.toArray)).run Try.prog w = .ok (.bool (decide (a = b))) w := by
  have h := run_inSl a b w
  unfold Slt.cl at h ⊢
  rw [run_eql_struct, h]; rfl
theorem run_neSl (a b : Slt) (w : World) : (binOp .neq 45 (.agg a.cl.toArray) (.agg b.cl.toArray)).run Try.prog w = .ok (.bool (!decide (a = b))) w := by
  have h := run_inSl a b w
  unfold Slt.cl at h ⊢
  rw [run_neq_struct, h]; rfl

/-! ### pages, told by the slots that are told -/
/-- the page of a slot -/
def pgX (L : List Pg) (x : Ix8 L.length) : Pg := L[x.val / 8]'(by have := x.isLt; omega)
theorem StX.pgx {w : World} {q hp hb n a m fp mp : Nat} {s : Sr} {FS B : List Nat} {v : Value} (h : StX w q hp hb n a m s fp mp FS v B) (x : Ix8 s.L.length) : ∃ b, encI B x = #[.pointer (some ⟨b, 0, none⟩), .int .i64 ((x.val % 8 : Nat) : Int)] ∧ PgB w b (pgX s.L x) ∧ pgX s.L x ∈ s.L := by
  have hx := x.isLt
  have hbl := h.bl
  have hB : B[x.val / 8]? = some (B[x.val / 8]'(by omega)) := List.getElem?_eq_getElem _
  refine ⟨B[x.val / 8]'(by omega), ?_, h.pg _ _ _ (List.getElem?_eq_getElem (by omega)) hB, List.getElem_mem _⟩
  unfold encI
  simp [List.getD_eq_getElem?_getD, show x.val / 8 < B.length by omega]
theorem pgx_pref {L : List Pg} {pre : List (Ix8 L.length)} {x : Ix8 L.length} (h : pre ++ [x] <+: allI L.length) : x.val = pre.length := by
  obtain ⟨r, hr⟩ := h
  have h1 : (allI L.length)[pre.length]? = some x := by rw [← hr]; simp
  unfold allI at h1
  rw [List.getElem?_eq_some_iff] at h1
  obtain ⟨h2, h3⟩ := h1
  simp at h3
  rw [← h3]
theorem pref_mem {N : Nat} {pre : List (Ix8 N)} (h : pre <+: allI N) {k : Nat} (hk : k < pre.length) (hN : k < 8 * N) : (⟨k, hN⟩ : Ix8 N) ∈ pre := by
  obtain ⟨r, hr⟩ := h
  have h1 : (allI N)[k]? = pre[k]? := by rw [← hr, List.getElem?_append_left hk]
  unfold allI at h1
  rw [List.getElem?_eq_getElem (by simpa using hN)] at h1
  refine List.mem_of_getElem? (i := k) ?_
  rw [← h1]; simp
/-- the first page of a key -/
theorem pgOf_first {L : List Pg} {k : Ky} {pre : List (Ix8 L.length)} {x : Ix8 L.length} (h : pre ++ [x] <+: allI L.length) (hno : ∀ y ∈ pre, (pgX L y).k ≠ k) (hx : (pgX L x).k = k) : pgOf L k = some (pgX L x) := by
  have hpx := pgx_pref h
  have hlt := x.isLt
  have hp : pre <+: allI L.length := (List.prefix_append pre [x]).trans h
  have hi : x.val / 8 < L.length := by omega
  unfold pgOf
  rw [List.find?_eq_some_iff_getElem]
  refine ⟨by simpa using hx, x.val / 8, hi, rfl, fun j hj => ?_⟩
  have hm := pref_mem hp (k := 8 * j) (by omega) (by omega)
  have := hno _ hm
  simp only [pgX, show 8 * j / 8 = j by omega] at this
  simpa using this
theorem pgOf_no {L : List Pg} {k : Ky} (hno : ∀ y ∈ allI L.length, (pgX L y).k ≠ k) : pgOf L k = none := by
  rw [pgOf_none]
  intro p hp
  obtain ⟨j, hj, rfl⟩ := List.getElem_of_mem hp
  have := hno ⟨8 * j, by omega⟩ (by unfold allI; exact List.mem_finRange _)
  simpa only [pgX, show 8 * j / 8 = j by omega] using this

/-- what a Find answers -/
def findV (L : List Pg) (k : Ky) : Int := ((pgOf L k).map Pg.f).getD 0

end Go.Proofs.Ytpmfooeifhhfkaa
