/-
  The contracts of tlb's closures and of the functions of package slices that it calls.
-/
import Derived.Test.YtikdoldmhlbklaaTlbA
namespace Go.Proofs.Ytikdoldmhlbklaa
open Go.RowKit

theorem of_any (h : Ht) (w : World) : Calls Try.prog 37 #[h.v] w fun e w' => e = .returned (.agg #[.int .i64 h.a, .int .i64 h.p]) ∧ Chg [] w w' := by
  unfold Ht.v
  have hb := Blk.new (w.alloc (.cells #[.int .i64 h.a, .int .i64 h.p, .int .i64 h.f, .bool h.w, .bool h.u, .bool h.x, .bool h.d] 31)) 58 #[.int .i64 h.a, .int .i64 h.p]
  rw [World.size_alloc] at hb
  go_enter Try.func37, Try.ntmps37
  go_wp2
  try simp only [Exit.inBlock, Exit.then]
  refine bodyPost_ret (cell_ret rfl hb rfl Try.underlying58 rfl (by kernel_rfl)) rfl ?_
  exact ⟨rfl, ((Chg.refl [] w).alloc _).alloc _⟩

theorem run_eqK (a p b q : Int) (w : World) : (binOp .eql 58 (.agg #[.int .i64 a, .int .i64 p]) (.agg #[.int .i64 b, .int .i64 q])).run Try.prog w = .ok (.bool (a == b && p == q)) w := by
  have h : (Op.equalIn 10000 58 (.agg #[.int .i64 a, .int .i64 p]) (.agg #[.int .i64 b, .int .i64 q])).run Try.prog w = .ok (a == b && p == q) w := by
    rw [run_equalIn_struct w 9999 _ _ _ (by kernel_rfl) (by kernel_rfl)]
    simp only [Program.fieldsOf, Try.underlying58]
    refine fields_step (c := a == b) (r := p == q) (by decide) (part_int w _ .i64 Try.underlying3 _ 0 a rfl) (part_int w _ .i64 Try.underlying3 _ 0 b rfl) (run_equalIn_int w 9998 _ .i64 .i64 a b Try.underlying3) ?_
    exact fields_int Try.underlying3 (by decide) rfl (part_int w _ .i64 Try.underlying3 _ 1 p rfl) (part_int w _ .i64 Try.underlying3 _ 1 q rfl) fields_nil
  rw [run_eql_struct, h]; rfl

set_option maxHeartbeats 1000000 in
/-- place's predicate: is it of this key? -/
theorem placeP_any (h : Ht) (kb : Nat) (a p : Int) (w : World) (hk : Blk w kb 58 #[.int .i64 a, .int .i64 p]) :
    Calls Try.prog 36 #[h.v, .pointer (some ⟨kb, 0, none⟩)] w fun e w' => e = .returned (.bool (h.isK a p)) ∧ Chg [] w w' := by
  have hof := fun w => of_any h w
  have hq := fun w0 => run_eqK h.a h.p a p w0
  have hb := Blk.new w 31 #[.int .i64 h.a, .int .i64 h.p, .int .i64 h.f, .bool h.w, .bool h.u, .bool h.x, .bool h.d]
  have hk1 := hk.alloc (.cells #[.int .i64 h.a, .int .i64 h.p, .int .i64 h.f, .bool h.w, .bool h.u, .bool h.x, .bool h.d] 31)
  have hc1 := (Chg.refl [] w).alloc (.cells #[.int .i64 h.a, .int .i64 h.p, .int .i64 h.f, .bool h.w, .bool h.u, .bool h.x, .bool h.d] 31)
  unfold Ht.isK
  unfold Ht.v at *
  generalize (h.a == a && h.p == p) = r at *
  obtain ⟨ha, hp, hf, hw, hu, hx, hd⟩ := h
  simp only at *
  clear hk
  go_enter Try.func36, Try.ntmps36
  go_wp2_with fail
  generalize w.alloc (.cells #[.int .i64 ha, .int .i64 hp, .int .i64 hf, .bool hw, .bool hu, .bool hx, .bool hd] 31) = w1 at *
  have h0 := hb.cell 0; have h1 := hb.cell 1; have h2 := hb.cell 2; have h3 := hb.cell 3; have h4 := hb.cell 4; have h5 := hb.cell 5; have h6 := hb.cell 6
  have g0 := hk1.cell 0; have g1 := hk1.cell 1
  simp only [List.getElem?_toArray, List.getElem?_cons_zero, List.getElem?_cons_succ] at h0 h1 h2 h3 h4 h5 h6 g0 g1
  have b0 := fun n : Cls w1 => n.cell h0; have b1 := fun n : Cls w1 => n.cell h1; have b2 := fun n : Cls w1 => n.cell h2; have b3 := fun n : Cls w1 => n.cell h3; have b4 := fun n : Cls w1 => n.cell h4; have b5 := fun n : Cls w1 => n.cell h5; have b6 := fun n : Cls w1 => n.cell h6
  have k0 := fun n : Cls w1 => n.cell g0; have k1 := fun n : Cls w1 => n.cell g1
  clear h0 h1 h2 h3 h4 h5 h6 g0 g1
  clear hb hk1
  refine wp_region_cls (by kernel_rfl) (by kernel_rfl) ?_
  repeat (go_big_quiet_step (first | (go_at_call 37; with_reducible exact Calls.cls (hof _))))
  refine wpQuiet_nil ?_
  rintro _ ⟨n, rfl⟩
  go_wp2_with fail
  go_ret
  exact ⟨rfl, hc1.trans n.ok (by simp)⟩

/-- Flush's predicate: is it of this space? -/
theorem flushP_any (h : Ht) (kb : Nat) (a : Int) (w : World) (hk : w.cell? ⟨kb, 0, none⟩ = some (.int .i64 a)) :
    Calls Try.prog 33 #[h.v, .pointer (some ⟨kb, 0, none⟩)] w fun e w' => e = .returned (.bool (h.a == a)) ∧ Chg [] w w' := by
  have hlt := World.block_lt_of_cell? _ _ hk
  have hne : kb ≠ w.heap.size := by simp at hlt; omega
  unfold Ht.v
  go_enter Try.func33, Try.ntmps33
  go_wp2
  go_ret
  exact ⟨rfl, (Chg.refl [] w).alloc _⟩


end Go.Proofs.Ytikdoldmhlbklaa
