/-
  errors.As, asked for a value of walk.stop: the walk.
-/
import Derived.Test.YtdfmlodmaipnkaaGreatDoorErrAs
namespace Go.Proofs.YtdfmlodmaipnkaaGreatDoor
open Go.RowKit Go.Extern.Stop Go.Stop Go.Extern

theorem as_methodKind (h : Value) (w : World) : (Go.method 293 136 (.agg #[h]) "Kind").run Tryz.prog w = .ok (101, h) w := by kernel_rfl
theorem as_methodElem (h : Value) (w : World) : (Go.method 293 136 (.agg #[h]) "Elem").run Tryz.prog w = .ok (112, .agg #[h]) w := by kernel_rfl
theorem as_methodImplements (h : Value) (w : World) : (Go.method 293 136 (.agg #[h]) "Implements").run Tryz.prog w = .ok (113, .agg #[h]) w := by kernel_rfl
theorem as_methodAssignableTo (h : Value) (w : World) : (Go.method 293 136 (.agg #[h]) "AssignableTo").run Tryz.prog w = .ok (110, .agg #[h]) w := by kernel_rfl

/-- Value.Set: the variable at ta gets what the Value's own variable holds -/
theorem as_set (ta b : Nat) (h c : Int) (o1 o2 : Value) (W : World) (hb : Blk W b 71 #[.int .i64 h, .int .i64 c]) (ht : Blk W ta 71 #[o1, o2]) :
    (ReflectliteValue.set #[.agg #[.pointer (some ⟨1, 71, none⟩), .pointer (some ⟨ta, 0, none⟩), .int .u64 409], .agg #[.pointer (some ⟨1, 71, none⟩), .pointer (some ⟨b, 0, none⟩), .int .u64 153]]).run Tryz.prog W
      = .ok (.tuple #[]) ((W.setCell ⟨ta, 0, none⟩ (.int .i64 h)).setCell ⟨ta, 1, none⟩ (.int .i64 c)) := by
  have hl : (loadVar 71 ⟨b, 0, none⟩).run Tryz.prog W = .ok (.agg #[.int .i64 h, .int .i64 c]) W := run_loadVar_row W b _ _ _ (0, 0) _ hb Tryz.underlying71 rfl (by kernel_rfl)
  have t0 := ht.cell 0
  have t1 := ht.cell 1
  have f0 := ht.frozen 0
  have f1 := ht.frozen 1
  simp at t0 t1
  delta ReflectliteValue.set
  delta ReflectliteValue.set.match_3
  dsimp only [Array.casesOn]
  simp only [get_lit20, get_lit21, dite_true, List.size_toArray, List.length_cons, List.length_nil, Nat.zero_add, Nat.reduceAdd, Sem.run_bind, as_partsA, as_partsS, Result.andThen]
  simp [ReflectliteValue.flagAddr, hl, Result.andThen, as_direct]
  simp [storeVar, Value.cells, storeCells, add_at]
  rw [run_store Tryz.prog W ⟨ta, 0, none⟩ _ _ (by rfl)]
  simp only [t0, f0, Bool.false_eq_true, if_false, Result.andThen]
  have hb2 := ht.set_ 0 (.int .i64 h)
  have t1' := hb2.cell 1
  have f1' := hb2.frozen 1
  simp at t1'
  rw [run_store Tryz.prog _ ⟨ta, 1, none⟩ _ _ (by rfl)]
  simp only [t1', f1', Bool.false_eq_true, if_false]


set_option maxRecDepth 100000 in
set_option maxHeartbeats 4000000 in
theorem as_hit (h c : Int) (tb : Nat) (o1 o2 : Value) (w : World) (hg : ErrIn w) (ht : Blk w tb 71 #[o1, o2]) :
    Calls Tryz.prog 27 #[.iface 71 (.agg #[.int .i64 h, .int .i64 c]), .iface 73 (.pointer (some ⟨tb, 0, none⟩))] w fun ev w' =>
      ev = .returned (.bool true) ∧ Chg [tb] w w' ∧ Blk w' tb 71 #[.int .i64 h, .int .i64 c] := by
  have h53 := @run_callFunc_extern Tryz.prog 53 _ (fun args => ReflectliteValue.unpack (args.getD 0 (.tuple #[]))) Tryz.func53 (by kernel_rfl) (by kernel_rfl) (by kernel_rfl) (by kernel_rfl)
  have h54 := @run_callFunc_extern Tryz.prog 54 _ (ReflectliteValue.methodAny (ReflectliteValue.valueError "reflectlite.Value.Type" 0) (fun t _ _ _ => ReflectliteType.toType t)) Tryz.func54 (by kernel_rfl) (by kernel_rfl) (by kernel_rfl) (by kernel_rfl)
  have h55 := @run_callFunc_extern Tryz.prog 55 _ (ReflectliteValue.method (ReflectliteValue.valueError "reflectlite.Value.IsNil" 0) ReflectliteValue.isNil) Tryz.func55 (by kernel_rfl) (by kernel_rfl) (by kernel_rfl) (by kernel_rfl)
  have h101 := @run_callFunc_extern Tryz.prog 101 _ (ReflectliteType.abiMethod fun t => do pure (.int .u8 (← Rtype.kind t))) Tryz.func101 (by kernel_rfl) (by kernel_rfl) (by kernel_rfl) (by kernel_rfl)
  have h112 := @run_callFunc_extern Tryz.prog 112 _ (ReflectliteType.method ReflectliteType.elem) Tryz.func112 (by kernel_rfl) (by kernel_rfl) (by kernel_rfl) (by kernel_rfl)
  have h113 := @run_callFunc_extern Tryz.prog 113 _ (ReflectliteType.relation "Implements" ReflectliteType.implements_) Tryz.func113 (by kernel_rfl) (by kernel_rfl) (by kernel_rfl) (by kernel_rfl)
  have h75 := @run_callFunc_extern Tryz.prog 75 _ ReflectliteType.typeOf Tryz.func75 (by kernel_rfl) (by kernel_rfl) (by kernel_rfl) (by kernel_rfl)
  have h110 := @run_callFunc_extern Tryz.prog 110 _ (ReflectliteType.relation "AssignableTo" ReflectliteType.assignableTo) Tryz.func110 (by kernel_rfl) (by kernel_rfl) (by kernel_rfl) (by kernel_rfl)
  have h76 := @run_callFunc_extern Tryz.prog 76 _ (ReflectliteValue.method (ReflectliteValue.valueError "reflectlite.Value.Elem" 0) ReflectliteValue.elem) Tryz.func76 (by kernel_rfl) (by kernel_rfl) (by kernel_rfl) (by kernel_rfl)
  have h77 := @run_callFunc_extern Tryz.prog 77 _ ReflectliteValue.set Tryz.func77 (by kernel_rfl) (by kernel_rfl) (by kernel_rfl) (by kernel_rfl)
  have tO := as_typeOf
  have mA := as_methodAssignableTo
  have aS := as_assign
  have vS := as_valueOfS h c
  have f6 := as_valueOfP
  have f7 := as_typeP
  have mK := as_methodKind
  have mE := as_methodElem
  have mI := as_methodImplements
  have kP := as_kindP
  have kS := as_kindS
  have eT := as_elemT
  have iS := as_impl
  unfold ErrIn errV at hg
  have b1 := Blk.new w 73 #[.pointer (some ⟨tb, 0, none⟩)]
  have c2 : Chg [] w ((w.alloc (.cells #[.pointer (some ⟨tb, 0, none⟩)] 73)).alloc (.cells #[.pointer (some ⟨1, 73, none⟩), .pointer (some ⟨w.heap.size, 0, none⟩), .int .u64 150] 110)) := ((Chg.refl [] w).alloc _).alloc _
  have b2 := b1.alloc (.cells #[.pointer (some ⟨1, 73, none⟩), .pointer (some ⟨w.heap.size, 0, none⟩), .int .u64 150] 110)
  have n8 := as_isNil ⟨w.heap.size, 0, none⟩ ⟨tb, 0, none⟩ _ (b2.cell 0)
  have c3 := c2.alloc (.cells #[.pointer (some ⟨1, 73, none⟩), .pointer (some ⟨w.heap.size, 0, none⟩), .int .u64 150] 110)
  have b3 := b2.alloc (.cells #[.pointer (some ⟨1, 73, none⟩), .pointer (some ⟨w.heap.size, 0, none⟩), .int .u64 150] 110)
  have el := as_elemV ⟨w.heap.size, 0, none⟩ ⟨tb, 0, none⟩ _ (b3.cell 0)
  have c4 := c3.alloc (.cells #[.int .i64 h, .int .i64 c] 71)
  have b4 := Blk.new (((w.alloc (.cells #[.pointer (some ⟨tb, 0, none⟩)] 73)).alloc (.cells #[.pointer (some ⟨1, 73, none⟩), .pointer (some ⟨w.heap.size, 0, none⟩), .int .u64 150] 110)).alloc (.cells #[.pointer (some ⟨1, 73, none⟩), .pointer (some ⟨w.heap.size, 0, none⟩), .int .u64 150] 110)) 71 #[.int .i64 h, .int .i64 c]
  rw [World.size_alloc, World.size_alloc, World.size_alloc] at b4
  have t4 := c4.blk ht (by simp)
  have st := as_set tb (w.heap.size + 1 + 1 + 1) h c o1 o2 _ b4 t4
  have hg2 := c2.cell (World.block_lt_of_cell? _ _ hg) (by simp)
  rw [hg] at hg2
  have hfin := (t4.set_ 0 (.int .i64 h)).set_ 1 (.int .i64 c)
  have cfin := ((c4.weak (T := [tb]) (by simp)).setCell (p := ⟨tb, 0, none⟩) (by simp) (.int .i64 h)).setCell (p := ⟨tb, 1, none⟩) (by simp) (.int .i64 c)
  have HF := Lib.hid hfin
  have HC := Lib.hid cfin
  clear hfin cfin b1 b2 b3 b4 t4 c2 c3 c4
  go_enter Tryz.func27, Tryz.ntmps27
  go_wp2
  refine wp_loop_rounds 1 ?_
  rw [rounds_succ]
  go_wp2
  go_ret
  exact ⟨rfl, HC.out, HF.out⟩

end Go.Proofs.YtdfmlodmaipnkaaGreatDoor
