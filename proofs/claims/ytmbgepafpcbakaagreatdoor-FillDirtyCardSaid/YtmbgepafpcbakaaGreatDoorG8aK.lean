/-
 Tied08, ErrAs, ErrAsB in one text.
-/
import Derived.Test.YtmbgepafpcbakaaGreatDoorRows
import Derived.Test.YtmbgepafpcbakaaGreatDoorProg
import Derived.RowKit
import Derived.RowKitTokens
import Derived.LaidLaws
import Derived.LaidHandle
import Derived.Test.YtmbgepafpcbakaaGreatDoorG0K
import Derived.WalkKit
import Derived.LaidEql
import Derived.Stop.Asserts
namespace Go.Proofs.YtmbgepafpcbakaaGreatDoor
open Go.ChangeShapes Go.WideShapes Go.RowKit
def errV : Value := .iface 266 (.agg #[.pointer (some ⟨1, 158, none⟩)])
def ErrIn (w : World) : Prop := w.cell? ⟨0, 0, none⟩ = some errV
theorem err_et : Tryz.prog.globalNamed "errors.errorType" = some 0 := by kernel_rfl
theorem err_rt : (Tryz.prog.cutTypes.find? (·.1 == "internal/reflectlite.rtype")).map (·.2) = some 266 := by kernel_rfl
theorem err_one : ((List.range Tryz.prog.types.size).filter fun t => Tryz.prog.rowNamed t [101, 114, 114, 111, 114]) = [158] := by kernel_rfl
theorem handle_of_laid {W : World} {l : List (String × DataW Unit)} (hl : l = [("errors.errorType", Rows.laid_errors_errorType)]) (h : laidMetH Tryz.prog l W) : ErrIn W := by
 subst hl
 have h' : laidMet Tryz.prog [] W ∧ handlesMet Tryz.prog [("errors.errorType", Rows.laid_errors_errorType)] W := h
 obtain ⟨name, u, ty, e1, e2, e3, e4, e5⟩ := h'.2 _ (List.mem_singleton.2 rfl)
 have en : name = [101, 114, 114, 111, 114] := (Option.some.inj e1).symm
 subst en
 obtain rfl := Option.some.inj (err_rt.symm.trans e2)
 have hm : ty ∈ (List.range Tryz.prog.types.size).filter fun t => Tryz.prog.rowNamed t [101, 114, 114, 111, 114] := List.mem_filter.2 ⟨List.mem_range.2 e3, e4⟩
 rw [err_one] at hm
 obtain rfl := List.mem_singleton.1 hm
 have hh : typeHandle Tryz.prog 158 = .pointer (some ⟨1, 158, none⟩) := by kernel_rfl
 rw [hh] at e5
 have := World.var?_cell err_et e5 0
 unfold ErrIn errV
 simpa using this
end Go.Proofs.YtmbgepafpcbakaaGreatDoor
namespace Go.Proofs.YtmbgepafpcbakaaGreatDoor
open Go.RowKit Go.Extern.Stop Go.Stop Go.Extern
theorem as_nil (t : Value) (w : World) :
  Calls Tryz.prog 82 #[.nilIface, t] w fun e w' => e = .returned (.bool false) ∧ w' = w := by
 go_enter Tryz.func82, Tryz.ntmps82
 go_wp2
 go_ret
 exact ⟨rfl, rfl⟩
def rv (ty : Nat) (p : Addr) (fl : Int) : Array Value := #[.pointer (some ⟨1, ty, none⟩), .pointer (some p), .int .u64 fl]
theorem as_valueOfP (t : Addr) (w : World) : (ReflectliteValue.unpack (.iface 166 (.pointer (some t)))).run Tryz.prog w
  = .ok (.agg #[.pointer (some ⟨1, 166, none⟩), .pointer (some ⟨w.heap.size, 0, none⟩), .int .u64 150]) (w.alloc (.cells #[.pointer (some t)] 166)) := by kernel_rfl
theorem as_typeP (a : Addr) (w : World) : (ReflectliteValue.methodAny (ReflectliteValue.valueError "reflectlite.Value.Type" 0) (fun t _ _ _ => ReflectliteType.toType t) #[.agg #[.pointer (some ⟨1, 166, none⟩), .pointer (some a), .int .u64 150]]).run Tryz.prog w
  = .ok (.iface 266 (.agg #[.pointer (some ⟨1, 166, none⟩)])) w := by kernel_rfl
theorem as_kindP (w : World) : ((ReflectliteType.abiMethod fun t => (fun a : Nat => Value.int IntKind.u8 (a : Int)) <$> Rtype.kind t) #[.pointer (some ⟨1, 166, none⟩)]).run Tryz.prog w = .ok (.int .u8 22) w := by kernel_rfl
theorem as_kindS (w : World) : ((ReflectliteType.abiMethod fun t => (fun a : Nat => Value.int IntKind.u8 (a : Int)) <$> Rtype.kind t) #[.pointer (some ⟨1, 164, none⟩)]).run Tryz.prog w = .ok (.int .u8 25) w := by kernel_rfl
theorem get_lit1 (v : Value) (h1 : (#[v] : Array Value).size = 1) (h2 : 0 < 1) : (#[v] : Array Value).getLit 0 h1 h2 = v := rfl
theorem get_lit20 (v x : Value) (h1 : (#[v, x] : Array Value).size = 2) (h2 : 0 < 2) : (#[v, x] : Array Value).getLit 0 h1 h2 = v := rfl
theorem get_lit21 (v x : Value) (h1 : (#[v, x] : Array Value).size = 2) (h2 : 1 < 2) : (#[v, x] : Array Value).getLit 1 h1 h2 = x := rfl
theorem as_partsP (a : Addr) (w : World) : (ReflectliteValue.parts (.agg #[.pointer (some ⟨1, 166, none⟩), .pointer (some a), .int .u64 150])).run Tryz.prog w = .ok (some (166, a, 150)) w := by kernel_rfl
theorem as_isNil (a p : Addr) (W : World) (ha : W.cell? a = some (.pointer (some p))) :
  (ReflectliteValue.method (ReflectliteValue.valueError "reflectlite.Value.IsNil" 0) ReflectliteValue.isNil #[.agg #[.pointer (some ⟨1, 166, none⟩), .pointer (some a), .int .u64 150]]).run Tryz.prog W = .ok (.bool false) W := by
 delta ReflectliteValue.method
 delta ReflectliteValue.method.match_2
 dsimp only [Array.casesOn]
 simp only [get_lit1, dite_true, List.size_toArray, List.length_cons, List.length_nil, Nat.zero_add, Sem.run_bind, as_partsP, Result.andThen]
 simp [ReflectliteValue.isNil, loadVar, isAgg, underlying, Tryz.underlying166, ha, Result.andThen]
theorem as_elemT (w : World) : (ReflectliteType.method ReflectliteType.elem #[.agg #[.pointer (some ⟨1, 166, none⟩)]]).run Tryz.prog w = .ok (.iface 266 (.agg #[.pointer (some ⟨1, 164, none⟩)])) w := by kernel_rfl
theorem as_impl (w : World) : (ReflectliteType.relation "Implements" ReflectliteType.implements_ #[.agg #[.pointer (some ⟨1, 164, none⟩)], .iface 266 (.agg #[.pointer (some ⟨1, 158, none⟩)])]).run Tryz.prog w = .ok (.bool true) w := by kernel_rfl
theorem as_typeOf (v : Value) (w : World) : (ReflectliteType.typeOf #[.iface 164 v]).run Tryz.prog w = .ok (.iface 266 (.agg #[.pointer (some ⟨1, 164, none⟩)])) w := by kernel_rfl
theorem as_assign (w : World) : (ReflectliteType.relation "AssignableTo" ReflectliteType.assignableTo #[.agg #[.pointer (some ⟨1, 164, none⟩)], .iface 266 (.agg #[.pointer (some ⟨1, 164, none⟩)])]).run Tryz.prog w = .ok (.bool true) w := by kernel_rfl
theorem as_valueOfS (h c : Int) (w : World) : (ReflectliteValue.unpack (.iface 164 (.agg #[.int .i64 h, .int .i64 c]))).run Tryz.prog w
  = .ok (.agg #[.pointer (some ⟨1, 164, none⟩), .pointer (some ⟨w.heap.size, 0, none⟩), .int .u64 153]) (w.alloc (.cells #[.int .i64 h, .int .i64 c] 164)) := by kernel_rfl
theorem as_elemOf (w : World) : (Rtype.elem? 166).run Tryz.prog w = .ok (some 164) w := by kernel_rfl
theorem as_mkS (p : Addr) (w : World) : (ReflectliteValue.mk 164 p ReflectliteValue.flagAddr).run Tryz.prog w = .ok (.agg #[.pointer (some ⟨1, 164, none⟩), .pointer (some p), .int .u64 409]) w := by kernel_rfl
theorem as_elemV (a p : Addr) (W : World) (ha : W.cell? a = some (.pointer (some p))) :
  (ReflectliteValue.method (ReflectliteValue.valueError "reflectlite.Value.Elem" 0) ReflectliteValue.elem #[.agg #[.pointer (some ⟨1, 166, none⟩), .pointer (some a), .int .u64 150]]).run Tryz.prog W
   = .ok (.agg #[.pointer (some ⟨1, 164, none⟩), .pointer (some p), .int .u64 409]) W := by
 delta ReflectliteValue.method
 delta ReflectliteValue.method.match_2
 dsimp only [Array.casesOn]
 simp only [get_lit1, dite_true, List.size_toArray, List.length_cons, List.length_nil, Nat.zero_add, Sem.run_bind, as_partsP, Result.andThen]
 simp [ReflectliteValue.elem, loadVar, isAgg, underlying, Tryz.underlying166, ha, Result.andThen, as_elemOf, as_mkS]
theorem as_partsA (a : Addr) (w : World) : (ReflectliteValue.parts (.agg #[.pointer (some ⟨1, 164, none⟩), .pointer (some a), .int .u64 409])).run Tryz.prog w = .ok (some (164, a, 409)) w := by kernel_rfl
theorem as_partsS (a : Addr) (w : World) : (ReflectliteValue.parts (.agg #[.pointer (some ⟨1, 164, none⟩), .pointer (some a), .int .u64 153])).run Tryz.prog w = .ok (some (164, a, 153)) w := by kernel_rfl
theorem as_direct (w : World) : (Rtype.directlyAssignable 164 164).run Tryz.prog w = .ok true w := by kernel_rfl
theorem as_methodKind (h : Value) (w : World) : (Go.method 429 266 (.agg #[h]) "Kind").run Tryz.prog w = .ok (248, h) w := by kernel_rfl
theorem as_methodElem (h : Value) (w : World) : (Go.method 429 266 (.agg #[h]) "Elem").run Tryz.prog w = .ok (258, .agg #[h]) w := by kernel_rfl
theorem as_methodImplements (h : Value) (w : World) : (Go.method 429 266 (.agg #[h]) "Implements").run Tryz.prog w = .ok (259, .agg #[h]) w := by kernel_rfl
theorem as_methodAssignableTo (h : Value) (w : World) : (Go.method 429 266 (.agg #[h]) "AssignableTo").run Tryz.prog w = .ok (256, .agg #[h]) w := by kernel_rfl
theorem as_set (ta b : Nat) (h c : Int) (o1 o2 : Value) (W : World) (hb : Blk W b 164 #[.int .i64 h, .int .i64 c]) (ht : Blk W ta 164 #[o1, o2]) :
  (ReflectliteValue.set #[.agg #[.pointer (some ⟨1, 164, none⟩), .pointer (some ⟨ta, 0, none⟩), .int .u64 409], .agg #[.pointer (some ⟨1, 164, none⟩), .pointer (some ⟨b, 0, none⟩), .int .u64 153]]).run Tryz.prog W
   = .ok (.tuple #[]) ((W.setCell ⟨ta, 0, none⟩ (.int .i64 h)).setCell ⟨ta, 1, none⟩ (.int .i64 c)) := by
 have hl : (loadVar 164 ⟨b, 0, none⟩).run Tryz.prog W = .ok (.agg #[.int .i64 h, .int .i64 c]) W := run_loadVar_row W b _ _ _ (0, 0) _ hb Tryz.underlying164 rfl (by kernel_rfl)
 have t0 := ht.cell 0
 have t1 := ht.cell 1
 have f0 := ht.frozen 0
 have f1 := ht.frozen 1
 simp at t0 t1
 delta ReflectliteValue.set
 delta ReflectliteValue.set.match_3
 dsimp only [Array.casesOn]
 simp only [get_lit20, get_lit21, dite_true, List.size_toArray, List.length_cons, List.length_nil, Nat.zero_add, Nat.reduceAdd, Sem.run_bind, as_partsA, as_partsS, Result.andThen]
 simp [ReflectliteValue.flagAddr, hl, Result.andThen, as_direct]
 simp [storeVar, Value.cells, storeCells, add_at]
 rw [run_store Tryz.prog W ⟨ta, 0, none⟩ _ _ (by rfl)]
 simp only [t0, f0, Bool.false_eq_true, if_false, Result.andThen]
 have hb2 := ht.set_ 0 (.int .i64 h)
 have t1' := hb2.cell 1
 have f1' := hb2.frozen 1
 simp at t1'
 rw [run_store Tryz.prog _ ⟨ta, 1, none⟩ _ _ (by rfl)]
 simp only [t1', f1', Bool.false_eq_true, if_false]
set_option maxRecDepth 100000 in
set_option maxHeartbeats 4000000 in
theorem as_hit (h c : Int) (tb : Nat) (o1 o2 : Value) (w : World) (hg : ErrIn w) (ht : Blk w tb 164 #[o1, o2]) :
  Calls Tryz.prog 82 #[.iface 164 (.agg #[.int .i64 h, .int .i64 c]), .iface 166 (.pointer (some ⟨tb, 0, none⟩))] w fun ev w' =>
   ev = .returned (.bool true) ∧ Chg [tb] w w' ∧ Blk w' tb 164 #[.int .i64 h, .int .i64 c] := by
 have h53 := @run_callFunc_extern Tryz.prog 148 _ (fun args => ReflectliteValue.unpack (args.getD 0 (.tuple #[]))) Tryz.func148 (by kernel_rfl) (by kernel_rfl) (by kernel_rfl) (by kernel_rfl)
 have h54 := @run_callFunc_extern Tryz.prog 149 _ (ReflectliteValue.methodAny (ReflectliteValue.valueError "reflectlite.Value.Type" 0) (fun t _ _ _ => ReflectliteType.toType t)) Tryz.func149 (by kernel_rfl) (by kernel_rfl) (by kernel_rfl) (by kernel_rfl)
 have h55 := @run_callFunc_extern Tryz.prog 150 _ (ReflectliteValue.method (ReflectliteValue.valueError "reflectlite.Value.IsNil" 0) ReflectliteValue.isNil) Tryz.func150 (by kernel_rfl) (by kernel_rfl) (by kernel_rfl) (by kernel_rfl)
 have h101 := @run_callFunc_extern Tryz.prog 248 _ (ReflectliteType.abiMethod fun t => do pure (.int .u8 (← Rtype.kind t))) Tryz.func248 (by kernel_rfl) (by kernel_rfl) (by kernel_rfl) (by kernel_rfl)
 have h112 := @run_callFunc_extern Tryz.prog 258 _ (ReflectliteType.method ReflectliteType.elem) Tryz.func258 (by kernel_rfl) (by kernel_rfl) (by kernel_rfl) (by kernel_rfl)
 have h113 := @run_callFunc_extern Tryz.prog 259 _ (ReflectliteType.relation "Implements" ReflectliteType.implements_) Tryz.func259 (by kernel_rfl) (by kernel_rfl) (by kernel_rfl) (by kernel_rfl)
 have h75 := @run_callFunc_extern Tryz.prog 208 _ ReflectliteType.typeOf Tryz.func208 (by kernel_rfl) (by kernel_rfl) (by kernel_rfl) (by kernel_rfl)
 have h110 := @run_callFunc_extern Tryz.prog 256 _ (ReflectliteType.relation "AssignableTo" ReflectliteType.assignableTo) Tryz.func256 (by kernel_rfl) (by kernel_rfl) (by kernel_rfl) (by kernel_rfl)
 have h76 := @run_callFunc_extern Tryz.prog 209 _ (ReflectliteValue.method (ReflectliteValue.valueError "reflectlite.Value.Elem" 0) ReflectliteValue.elem) Tryz.func209 (by kernel_rfl) (by kernel_rfl) (by kernel_rfl) (by kernel_rfl)
 have h77 := @run_callFunc_extern Tryz.prog 210 _ ReflectliteValue.set Tryz.func210 (by kernel_rfl) (by kernel_rfl) (by kernel_rfl) (by kernel_rfl)
 have tO := as_typeOf
 have mA := as_methodAssignableTo
 have aS := as_assign
 have vS := as_valueOfS h c
 have f6 := as_valueOfP
 have f7 := as_typeP
 have mK := as_methodKind
 have mE := as_methodElem
 have mI := as_methodImplements
 have kP := as_kindP
 have kS := as_kindS
 have eT := as_elemT
 have iS := as_impl
 unfold ErrIn errV at hg
 have b1 := Blk.new w 166 #[.pointer (some ⟨tb, 0, none⟩)]
 have c2 : Chg [] w ((w.alloc (.cells #[.pointer (some ⟨tb, 0, none⟩)] 166)).alloc (.cells #[.pointer (some ⟨1, 166, none⟩), .pointer (some ⟨w.heap.size, 0, none⟩), .int .u64 150] 228)) := ((Chg.refl [] w).alloc _).alloc _
 have b2 := b1.alloc (.cells #[.pointer (some ⟨1, 166, none⟩), .pointer (some ⟨w.heap.size, 0, none⟩), .int .u64 150] 228)
 have n8 := as_isNil ⟨w.heap.size, 0, none⟩ ⟨tb, 0, none⟩ _ (b2.cell 0)
 have c3 := c2.alloc (.cells #[.pointer (some ⟨1, 166, none⟩), .pointer (some ⟨w.heap.size, 0, none⟩), .int .u64 150] 228)
 have b3 := b2.alloc (.cells #[.pointer (some ⟨1, 166, none⟩), .pointer (some ⟨w.heap.size, 0, none⟩), .int .u64 150] 228)
 have el := as_elemV ⟨w.heap.size, 0, none⟩ ⟨tb, 0, none⟩ _ (b3.cell 0)
 have c4 := c3.alloc (.cells #[.int .i64 h, .int .i64 c] 164)
 have b4 := Blk.new (((w.alloc (.cells #[.pointer (some ⟨tb, 0, none⟩)] 166)).alloc (.cells #[.pointer (some ⟨1, 166, none⟩), .pointer (some ⟨w.heap.size, 0, none⟩), .int .u64 150] 228)).alloc (.cells #[.pointer (some ⟨1, 166, none⟩), .pointer (some ⟨w.heap.size, 0, none⟩), .int .u64 150] 228)) 164 #[.int .i64 h, .int .i64 c]
 rw [World.size_alloc, World.size_alloc, World.size_alloc] at b4
 have t4 := c4.blk ht (by simp)
 have st := as_set tb (w.heap.size + 1 + 1 + 1) h c o1 o2 _ b4 t4
 have hg2 := c2.cell (World.block_lt_of_cell? _ _ hg) (by simp)
 rw [hg] at hg2
 have hfin := (t4.set_ 0 (.int .i64 h)).set_ 1 (.int .i64 c)
 have cfin := ((c4.weak (T := [tb]) (by simp)).setCell (p := ⟨tb, 0, none⟩) (by simp) (.int .i64 h)).setCell (p := ⟨tb, 1, none⟩) (by simp) (.int .i64 c)
 have HF := Lib.hid hfin
 have HC := Lib.hid cfin
 clear hfin cfin b1 b2 b3 b4 t4 c2 c3 c4
 go_enter Tryz.func82, Tryz.ntmps82
 go_wp2
 refine wp_loop_rounds 1 ?_
 rw [rounds_succ]
 go_wp2
 go_ret
 exact ⟨rfl, HC.out, HF.out⟩
end Go.Proofs.YtmbgepafpcbakaaGreatDoor
