/-
  The parts of package pte: a flag that is read, a flag's bits, an entry's flags.
-/
import Derived.Test.YtdfmlodmaipnkaaGreatDoorCls
import Derived.Test.YtdfmlodmaipnkaaGreatDoorLib
import Derived.BigRegion
import Derived.Laws.BitsAllLaws
import Derived.Test.YtdfmlodmaipnkaaGreatDoorProg
namespace Go.Proofs.YtdfmlodmaipnkaaGreatDoor
open Go.RowKit

theorem cast_ne0 (n : Nat) : ((n : Int) != 0) = (n != 0) := by
  rw [Bool.eq_iff_iff]; simp

set_option maxHeartbeats 400000 in
theorem read_any (g q i v b : Nat) (u : Value) (w : World) (hg : Blk w g 152 #[.int .u64 b, .pointer (some ⟨q, i, none⟩)]) (hq : w.cell? ⟨q, i, none⟩ = some u) (hf : w.frozen? ⟨q, i, none⟩ = false)
    (hv : v < 18446744073709551616) (hb : b < 18446744073709551616) :
    Calls Tryz.prog 79 #[.pointer (some ⟨g, 0, none⟩), .int .u64 v] w fun e w' => e = .returned (.tuple #[]) ∧ (w.setCell ⟨q, i, none⟩ (.bool (v &&& b != 0))).drew = w' := by
  have c0 := hg.cell 0
  have c1 := hg.cell 1
  simp at c0 c1
  have ha := u64_and_nat v b hv hb
  go_enter Tryz.func79, Tryz.ntmps79
  go_wp2
  go_region
  go_wp2
  go_end0
  exact ⟨rfl, by rw [← cast_ne0]⟩

/-- the bits of an entry's flags, in their order -/
def fb (k : Nat) : Nat := [1, 2, 4, 32, 64, 128, 9223372036854775808].getD k 0
theorem fb_lt (k : Nat) : fb k < 18446744073709551616 := by
  match k with
  | 0 | 1 | 2 | 3 | 4 | 5 | 6 => decide
  | k + 7 => simp [fb]
/-- the array of an entry's flags: the entry is block q -/
def flagsV (q : Nat) : Value := .agg #[.int .u64 1, .pointer (some ⟨q, 0, none⟩), .int .u64 2, .pointer (some ⟨q, 1, none⟩), .int .u64 4, .pointer (some ⟨q, 2, none⟩), .int .u64 32, .pointer (some ⟨q, 3, none⟩),
  .int .u64 64, .pointer (some ⟨q, 4, none⟩), .int .u64 128, .pointer (some ⟨q, 5, none⟩), .int .u64 9223372036854775808, .pointer (some ⟨q, 6, none⟩)]
theorem flagsV_at (q k : Nat) (hk : k < 7) (w : World) : (Instr.index 153 (flagsV q) (.int .i64 k)).run Tryz.prog w = .ok (.agg #[.int .u64 (fb k), .pointer (some ⟨q, k, none⟩)]) w := by
  obtain rfl | rfl | rfl | rfl | rfl | rfl | rfl : k = 0 ∨ k = 1 ∨ k = 2 ∨ k = 3 ∨ k = 4 ∨ k = 5 ∨ k = 6 := by omega
  all_goals kernel_rfl

set_option maxHeartbeats 1000000 in
theorem flags_any (q : Nat) (w : World) :
    Calls Tryz.prog 78 #[.pointer (some ⟨q, 0, none⟩)] w fun e w' => e = .returned (flagsV q) ∧ Chg [] w w' ∧ w'.heap.size = w.heap.size + 1 := by
  go_enter Tryz.func78, Tryz.ntmps78
  go_wp2
  go_region
  go_wp2
  try simp only [Exit.inBlock, Exit.then]
  refine bodyPost_ret (cell_ret rfl ((Blk.new _ _ _).drew) rfl Tryz.underlying153 rfl (by kernel_rfl)) rfl ?_
  exact ⟨rfl, ((Chg.refl [] w).alloc _).drew, by simp⟩

end Go.Proofs.YtdfmlodmaipnkaaGreatDoor
