/-
  Plain facts on ints as keys and as elements.
-/
import Derived.Test.YtdfmlodmaipnkaaGreatDoorProg
import Derived.Test.YtdfmlodmaipnkaaGreatDoorLib2
namespace Go.Proofs.YtdfmlodmaipnkaaGreatDoor
open Go.RowKit Go.Maps

theorem lawI : Keyed Tryz.prog 3 := int_keyed Tryz.underlying3
theorem zeroI (w : World) : (zeroValue 3).run Tryz.prog w = .ok (.int .i64 0) w := by kernel_rfl
theorem int_info : ((Tryz.prog.info? 3).map (fun i => (i.zero, i.size, i.bytes))) = some (some (.int .i64 0), 1, 8) := by kernel_rfl

/-- one number that is laid to be appended -/
theorem cell_src (f : Int) (w2 : World) : ∀ a, some (⟨w2.heap.size, 0, none⟩ : Addr) = some a → ∀ j u, [Value.int .i64 f][j]? = some u → (w2.alloc (.cells #[.int .i64 f] 3)).cell? (a.add j) = some u := fun a ha j u hu => by
  injection ha with ha; subst ha
  rw [add_at]
  rw [(Blk.new w2 3 #[.int .i64 f]).cell]
  simpa using hu

end Go.Proofs.YtdfmlodmaipnkaaGreatDoor
