/-
  The live question 'head' of the laws of gmap; lists that a law makes itself.
-/
import Derived.Test.YtdfmlodmaipnkaaGreatDoorGmapR
namespace Go.Proofs.YtdfmlodmaipnkaaGreatDoor
open Go.RowKit Go.Maps

theorem SlK.of_blk {k : IntKind} {w : World} {g : Nat} {t : TypeId} {L : List Int} (h : Blk w g t (vals k L).toArray) (hw : ∀ x ∈ L, k.min ≤ x ∧ x ≤ k.max) (hl : L.length ≤ 9223372036854775807) : SlK k w (some ⟨g, 0, none⟩) L.length L :=
  ⟨rfl, hl, hw, fun _ => ⟨g, 0, rfl, h.lt, fun j u hu => by rw [h.cell, List.getElem?_toArray, Nat.zero_add, vals_get, hu]; rfl⟩⟩
theorem slk_new (w : World) (t : TypeId) (L : List Int) (hw : ∀ x ∈ L, IntKind.i64.min ≤ x ∧ x ≤ IntKind.i64.max) (hl : L.length ≤ 9223372036854775807) :
    SlK .i64 (w.alloc (.cells (vals .i64 L).toArray t)) (some ⟨w.heap.size, 0, none⟩) L.length L := SlK.of_blk (Blk.new w t _) hw hl

theorem slk1 (w : World) (t : TypeId) (x : Int) (hw : IntKind.i64.min ≤ x ∧ x ≤ IntKind.i64.max) : SlK .i64 (w.alloc (.cells #[.int .i64 x] t)) (some ⟨w.heap.size, 0, none⟩) 1 [x] := slk_new w t [x] (by simpa using hw) (by simp)
theorem slk2 (w : World) (t : TypeId) (x y : Int) (hw : IntKind.i64.min ≤ x ∧ x ≤ IntKind.i64.max) (hv : IntKind.i64.min ≤ y ∧ y ≤ IntKind.i64.max) : SlK .i64 (w.alloc (.cells #[.int .i64 x, .int .i64 y] t)) (some ⟨w.heap.size, 0, none⟩) 2 [x, y] :=
  slk_new w t [x, y] (by intro z hz; simp at hz; rcases hz with rfl | rfl <;> assumption) (by simp)
theorem slk3 (w : World) (t : TypeId) (x y z : Int) (h : ∀ u ∈ [x, y, z], IntKind.i64.min ≤ u ∧ u ≤ IntKind.i64.max) : SlK .i64 (w.alloc (.cells #[.int .i64 x, .int .i64 y, .int .i64 z] t)) (some ⟨w.heap.size, 0, none⟩) 3 [x, y, z] :=
  slk_new w t [x, y, z] h (by simp)
theorem slk0 (k : IntKind) (w : World) : SlK k w none 0 [] := ⟨rfl, by decide, by simp, by omega⟩

theorem GHost_is (S : List Nat) (p : Nat) (L : List Int) (g : Int) (x : Int) (t : Bool) (w : World) (h : GAt w S p L) (hx : atV L g = x) (ht : atB L.length g = t) :
    Calls Tryz.prog 43 #[.pointer (some ⟨p, 0, none⟩), .int .i64 g] w fun e w' => e = .returned (.tuple #[.int .i64 x, .bool t]) ∧ w = w' := hx ▸ ht ▸ GHost_at S p L g w h
end Go.Proofs.YtdfmlodmaipnkaaGreatDoor
