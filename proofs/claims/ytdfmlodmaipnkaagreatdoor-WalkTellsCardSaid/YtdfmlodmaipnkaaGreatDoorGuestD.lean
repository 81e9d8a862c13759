/-
  The contract of guest's Load.
-/
import Derived.Test.YtdfmlodmaipnkaaGreatDoorGuestC
namespace Go.Proofs.YtdfmlodmaipnkaaGreatDoor
open Go.RowKit Go.Maps

/-- a part of a slice of words, with room for no more -/
theorem run_part {P : Program} (t e : TypeId) (ht : P.underlying t = some (.slice e)) (hz : ∀ w, (Go.sizeOf e).run P w = .ok 1 w) (a : Addr) (len cap l h : Nat) (h1 : l < h) (h2 : h ≤ cap) (w : World) :
    (Instr.slice t (.slice (some a) len cap) (some (.int .i64 l)) (some (.int .i64 h)) (some (.int .i64 h))).run P w = .ok (.slice (some (a.add l)) (h - l) (h - l)) w := by
  have hel : P.elem t = e := by simp [Program.elem, ht]
  rw [run_slice_lhm w t (some a) len cap (hel.symm ▸ ht) .i64 .i64 .i64 l h h (by omega) (by omega) (by omega) (by omega), hel, hz]
  simp [Result.andThen, sliced, show ¬ h = l by omega]

theorem sizeU (w : World) : (Go.sizeOf 45).run Tryz.prog w = .ok 1 w := by kernel_rfl

theorem SlU.part {w : World} {b off m : Nat} {xs : List Int} (h : SlU w (some ⟨b, off, none⟩) m xs) (o n : Nat) (hn : o + n ≤ m) : SlU w (some ⟨b, off + o, none⟩) n ((xs.drop o).take n) := by
  have hl := h.len
  refine ⟨by rw [List.length_take, List.length_drop]; omega, fun h0 => ?_⟩
  obtain ⟨b', off', e, hb, hr⟩ := h.at_ (by omega)
  injection e with e; injection e with e1 e2; subst e1; subst e2
  refine ⟨b, off + o, rfl, hb, fun j u hu => ?_⟩
  rw [List.getElem?_take] at hu
  split at hu
  · rw [List.getElem?_drop] at hu
    rw [Nat.add_assoc]; exact hr _ u hu
  · cases hu

end Go.Proofs.YtdfmlodmaipnkaaGreatDoor
