/-
  The live question 'head' of the laws of conf.
-/
import Derived.Test.YtkggkdjhecagnaaConfD
namespace Go.Proofs.Ytkggkdjhecagnaa
open Go.RowKit Go.Maps

theorem CRight_lit (h : Int) (L : List Int) (f m t a r : Int) (A : Option Addr) (n k : Nat) (tt : Bool) (w : World) (hs : SlK .i64 w A n L) (hw : Cf.Wf ⟨h, L, f, m, t, a, r⟩) (ht : Cf.right ⟨h, L, f, m, t, a, r⟩ = tt) :
    Calls Try.prog 10 #[.agg #[.int .i64 h, .slice A n k, .int .i64 f, .int .i64 m, .int .i64 t, .int .i64 a, .int .i64 r]] w fun e w' => e = .returned (.bool tt) ∧ Chg [] w w' :=
  CRight_is ⟨h, L, f, m, t, a, r⟩ A n k tt w ⟨hs, hw⟩ ht
theorem CImage_lit (h : Int) (L : List Int) (f m t a r : Int) (A : Option Addr) (n k : Nat) (M : List Int) (w : World) (hs : SlK .i64 w A n L) (hw : Cf.Wf ⟨h, L, f, m, t, a, r⟩) (hM : Cf.image ⟨h, L, f, m, t, a, r⟩ = M) :
    Calls Try.prog 13 #[.agg #[.int .i64 h, .slice A n k, .int .i64 f, .int .i64 m, .int .i64 t, .int .i64 a, .int .i64 r]] w (FrmI M w) :=
  CImage_is ⟨h, L, f, m, t, a, r⟩ A n k M w ⟨hs, hw⟩ hM
theorem CForeign_lit (h : Int) (L : List Int) (f m t a r : Int) (A : Option Addr) (n k : Nat) (M : List Int) (w : World) (hs : SlK .i64 w A n L) (hw : Cf.Wf ⟨h, L, f, m, t, a, r⟩) (hM : Cf.foreign ⟨h, L, f, m, t, a, r⟩ = M) :
    Calls Try.prog 15 #[.agg #[.int .i64 h, .slice A n k, .int .i64 f, .int .i64 m, .int .i64 t, .int .i64 a, .int .i64 r]] w (FrmI M w) :=
  CForeign_is ⟨h, L, f, m, t, a, r⟩ A n k M w ⟨hs, hw⟩ hM

theorem hd_ok : Cf.Ok ⟨8, [5, 1], 2, 3, 4, 2, 1⟩ := ⟨by unfold OkL; decide, by decide, by decide, by decide, by unfold Cf.pool; decide, by decide, by decide, by decide⟩
theorem hd_wf {h f m t a r : Int} (L : List Int) (w : I64 h ∧ I64 f ∧ I64 m ∧ I64 t ∧ I64 a ∧ I64 r) : Cf.Wf ⟨h, L, f, m, t, a, r⟩ := ⟨w.1, w.2.1, w.2.2.1, w.2.2.2.1, w.2.2.2.2.1, w.2.2.2.2.2⟩
theorem hd1 : Cf.right ⟨8, [5, 1], 2, 3, 4, 2, 1⟩ = true := (Cf.right_iff _).2 hd_ok
theorem hd2 : Cf.right ⟨8, [5, 1], 3, 3, 4, 2, 1⟩ = false := Cf.right_no fun h => by have := h.apart 5 (by decide); revert this; unfold Cf.pool; decide
theorem hd3 : Cf.right ⟨8, [5, 4], 2, 3, 4, 2, 1⟩ = false := Cf.right_no fun h => by have := h.apart 4 (by decide); revert this; unfold Cf.pool; decide
theorem hd4 : Cf.right ⟨8, [5, 1], 2, 3, 0, 2, 1⟩ = false := Cf.right_no fun h => by have := h.tlb; simp only at this; omega
theorem hd5 : Cf.right ⟨0, [], 0, 0, 0, 0, 0⟩ = false := Cf.right_no fun h => by have := h.tlb; simp only at this; omega
theorem hd6 : Cf.image ⟨8, [5, 1], 2, 3, 4, 2, 1⟩ = [1, 5] := by rw [Cf.image_of hd_ok]; decide
theorem hd7 : Cf.foreign ⟨8, [5, 1], 2, 3, 4, 2, 1⟩ = [0, 6, 7] := by rw [Cf.foreign_of hd_ok]; decide
theorem hd_zero (w : World) : (zeroValue 24).run Try.prog w = .ok (.agg #[.int .i64 0, .slice none 0 0, .int .i64 0, .int .i64 0, .int .i64 0, .int .i64 0, .int .i64 0]) w := by kernel_rfl

set_option maxRecDepth 100000 in
set_option maxHeartbeats 8000000 in
theorem Chead_any (w : World) : Calls Try.prog 9 #[] w fun e w' => e = .returned (.bool true) ∧ Chg [] w w' := by
  have hz := hd_zero
  go_enter Try.func9, Try.ntmps9
  go_wp2_with fail
  have hc : Chg [] w ((((((w.alloc (.cells #[.int .i64 5, .int .i64 1] 3)).alloc (.cells #[.int .i64 8, .slice (some ⟨w.heap.size, 0, none⟩) 2 2, .int .i64 2, .int .i64 3, .int .i64 4, .int .i64 2, .int .i64 1] 24)).alloc (.cells #[.int .i64 8, .slice (some ⟨w.heap.size, 0, none⟩) 2 2, .int .i64 3, .int .i64 3, .int .i64 4, .int .i64 2, .int .i64 1] 24)).alloc (.cells #[.int .i64 8, .slice (some ⟨w.heap.size + 1 + 1 + 1 + 1, 0, none⟩) 2 2, .int .i64 2, .int .i64 3, .int .i64 4, .int .i64 2, .int .i64 1] 24)).alloc (.cells #[.int .i64 5, .int .i64 4] 3)).alloc (.cells #[.int .i64 8, .slice (some ⟨w.heap.size, 0, none⟩) 2 2, .int .i64 2, .int .i64 3, .int .i64 0, .int .i64 2, .int .i64 1] 24)) := ((((((Chg.refl [] w).alloc _).alloc _).alloc _).alloc _).alloc _).alloc _
  have b0 : Blk ((((((w.alloc (.cells #[.int .i64 5, .int .i64 1] 3)).alloc (.cells #[.int .i64 8, .slice (some ⟨w.heap.size, 0, none⟩) 2 2, .int .i64 2, .int .i64 3, .int .i64 4, .int .i64 2, .int .i64 1] 24)).alloc (.cells #[.int .i64 8, .slice (some ⟨w.heap.size, 0, none⟩) 2 2, .int .i64 3, .int .i64 3, .int .i64 4, .int .i64 2, .int .i64 1] 24)).alloc (.cells #[.int .i64 8, .slice (some ⟨w.heap.size + 1 + 1 + 1 + 1, 0, none⟩) 2 2, .int .i64 2, .int .i64 3, .int .i64 4, .int .i64 2, .int .i64 1] 24)).alloc (.cells #[.int .i64 5, .int .i64 4] 3)).alloc (.cells #[.int .i64 8, .slice (some ⟨w.heap.size, 0, none⟩) 2 2, .int .i64 2, .int .i64 3, .int .i64 0, .int .i64 2, .int .i64 1] 24)) (w.heap.size) 3 #[.int .i64 5, .int .i64 1] := by have := (((((Blk.new w 3 #[.int .i64 5, .int .i64 1]).alloc (.cells #[.int .i64 8, .slice (some ⟨w.heap.size, 0, none⟩) 2 2, .int .i64 2, .int .i64 3, .int .i64 4, .int .i64 2, .int .i64 1] 24)).alloc (.cells #[.int .i64 8, .slice (some ⟨w.heap.size, 0, none⟩) 2 2, .int .i64 3, .int .i64 3, .int .i64 4, .int .i64 2, .int .i64 1] 24)).alloc (.cells #[.int .i64 8, .slice (some ⟨w.heap.size + 1 + 1 + 1 + 1, 0, none⟩) 2 2, .int .i64 2, .int .i64 3, .int .i64 4, .int .i64 2, .int .i64 1] 24)).alloc (.cells #[.int .i64 5, .int .i64 4] 3)).alloc (.cells #[.int .i64 8, .slice (some ⟨w.heap.size, 0, none⟩) 2 2, .int .i64 2, .int .i64 3, .int .i64 0, .int .i64 2, .int .i64 1] 24); simpa using this
  have b1 : Blk ((((((w.alloc (.cells #[.int .i64 5, .int .i64 1] 3)).alloc (.cells #[.int .i64 8, .slice (some ⟨w.heap.size, 0, none⟩) 2 2, .int .i64 2, .int .i64 3, .int .i64 4, .int .i64 2, .int .i64 1] 24)).alloc (.cells #[.int .i64 8, .slice (some ⟨w.heap.size, 0, none⟩) 2 2, .int .i64 3, .int .i64 3, .int .i64 4, .int .i64 2, .int .i64 1] 24)).alloc (.cells #[.int .i64 8, .slice (some ⟨w.heap.size + 1 + 1 + 1 + 1, 0, none⟩) 2 2, .int .i64 2, .int .i64 3, .int .i64 4, .int .i64 2, .int .i64 1] 24)).alloc (.cells #[.int .i64 5, .int .i64 4] 3)).alloc (.cells #[.int .i64 8, .slice (some ⟨w.heap.size, 0, none⟩) 2 2, .int .i64 2, .int .i64 3, .int .i64 0, .int .i64 2, .int .i64 1] 24)) (w.heap.size + 1) 24 #[.int .i64 8, .slice (some ⟨w.heap.size, 0, none⟩) 2 2, .int .i64 2, .int .i64 3, .int .i64 4, .int .i64 2, .int .i64 1] := by have := ((((Blk.new (w.alloc (.cells #[.int .i64 5, .int .i64 1] 3)) 24 #[.int .i64 8, .slice (some ⟨w.heap.size, 0, none⟩) 2 2, .int .i64 2, .int .i64 3, .int .i64 4, .int .i64 2, .int .i64 1]).alloc (.cells #[.int .i64 8, .slice (some ⟨w.heap.size, 0, none⟩) 2 2, .int .i64 3, .int .i64 3, .int .i64 4, .int .i64 2, .int .i64 1] 24)).alloc (.cells #[.int .i64 8, .slice (some ⟨w.heap.size + 1 + 1 + 1 + 1, 0, none⟩) 2 2, .int .i64 2, .int .i64 3, .int .i64 4, .int .i64 2, .int .i64 1] 24)).alloc (.cells #[.int .i64 5, .int .i64 4] 3)).alloc (.cells #[.int .i64 8, .slice (some ⟨w.heap.size, 0, none⟩) 2 2, .int .i64 2, .int .i64 3, .int .i64 0, .int .i64 2, .int .i64 1] 24); simpa using this
  have b2 : Blk ((((((w.alloc (.cells #[.int .i64 5, .int .i64 1] 3)).alloc (.cells #[.int .i64 8, .slice (some ⟨w.heap.size, 0, none⟩) 2 2, .int .i64 2, .int .i64 3, .int .i64 4, .int .i64 2, .int .i64 1] 24)).alloc (.cells #[.int .i64 8, .slice (some ⟨w.heap.size, 0, none⟩) 2 2, .int .i64 3, .int .i64 3, .int .i64 4, .int .i64 2, .int .i64 1] 24)).alloc (.cells #[.int .i64 8, .slice (some ⟨w.heap.size + 1 + 1 + 1 + 1, 0, none⟩) 2 2, .int .i64 2, .int .i64 3, .int .i64 4, .int .i64 2, .int .i64 1] 24)).alloc (.cells #[.int .i64 5, .int .i64 4] 3)).alloc (.cells #[.int .i64 8, .slice (some ⟨w.heap.size, 0, none⟩) 2 2, .int .i64 2, .int .i64 3, .int .i64 0, .int .i64 2, .int .i64 1] 24)) (w.heap.size + 1 + 1) 24 #[.int .i64 8, .slice (some ⟨w.heap.size, 0, none⟩) 2 2, .int .i64 3, .int .i64 3, .int .i64 4, .int .i64 2, .int .i64 1] := by have := (((Blk.new ((w.alloc (.cells #[.int .i64 5, .int .i64 1] 3)).alloc (.cells #[.int .i64 8, .slice (some ⟨w.heap.size, 0, none⟩) 2 2, .int .i64 2, .int .i64 3, .int .i64 4, .int .i64 2, .int .i64 1] 24)) 24 #[.int .i64 8, .slice (some ⟨w.heap.size, 0, none⟩) 2 2, .int .i64 3, .int .i64 3, .int .i64 4, .int .i64 2, .int .i64 1]).alloc (.cells #[.int .i64 8, .slice (some ⟨w.heap.size + 1 + 1 + 1 + 1, 0, none⟩) 2 2, .int .i64 2, .int .i64 3, .int .i64 4, .int .i64 2, .int .i64 1] 24)).alloc (.cells #[.int .i64 5, .int .i64 4] 3)).alloc (.cells #[.int .i64 8, .slice (some ⟨w.heap.size, 0, none⟩) 2 2, .int .i64 2, .int .i64 3, .int .i64 0, .int .i64 2, .int .i64 1] 24); simpa using this
  have b3 : Blk ((((((w.alloc (.cells #[.int .i64 5, .int .i64 1] 3)).alloc (.cells #[.int .i64 8, .slice (some ⟨w.heap.size, 0, none⟩) 2 2, .int .i64 2, .int .i64 3, .int .i64 4, .int .i64 2, .int .i64 1] 24)).alloc (.cells #[.int .i64 8, .slice (some ⟨w.heap.size, 0, none⟩) 2 2, .int .i64 3, .int .i64 3, .int .i64 4, .int .i64 2, .int .i64 1] 24)).alloc (.cells #[.int .i64 8, .slice (some ⟨w.heap.size + 1 + 1 + 1 + 1, 0, none⟩) 2 2, .int .i64 2, .int .i64 3, .int .i64 4, .int .i64 2, .int .i64 1] 24)).alloc (.cells #[.int .i64 5, .int .i64 4] 3)).alloc (.cells #[.int .i64 8, .slice (some ⟨w.heap.size, 0, none⟩) 2 2, .int .i64 2, .int .i64 3, .int .i64 0, .int .i64 2, .int .i64 1] 24)) (w.heap.size + 1 + 1 + 1) 24 #[.int .i64 8, .slice (some ⟨w.heap.size + 1 + 1 + 1 + 1, 0, none⟩) 2 2, .int .i64 2, .int .i64 3, .int .i64 4, .int .i64 2, .int .i64 1] := by have := ((Blk.new (((w.alloc (.cells #[.int .i64 5, .int .i64 1] 3)).alloc (.cells #[.int .i64 8, .slice (some ⟨w.heap.size, 0, none⟩) 2 2, .int .i64 2, .int .i64 3, .int .i64 4, .int .i64 2, .int .i64 1] 24)).alloc (.cells #[.int .i64 8, .slice (some ⟨w.heap.size, 0, none⟩) 2 2, .int .i64 3, .int .i64 3, .int .i64 4, .int .i64 2, .int .i64 1] 24)) 24 #[.int .i64 8, .slice (some ⟨w.heap.size + 1 + 1 + 1 + 1, 0, none⟩) 2 2, .int .i64 2, .int .i64 3, .int .i64 4, .int .i64 2, .int .i64 1]).alloc (.cells #[.int .i64 5, .int .i64 4] 3)).alloc (.cells #[.int .i64 8, .slice (some ⟨w.heap.size, 0, none⟩) 2 2, .int .i64 2, .int .i64 3, .int .i64 0, .int .i64 2, .int .i64 1] 24); simpa using this
  have b4 : Blk ((((((w.alloc (.cells #[.int .i64 5, .int .i64 1] 3)).alloc (.cells #[.int .i64 8, .slice (some ⟨w.heap.size, 0, none⟩) 2 2, .int .i64 2, .int .i64 3, .int .i64 4, .int .i64 2, .int .i64 1] 24)).alloc (.cells #[.int .i64 8, .slice (some ⟨w.heap.size, 0, none⟩) 2 2, .int .i64 3, .int .i64 3, .int .i64 4, .int .i64 2, .int .i64 1] 24)).alloc (.cells #[.int .i64 8, .slice (some ⟨w.heap.size + 1 + 1 + 1 + 1, 0, none⟩) 2 2, .int .i64 2, .int .i64 3, .int .i64 4, .int .i64 2, .int .i64 1] 24)).alloc (.cells #[.int .i64 5, .int .i64 4] 3)).alloc (.cells #[.int .i64 8, .slice (some ⟨w.heap.size, 0, none⟩) 2 2, .int .i64 2, .int .i64 3, .int .i64 0, .int .i64 2, .int .i64 1] 24)) (w.heap.size + 1 + 1 + 1 + 1) 3 #[.int .i64 5, .int .i64 4] := by have := (Blk.new ((((w.alloc (.cells #[.int .i64 5, .int .i64 1] 3)).alloc (.cells #[.int .i64 8, .slice (some ⟨w.heap.size, 0, none⟩) 2 2, .int .i64 2, .int .i64 3, .int .i64 4, .int .i64 2, .int .i64 1] 24)).alloc (.cells #[.int .i64 8, .slice (some ⟨w.heap.size, 0, none⟩) 2 2, .int .i64 3, .int .i64 3, .int .i64 4, .int .i64 2, .int .i64 1] 24)).alloc (.cells #[.int .i64 8, .slice (some ⟨w.heap.size + 1 + 1 + 1 + 1, 0, none⟩) 2 2, .int .i64 2, .int .i64 3, .int .i64 4, .int .i64 2, .int .i64 1] 24)) 3 #[.int .i64 5, .int .i64 4]).alloc (.cells #[.int .i64 8, .slice (some ⟨w.heap.size, 0, none⟩) 2 2, .int .i64 2, .int .i64 3, .int .i64 0, .int .i64 2, .int .i64 1] 24); simpa using this
  have b5 : Blk ((((((w.alloc (.cells #[.int .i64 5, .int .i64 1] 3)).alloc (.cells #[.int .i64 8, .slice (some ⟨w.heap.size, 0, none⟩) 2 2, .int .i64 2, .int .i64 3, .int .i64 4, .int .i64 2, .int .i64 1] 24)).alloc (.cells #[.int .i64 8, .slice (some ⟨w.heap.size, 0, none⟩) 2 2, .int .i64 3, .int .i64 3, .int .i64 4, .int .i64 2, .int .i64 1] 24)).alloc (.cells #[.int .i64 8, .slice (some ⟨w.heap.size + 1 + 1 + 1 + 1, 0, none⟩) 2 2, .int .i64 2, .int .i64 3, .int .i64 4, .int .i64 2, .int .i64 1] 24)).alloc (.cells #[.int .i64 5, .int .i64 4] 3)).alloc (.cells #[.int .i64 8, .slice (some ⟨w.heap.size, 0, none⟩) 2 2, .int .i64 2, .int .i64 3, .int .i64 0, .int .i64 2, .int .i64 1] 24)) (w.heap.size + 1 + 1 + 1 + 1 + 1) 24 #[.int .i64 8, .slice (some ⟨w.heap.size, 0, none⟩) 2 2, .int .i64 2, .int .i64 3, .int .i64 0, .int .i64 2, .int .i64 1] := by have := Blk.new (((((w.alloc (.cells #[.int .i64 5, .int .i64 1] 3)).alloc (.cells #[.int .i64 8, .slice (some ⟨w.heap.size, 0, none⟩) 2 2, .int .i64 2, .int .i64 3, .int .i64 4, .int .i64 2, .int .i64 1] 24)).alloc (.cells #[.int .i64 8, .slice (some ⟨w.heap.size, 0, none⟩) 2 2, .int .i64 3, .int .i64 3, .int .i64 4, .int .i64 2, .int .i64 1] 24)).alloc (.cells #[.int .i64 8, .slice (some ⟨w.heap.size + 1 + 1 + 1 + 1, 0, none⟩) 2 2, .int .i64 2, .int .i64 3, .int .i64 4, .int .i64 2, .int .i64 1] 24)).alloc (.cells #[.int .i64 5, .int .i64 4] 3)) 24 #[.int .i64 8, .slice (some ⟨w.heap.size, 0, none⟩) 2 2, .int .i64 2, .int .i64 3, .int .i64 0, .int .i64 2, .int .i64 1]; simpa using this
  generalize ((((((w.alloc (.cells #[.int .i64 5, .int .i64 1] 3)).alloc (.cells #[.int .i64 8, .slice (some ⟨w.heap.size, 0, none⟩) 2 2, .int .i64 2, .int .i64 3, .int .i64 4, .int .i64 2, .int .i64 1] 24)).alloc (.cells #[.int .i64 8, .slice (some ⟨w.heap.size, 0, none⟩) 2 2, .int .i64 3, .int .i64 3, .int .i64 4, .int .i64 2, .int .i64 1] 24)).alloc (.cells #[.int .i64 8, .slice (some ⟨w.heap.size + 1 + 1 + 1 + 1, 0, none⟩) 2 2, .int .i64 2, .int .i64 3, .int .i64 4, .int .i64 2, .int .i64 1] 24)).alloc (.cells #[.int .i64 5, .int .i64 4] 3)).alloc (.cells #[.int .i64 8, .slice (some ⟨w.heap.size, 0, none⟩) 2 2, .int .i64 2, .int .i64 3, .int .i64 0, .int .i64 2, .int .i64 1] 24)) = w0 at *
  have s1 : SlK .i64 w0 (some ⟨w.heap.size, 0, none⟩) 2 [5, 1] := SlK.of_blk (L := [5, 1]) b0 (by decide) (by decide)
  have s2 : SlK .i64 w0 (some ⟨w.heap.size + 1 + 1 + 1 + 1, 0, none⟩) 2 [5, 4] := SlK.of_blk (L := [5, 4]) b4 (by decide) (by decide)
  clear b0 b4
  refine (CRight_lit 8 [5, 1] 2 3 4 2 1 _ 2 2 true _ s1 (hd_wf _ (by unfold I64; decide)) hd1).mono ?_; rintro e w1 ⟨rfl, k⟩
  replace hc := hc.trans k (by simp)
  replace b1 := b1.chg_ k (by simp)
  replace b2 := b2.chg_ k (by simp)
  replace b3 := b3.chg_ k (by simp)
  replace b5 := b5.chg_ k (by simp)
  replace s1 := s1.chg k
  replace s2 := s2.chg k
  clear k
  obtain ⟨c0, c1, c2, c3, c4, c5, c6⟩ := cfc7 b2
  go_wp2_with fail
  refine (CRight_lit 8 [5, 1] 3 3 4 2 1 _ 2 2 false _ s1 (hd_wf _ (by unfold I64; decide)) hd2).mono ?_; rintro e w2 ⟨rfl, k⟩
  clear c0 c1 c2 c3 c4 c5 c6
  replace hc := hc.trans k (by simp)
  replace b1 := b1.chg_ k (by simp)
  replace b2 := b2.chg_ k (by simp)
  replace b3 := b3.chg_ k (by simp)
  replace b5 := b5.chg_ k (by simp)
  replace s1 := s1.chg k
  replace s2 := s2.chg k
  clear k
  obtain ⟨c0, c1, c2, c3, c4, c5, c6⟩ := cfc7 b3
  go_wp2_with fail
  refine (CRight_lit 8 [5, 4] 2 3 4 2 1 _ 2 2 false _ s2 (hd_wf _ (by unfold I64; decide)) hd3).mono ?_; rintro e w3 ⟨rfl, k⟩
  clear c0 c1 c2 c3 c4 c5 c6
  replace hc := hc.trans k (by simp)
  replace b1 := b1.chg_ k (by simp)
  replace b2 := b2.chg_ k (by simp)
  replace b3 := b3.chg_ k (by simp)
  replace b5 := b5.chg_ k (by simp)
  replace s1 := s1.chg k
  replace s2 := s2.chg k
  clear k
  obtain ⟨c0, c1, c2, c3, c4, c5, c6⟩ := cfc7 b5
  go_wp2_with fail
  refine (CRight_lit 8 [5, 1] 2 3 0 2 1 _ 2 2 false _ s1 (hd_wf _ (by unfold I64; decide)) hd4).mono ?_; rintro e w4 ⟨rfl, k⟩
  clear c0 c1 c2 c3 c4 c5 c6
  replace hc := hc.trans k (by simp)
  replace b1 := b1.chg_ k (by simp)
  replace b2 := b2.chg_ k (by simp)
  replace b3 := b3.chg_ k (by simp)
  replace b5 := b5.chg_ k (by simp)
  replace s1 := s1.chg k
  replace s2 := s2.chg k
  clear k
  obtain ⟨c0, c1, c2, c3, c4, c5, c6⟩ := cfc7 b1
  go_wp2_with fail
  refine (CImage_lit 8 [5, 1] 2 3 4 2 1 _ 2 2 [1, 5] _ s1 (hd_wf _ (by unfold I64; decide)) hd6).mono ?_; rintro e w5 ⟨B, m, rfl, hB, k⟩
  clear c0 c1 c2 c3 c4 c5 c6
  replace hc := hc.trans k (by simp)
  replace b1 := b1.chg_ k (by simp)
  replace b2 := b2.chg_ k (by simp)
  replace b3 := b3.chg_ k (by simp)
  replace b5 := b5.chg_ k (by simp)
  replace s1 := s1.chg k
  replace s2 := s2.chg k
  clear k
  go_wp2_with fail
  have k9 := (Chg.refl [] w5).alloc (.cells #[.int .i64 1, .int .i64 5] 3)
  refine (SameI_is _ _ _ [1, 5] _ _ _ [1, 5] true _ (hB.chg k9) (slk2 w5 3 1 5 (by decide) (by decide)) (by decide)).mono ?_; rintro e w6 ⟨rfl, k⟩
  replace k := k9.trans k (by simp)
  clear k9 hB
  replace hc := hc.trans k (by simp)
  replace b1 := b1.chg_ k (by simp)
  replace b2 := b2.chg_ k (by simp)
  replace b3 := b3.chg_ k (by simp)
  replace b5 := b5.chg_ k (by simp)
  replace s1 := s1.chg k
  replace s2 := s2.chg k
  clear k
  obtain ⟨c0, c1, c2, c3, c4, c5, c6⟩ := cfc7 b1
  go_wp2_with fail
  refine (CForeign_lit 8 [5, 1] 2 3 4 2 1 _ 2 2 [0, 6, 7] _ s1 (hd_wf _ (by unfold I64; decide)) hd7).mono ?_; rintro e w7 ⟨B2, m2, rfl, hB, k⟩
  clear c0 c1 c2 c3 c4 c5 c6
  replace hc := hc.trans k (by simp)
  replace b1 := b1.chg_ k (by simp)
  replace b2 := b2.chg_ k (by simp)
  replace b3 := b3.chg_ k (by simp)
  replace b5 := b5.chg_ k (by simp)
  replace s1 := s1.chg k
  replace s2 := s2.chg k
  clear k
  go_wp2_with fail
  have k9 := (Chg.refl [] w7).alloc (.cells #[.int .i64 0, .int .i64 6, .int .i64 7] 3)
  refine (SameI_is _ _ _ [0, 6, 7] _ _ _ [0, 6, 7] true _ (hB.chg k9) (slk3 w7 3 0 6 7 (by decide)) (by decide)).mono ?_; rintro e w8 ⟨rfl, k⟩
  replace k := k9.trans k (by simp)
  clear k9 hB
  replace hc := hc.trans k (by simp)
  replace b1 := b1.chg_ k (by simp)
  replace b2 := b2.chg_ k (by simp)
  replace b3 := b3.chg_ k (by simp)
  replace b5 := b5.chg_ k (by simp)
  replace s1 := s1.chg k
  replace s2 := s2.chg k
  clear k
  go_wp2_with fail
  refine (CRight_lit 0 [] 0 0 0 0 0 none 0 0 false _ (slk0 _ _) (hd_wf _ (by unfold I64; decide)) hd5).mono ?_; rintro e w9 ⟨rfl, k⟩
  replace hc := hc.trans k (by simp)
  go_wp2_with fail
  go_ret
  exact ⟨rfl, hc⟩

end Go.Proofs.Ytkggkdjhecagnaa
