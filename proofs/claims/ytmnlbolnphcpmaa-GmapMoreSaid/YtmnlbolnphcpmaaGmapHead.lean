/-
  The live question 'head' of the laws of gmap; lists that a law makes itself.
-/
import Derived.Test.YtmnlbolnphcpmaaGmapR
namespace Go.Proofs.Ytmnlbolnphcpmaa
open Go.RowKit Go.Maps

theorem SlK.of_blk {k : IntKind} {w : World} {g : Nat} {t : TypeId} {L : List Int} (h : Blk w g t (vals k L).toArray) (hw : ∀ x ∈ L, k.min ≤ x ∧ x ≤ k.max) (hl : L.length ≤ 9223372036854775807) : SlK k w (some ⟨g, 0, none⟩) L.length L :=
  ⟨rfl, hl, hw, fun _ => ⟨g, 0, rfl, h.lt, fun j u hu => by rw [h.cell, List.getElem?_toArray, Nat.zero_add, vals_get, hu]; rfl⟩⟩
theorem slk_new (w : World) (t : TypeId) (L : List Int) (hw : ∀ x ∈ L, IntKind.i64.min ≤ x ∧ x ≤ IntKind.i64.max) (hl : L.length ≤ 9223372036854775807) :
    SlK .i64 (w.alloc (.cells (vals .i64 L).toArray t)) (some ⟨w.heap.size, 0, none⟩) L.length L := SlK.of_blk (Blk.new w t _) hw hl

theorem slk1 (w : World) (t : TypeId) (x : Int) (hw : IntKind.i64.min ≤ x ∧ x ≤ IntKind.i64.max) : SlK .i64 (w.alloc (.cells #[.int .i64 x] t)) (some ⟨w.heap.size, 0, none⟩) 1 [x] := slk_new w t [x] (by simpa using hw) (by simp)
theorem slk2 (w : World) (t : TypeId) (x y : Int) (hw : IntKind.i64.min ≤ x ∧ x ≤ IntKind.i64.max) (hv : IntKind.i64.min ≤ y ∧ y ≤ IntKind.i64.max) : SlK .i64 (w.alloc (.cells #[.int .i64 x, .int .i64 y] t)) (some ⟨w.heap.size, 0, none⟩) 2 [x, y] :=
  slk_new w t [x, y] (by intro z hz; simp at hz; rcases hz with rfl | rfl <;> assumption) (by simp)
theorem slk3 (w : World) (t : TypeId) (x y z : Int) (h : ∀ u ∈ [x, y, z], IntKind.i64.min ≤ u ∧ u ≤ IntKind.i64.max) : SlK .i64 (w.alloc (.cells #[.int .i64 x, .int .i64 y, .int .i64 z] t)) (some ⟨w.heap.size, 0, none⟩) 3 [x, y, z] :=
  slk_new w t [x, y, z] h (by simp)
theorem slk0 (k : IntKind) (w : World) : SlK k w none 0 [] := ⟨rfl, by decide, by simp, by omega⟩

theorem GHost_is (S : List Nat) (p : Nat) (L : List Int) (g : Int) (x : Int) (t : Bool) (w : World) (h : GAt w S p L) (hx : atV L g = x) (ht : atB L.length g = t) :
    Calls Try.prog 12 #[.pointer (some ⟨p, 0, none⟩), .int .i64 g] w fun e w' => e = .returned (.tuple #[.int .i64 x, .bool t]) ∧ w = w' := hx ▸ ht ▸ GHost_at S p L g w h
theorem GGuest_is (S : List Nat) (p : Nat) (L : List Int) (h0 : Int) (x : Int) (t : Bool) (w : World) (h : GAt w S p L) (hf : -9223372036854775808 ≤ h0 ∧ h0 ≤ 9223372036854775807) (hx : (locO L h0).getD 0 = x) (ht : (locO L h0).isSome = t) :
    Calls Try.prog 14 #[.pointer (some ⟨p, 0, none⟩), .int .i64 h0] w fun e w' => e = .returned (.tuple #[.int .i64 x, .bool t]) ∧ Chg [] w w' := hx ▸ ht ▸ GGuest_at S p L h0 w h hf

set_option maxRecDepth 100000 in
set_option maxHeartbeats 4000000 in
theorem Ghead_any (w : World) : Calls Try.prog 9 #[] w fun e w' => e = .returned (.bool true) ∧ Chg [] w w' := by
  go_enter Try.func9, Try.ntmps9
  go_wp2_with fail
  refine (GNew_ok _ 3 3 [5, 2, 9] 10 _ (slk3 w _ 5 2 9 (by decide)) ⟨by decide, by decide, by decide, by decide, by decide, by decide⟩).mono ?_; rintro e w1 ⟨p, S, rfl, hc1, h1, hS⟩
  have hca : Chg [] w w1 := ((Chg.refl [] w).alloc _).trans hc1 (by simp)
  clear hc1 hS
  go_wp2_with fail
  refine (GNew_no _ 2 2 [5, 5] 10 _ (slk2 w1 _ 5 5 (by decide) (by decide)) (fun h => absurd h.2.2.2.2.2 (by decide))).mono ?_; rintro e w2 ⟨rfl, hc2⟩
  have hcb : Chg [] w1 w2 := ((Chg.refl [] w1).alloc _).trans hc2 (by simp)
  have h2 := h1.self hcb
  have hcc := hca.trans hcb (by simp)
  clear hc2 hcb hca h1
  go_wp2_with fail
  refine (GNew_no _ 1 1 [10] 10 _ (slk1 w2 _ 10 (by decide)) (fun h => absurd h.2.2.2.2.1 (by decide))).mono ?_; rintro e w3 ⟨rfl, hc3⟩
  have hcd : Chg [] w2 w3 := ((Chg.refl [] w2).alloc _).trans hc3 (by simp)
  have h3 := h2.self hcd
  have hce := hcc.trans hcd (by simp)
  clear hc3 hcd hcc h2
  go_wp2_with fail
  refine (GNew_no none 0 0 [] 10 _ (slk0 .i64 w3) (fun h => absurd h.1 (by decide))).mono ?_; rintro e w4 ⟨rfl, hc4⟩
  have h4 := h3.self hc4
  have hcf := hce.trans hc4 (by simp)
  clear hce hc4 h3
  go_wp2_with fail
  refine (GNew_no _ 1 1 [0] 257 _ (slk1 w4 _ 0 (by decide)) (fun h => absurd h.2.2.2.1 (by decide))).mono ?_; rintro e w5 ⟨rfl, hc5⟩
  have hcg : Chg [] w4 w5 := ((Chg.refl [] w4).alloc _).trans hc5 (by simp)
  have h5 := h4.self hcg
  have hch := hcf.trans hcg (by simp)
  clear hc5 hcg hcf h4
  go_wp2_with fail
  refine (GHost_is S p [5, 2, 9] 1 2 true _ h5 (by decide) (by decide)).mono ?_; rintro e w' ⟨rfl, rfl⟩
  go_wp2_with fail
  refine (GHost_is S p [5, 2, 9] 3 0 false _ h5 (by decide) (by decide)).mono ?_; rintro e w' ⟨rfl, rfl⟩
  go_wp2_with fail
  refine (GGuest_is S p [5, 2, 9] 9 2 true _ h5 (by decide) (by decide) (by decide)).mono ?_; rintro e w6 ⟨rfl, hc6⟩
  have h6 := h5.self hc6
  have hci := hch.trans hc6 (by simp)
  clear hch hc6 h5
  go_wp2_with fail
  refine (GGuest_is S p [5, 2, 9] 0 0 false _ h6 (by decide) (by decide) (by decide)).mono ?_; rintro e w7 ⟨rfl, hc7⟩
  have h7 := h6.self hc7
  have hcj := hci.trans hc7 (by simp)
  clear hci hc7 h6
  go_wp2_with fail
  refine (GMany_at S p [5, 2, 9] _ h7).mono ?_; rintro e w' ⟨rfl, rfl⟩
  go_wp2_with fail
  go_ret
  exact ⟨rfl, hcj⟩

end Go.Proofs.Ytmnlbolnphcpmaa
