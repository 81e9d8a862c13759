/-
  The contract of frame's Fill.
-/
import Derived.Test.YtepbknndemlbcaaFrameB
namespace Go.Proofs.Ytepbknndemlbcaa
open Go.RowKit

set_option maxHeartbeats 400000 in
theorem Fill_no (p b n : Nat) (L : List Int) (f : Int) (A : Option Addr) (m c : Nat) (w : World) (h : MemAt w p b n L) (hm : m ≤ 9223372036854775807) (hf : hasF n f = false ∨ m ≠ 8) :
    Calls Try.prog 36 #[.pointer (some ⟨p, 0, none⟩), .int .i64 f, .slice A m c] w fun e w' => e = .returned (.bool false) ∧ w = w' := by
  by_cases h1 : hasF n f = false
  · clear hf
    go_enter Try.func36, Try.ntmps36
    go_wp2_with (go_at_call 41; refine (hasFrame_any p b n L f _ h).mono ?_; rintro e w' ⟨rfl, rfl⟩)
    go_ret
    exact ⟨rfl, rfl⟩
  · have h2 : hasF n f = true := by simpa using h1
    have h3 : ((m : Int) != 8) = true := by simp; rcases hf with hf | hf; exact absurd hf h1; omega
    clear hf h1
    go_enter Try.func36, Try.ntmps36
    go_wp2_with (go_at_call 41; refine (hasFrame_any p b n L f _ h).mono ?_; rintro e w' ⟨rfl, rfl⟩)
    go_ret
    exact ⟨rfl, rfl⟩

set_option maxHeartbeats 400000 in
theorem Fill_yes (p b n : Nat) (L : List Int) (f : Nat) (A : Option Addr) (c : Nat) (xs : List Int) (w : World) (h : MemAt w p b n L) (hf : f < n) (hs : SlU w A 8 xs) :
    Calls Try.prog 36 #[.pointer (some ⟨p, 0, none⟩), .int .i64 f, .slice A 8 c] w fun e w' => e = .returned (.bool true) ∧ Chg [b] w w' ∧ w'.heap.size = w.heap.size ∧ MemAt w' p b n (setAll L (f * 8) xs) := by
  have hw : hasF n f = true := by simp [hasF]; omega
  obtain ⟨g, off, rfl, hg, hcell⟩ := hs.at_ (by omega)
  have c0 := h.st.cell 0
  simp at c0
  have hn := h.le
  have hr : w.rangeAt g off (xs.map (Value.int .u64)) := fun j v hv => by
    rw [List.getElem?_map] at hv
    cases hx : xs[j]? with
    | none => rw [hx] at hv; cases hv
    | some u => rw [hx] at hv; injection hv with hv; rw [← hv]; exact hcell j u hx
  have hxl := hs.len
  have ha := run_arrayAt (P := Try.prog) 77 _ 8 ⟨g, off, none⟩ 8 c Try.underlying77 (by omega)
  have HX := Lib.hid hxl
  clear hcell hs hxl
  go_enter Try.func36, Try.ntmps36
  go_wp2_with (go_at_call 41; refine (hasFrame_any p b n L f _ h).mono ?_; rintro e w' ⟨rfl, rfl⟩)
  refine wp_region_still_tail 9 (by kernel_rfl) (by kernel_rfl) ?_
  simp only [List.take_succ_cons, List.take_zero, List.drop_succ_cons, List.drop_zero]
  change wpStill _ _ (World.drew _) _ _ _
  iterate 7 still_step
  refine wpStill_plain rfl (fun K hK => ?_)
  refine still_load_mid 77 _ rfl g off rfl (xs.map (Value.int .u64)) _ hr Try.underlying77 rfl ?_ (hK _ ?_)
  · rw [List.length_map, HX.out]; kernel_rfl
  clear hK K
  still_step
  refine wpStill_nil ?_
  have hb := h.ws
  have hl := h.len
  have ht : w.drew.there b (f * 8) (xs.map (Value.int .u64)).toArray.size := Blk.there (w := w.drew) hb (f * 8) _ (by rw [u64s_size]; simp [HX.out]; omega)
  have HL := Lib.hid hl
  clear hl
  refine wpList_store_mid rfl 77 _ _ rfl b (f * 8) (xs.map (Value.int .u64)).toArray rfl rfl ht ?_ ?_ ?_
  · rw [List.size_toArray, List.length_map, HX.out]; kernel_rfl
  · exact all_oneCell_toArray (by simp [Value.oneCell'])
  clear ht
  have hst := setCells_blk xs L (f * 8) w.drew hb
  have hcg : Chg [b] w (w.drew.setCells b (f * 8) (xs.map (Value.int .u64))) := Chg.setCells (by simp) _ _ _ (Chg.refl [b] w).drew
  have hsz := setCells_size b (xs.map (Value.int .u64)) (f * 8) w.drew
  have HZ := Lib.hid hsz; have HC := Lib.hid hcg; have HT := Lib.hid hst; clear hcg hst
  clear hsz
  go_wp2
  go_ret
  have hpb : p ≠ b := by
    intro e; have h1 := h.st; subst e; unfold Blk at h1 hb; rw [h1] at hb; injection hb with hb; injection hb with _ h3; revert h3; decide
  exact ⟨rfl, HC.out, HZ.out, HC.out.blk h.st (by simpa using hpb), HT.out, by rw [setAll_len]; exact HL.out, h.pos, h.le⟩

end Go.Proofs.Ytepbknndemlbcaa
