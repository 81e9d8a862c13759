/-
  The contracts of frame's New, Frame.
-/
import Derived.Test.YtdfmlodmaipnkaaGreatDoorFrameA
namespace Go.Proofs.YtdfmlodmaipnkaaGreatDoor
open Go.RowKit

theorem words_info : ((Tryz.prog.info? 123).map (fun i => (i.zero, i.size, i.bytes))) = some (some (.agg #[.int .u64 0, .int .u64 0, .int .u64 0, .int .u64 0, .int .u64 0, .int .u64 0, .int .u64 0, .int .u64 0]), 8, 64) := by kernel_rfl
theorem u64_info : ((Tryz.prog.info? 45).map (fun i => (i.zero, i.size, i.bytes))) = some (some (.int .u64 0), 1, 8) := by kernel_rfl

theorem make_words (n : Nat) (hn : n ≤ 256) (w : World) :
    (Instr.makeSlice 93 (.int .i64 n) (.int .i64 n)).run Tryz.prog w = .ok (.slice (some ⟨w.heap.size, 0, none⟩) n n) (w.alloc (.cells (u64s (zeros (n * 8))) 123)) := by
  obtain ⟨i, hi, hz, hs, hb⟩ := info_parts words_info
  rw [run_mk Tryz.underlying93 hi hz n (by rw [hb]; omega) (by omega) w, hs, ← u64s_zero]
  rw [madeCells_const (Value.agg #[.int .u64 0, .int .u64 0, .int .u64 0, .int .u64 0, .int .u64 0, .int .u64 0, .int .u64 0, .int .u64 0]).cells (.int .u64 0) _ 8 (by decide) rfl]

theorem make_u64s (n : Nat) (hn : n ≤ 1073741824) (w : World) :
    (Instr.makeSlice 42 (.int .i64 n) (.int .i64 n)).run Tryz.prog w = .ok (.slice (some ⟨w.heap.size, 0, none⟩) n n) (w.alloc (.cells (u64s (zeros n)) 45)) := by
  obtain ⟨i, hi, hz, hs, hb⟩ := info_parts u64_info
  rw [run_mk Tryz.underlying42 hi hz n (by rw [hb]; omega) (by omega) w, hs, ← u64s_zero]
  rw [madeCells_const (Value.int .u64 0).cells (.int .u64 0) _ 1 (by decide) rfl, Nat.mul_one]

set_option maxHeartbeats 400000 in
theorem New_no (n : Int) (w : World) (h : n < 1 ∨ 256 < n) :
    Calls Tryz.prog 18 #[.int .i64 n] w fun e w' => e = .returned (.pointer none) ∧ w = w' := by
  go_enter Tryz.func18, Tryz.ntmps18
  go_wp2
  all_goals go_ret
  all_goals exact ⟨rfl, rfl⟩

set_option maxHeartbeats 400000 in
theorem New_yes (n : Nat) (w : World) (h1 : 1 ≤ n) (h2 : n ≤ 256) :
    Calls Tryz.prog 18 #[.int .i64 n] w fun e w' => e = .returned (.pointer (some ⟨w.heap.size + 1, 0, none⟩)) ∧ Chg [] w w' ∧ w'.heap.size = w.heap.size + 2 ∧ MemAt w' (w.heap.size + 1) w.heap.size n (zeros (8 * n)) := by
  have hm := make_words n h2
  go_enter Tryz.func18, Tryz.ntmps18
  go_wp2
  all_goals go_ret
  all_goals refine ⟨rfl, ((Chg.refl _ _).alloc _).alloc _, by simp, ?_⟩
  all_goals exact ⟨by have := Blk.new (w.alloc (.cells (u64s (zeros (n * 8))) 123)) 95 #[.slice (some ⟨w.heap.size, 0, none⟩) n n]; simpa using this, by rw [Nat.mul_comm 8 n]; exact (Blk.new w _ _).alloc _, by simp [zeros], h1, h2⟩

/-- the words of frame f -/
def frameOf (L : List Int) (f : Nat) : List Int := (L.drop (f * 8)).take 8

set_option maxHeartbeats 400000 in
theorem Frame_no (p b n : Nat) (L : List Int) (f : Int) (w : World) (h : MemAt w p b n L) (hf : hasF n f = false) :
    Calls Tryz.prog 44 #[.pointer (some ⟨p, 0, none⟩), .int .i64 f] w fun e w' => e = .returned (.slice none 0 0) ∧ w = w' := by
  go_enter Tryz.func44, Tryz.ntmps44
  go_wp2_with (go_at_call 63; refine (hasFrame_any p b n L f _ h).mono ?_; rintro e w' ⟨rfl, rfl⟩)
  go_ret
  exact ⟨rfl, rfl⟩

theorem frameOf_len {L : List Int} {n f : Nat} (hl : L.length = 8 * n) (hf : f < n) : (frameOf L f).length = 8 := by simp [frameOf]; omega
theorem frameOf_get {L : List Int} {f : Nat} (k : Nat) (hk : k < 8) : (frameOf L f)[k]? = L[f * 8 + k]? := by simp [frameOf, hk]

/-- the first k words of x are written over the zeros -/
def part8 (x : List Int) (k : Nat) : List Int := x.take k ++ zeros (8 - k)
theorem part8_zero (x : List Int) : part8 x 0 = zeros 8 := by simp [part8]
theorem part8_full (x : List Int) (h : x.length = 8) : part8 x 8 = x := by simp [part8, zeros, List.take_of_length_le (Nat.le_of_eq h)]
theorem part8_set (x : List Int) (h : x.length = 8) (k : Nat) (hk : k < 8) : (part8 x k).set k (x.getD k 0) = part8 x (k + 1) := by
  apply List.ext_getElem?
  intro j
  simp only [part8, zeros, List.getElem?_set, List.getElem?_append, List.length_append, List.length_take, List.length_replicate, List.getElem?_take, List.getElem?_replicate, List.getD_eq_getElem?_getD]
  by_cases e : k = j
  · subst e
    rw [List.getElem?_eq_getElem (show k < x.length by omega)]
    rw [if_pos rfl, if_pos (by omega), if_pos (by omega), if_pos (by omega)]; rfl
  · rw [if_neg e]
    by_cases h1 : j < min k x.length
    · rw [if_pos h1, if_pos (by omega), if_pos (by omega), if_pos (by omega)]
    · rw [if_neg h1, if_neg (show ¬ j < min (k+1) x.length by omega)]
      by_cases h2 : j < 8
      · rw [if_pos (by omega), if_pos (by omega)]
      · rw [if_neg (by omega), if_neg (by omega)]

set_option maxHeartbeats 400000 in
theorem Frame_yes (p b n : Nat) (L : List Int) (f : Nat) (w : World) (h : MemAt w p b n L) (hf : f < n) :
    Calls Tryz.prog 44 #[.pointer (some ⟨p, 0, none⟩), .int .i64 f] w fun e w' => e = .returned (.slice (some ⟨w.heap.size, 0, none⟩) 8 8) ∧ Chg [] w w' ∧ w'.heap.size = w.heap.size + 1 ∧ Blk w' w.heap.size 45 (u64s (frameOf L f)) := by
  have hw : hasF n f = true := by simp [hasF]; omega
  have hm : ∀ w : World, (Instr.makeSlice 42 (.int .i64 8) (.int .i64 8)).run Tryz.prog w = .ok (.slice (some ⟨w.heap.size, 0, none⟩) 8 8) (w.alloc (.cells (u64s (zeros 8)) 45)) := fun w => make_u64s 8 (by omega) w
  have hn := h.le
  have hpb : p ≠ w.heap.size ∧ b ≠ w.heap.size := ⟨Nat.ne_of_lt h.st.lt, Nat.ne_of_lt h.ws.lt⟩
  go_enter Tryz.func44, Tryz.ntmps44
  go_wp2_with (go_at_call 63; refine (hasFrame_any p b n L f _ h).mono ?_; rintro e w' ⟨rfl, rfl⟩)
  go_loopw [12] (fun i w' => ∃ k : Nat, k ≤ 8 ∧ i = .int .i64 k ∧ Chg [] w w' ∧ w'.heap.size = w.heap.size + 1 ∧ Blk w' w.heap.size 45 (u64s (part8 (frameOf L f) k))) (fun i _ => 8 - (intOf i).toNat)
  case atStart => exact ⟨0, by omega, rfl, (Chg.refl _ _).alloc _, by simp, by rw [part8_zero]; exact Blk.new _ _ _⟩
  case round =>
    obtain ⟨k, hk, rfl, hc, hz, hb⟩ := hrel
    have HZ := Lib.hid hz; clear hz
    have hM : MemAt wr p b n L := ⟨hc.blk h.st (by simp), hc.blk h.ws (by simp), h.len, h.pos, h.le⟩
    have c0 := hM.st.cell 0
    simp at c0
    by_cases hlt : k < 8
    · have c1 := hM.word hf hlt
      have c2 := hb.frozen k
      have hl8 := frameOf_len h.len hf
      have hst := part8_set _ hl8 k hlt
      have hv : (frameOf L f).getD k 0 = L.getD (f * 8 + k) 0 := by simp only [List.getD_eq_getElem?_getD]; rw [frameOf_get k hlt]
      rw [hv] at hst
      have c3 : ∃ u, wr.cell? ⟨w.heap.size, k, none⟩ = some (.int .u64 u) := by
        rw [hb.cell, u64s_get]
        have hl : (part8 (frameOf L f) k).length = 8 := by simp [part8, zeros, hl8]; omega
        rw [List.getElem?_eq_getElem (by omega)]; exact ⟨_, rfl⟩
      obtain ⟨u, c3⟩ := c3
      generalize L.getD (f * 8 + k) 0 = x at *
      have HS := Lib.hid hst; clear hst
      have HV := Lib.hid hv; clear hv
      have HL := Lib.hid hl8; clear hl8
      go_wp2
      go_roundw
      case rel => exact ⟨k + 1, by omega, by go_num, hc.setCell (by simp) _, by simpa using HZ.out, by rw [← HS.out, ← u64s_set]; exact hb.set_ k _⟩
      case measure => simp [intOf]; omega
    · obtain rfl : k = 8 := by omega
      go_wp2
      go_ret
      exact ⟨rfl, hc, HZ.out, by rw [← part8_full _ (frameOf_len h.len hf)]; exact hb⟩

end Go.Proofs.YtdfmlodmaipnkaaGreatDoor
