/-
  The contracts of frame's hasFrame, hasWord, Get, Set.
-/
import Derived.Test.YtdfmlodmaipnkaaGreatDoorProg
import Derived.Test.YtdfmlodmaipnkaaGreatDoorLib
namespace Go.Proofs.YtdfmlodmaipnkaaGreatDoor
open Go.RowKit

/-- p is a memory: its struct is block p, its words are block b -/
structure MemAt (w : World) (p b n : Nat) (L : List Int) : Prop where
  st : Blk w p 95 #[.slice (some ⟨b, 0, none⟩) n n]
  ws : Blk w b 123 (u64s L)
  len : L.length = 8 * n
  pos : 1 ≤ n
  le : n ≤ 256

def hasF (n : Nat) (f : Int) : Bool := decide (0 ≤ f ∧ f < n)
def hasW (n : Nat) (f i : Int) : Bool := decide (0 ≤ f ∧ f < n ∧ 0 ≤ i ∧ i < 8)

set_option maxHeartbeats 400000 in
theorem hasFrame_any (p b n : Nat) (L : List Int) (f : Int) (w : World) (h : MemAt w p b n L) :
    Calls Tryz.prog 63 #[.pointer (some ⟨p, 0, none⟩), .int .i64 f] w fun e w' => e = .returned (.bool (hasF n f)) ∧ w = w' := by
  have c0 := h.st.cell 0
  simp at c0
  have hn := h.le
  go_enter Tryz.func63, Tryz.ntmps63
  go_wp2
  all_goals go_ret
  all_goals exact ⟨ret_bool (by simp [hasF]; omega), rfl⟩

set_option maxHeartbeats 400000 in
theorem hasWord_any (p b n : Nat) (L : List Int) (f i : Int) (w : World) (h : MemAt w p b n L) :
    Calls Tryz.prog 64 #[.pointer (some ⟨p, 0, none⟩), .int .i64 f, .int .i64 i] w fun e w' => e = .returned (.bool (hasW n f i)) ∧ w = w' := by
  by_cases hf : hasF n f = true
  · go_enter Tryz.func64, Tryz.ntmps64
    go_wp2_with (go_at_call 63; refine (hasFrame_any p b n L f _ h).mono ?_; rintro e w' ⟨rfl, rfl⟩)
    all_goals go_ret
    all_goals exact ⟨ret_bool (by simp [hasF] at hf; rw [Bool.eq_iff_iff]; simp [hasW]; omega), rfl⟩
  · have hf' : hasF n f = false := by simpa using hf
    go_enter Tryz.func64, Tryz.ntmps64
    go_wp2_with (go_at_call 63; refine (hasFrame_any p b n L f _ h).mono ?_; rintro e w' ⟨rfl, rfl⟩)
    all_goals go_ret
    all_goals exact ⟨ret_bool (by simp [hasF] at hf'; rw [Bool.eq_iff_iff]; simp [hasW]; omega), rfl⟩

set_option maxHeartbeats 400000 in
theorem Get_no (p b n : Nat) (L : List Int) (f i : Int) (w : World) (h : MemAt w p b n L) (hw : hasW n f i = false) :
    Calls Tryz.prog 45 #[.pointer (some ⟨p, 0, none⟩), .int .i64 f, .int .i64 i] w fun e w' => e = .returned (.tuple #[.int .u64 0, .bool false]) ∧ w = w' := by
  go_enter Tryz.func45, Tryz.ntmps45
  go_wp2_with (go_at_call 64; refine (hasWord_any p b n L f i _ h).mono ?_; rintro e w' ⟨rfl, rfl⟩)
  go_ret2
  exact ⟨rfl, rfl⟩

theorem MemAt.word {p b n : Nat} {L : List Int} {w : World} (h : MemAt w p b n L) {f i : Nat} (hf : f < n) (hi : i < 8) : w.cell? ⟨b, f * 8 + i, none⟩ = some (.int .u64 (L.getD (f * 8 + i) 0)) := by
  have hl := h.len
  rw [h.ws.cell, u64s_get]
  simp only [List.getD_eq_getElem?_getD]
  rw [List.getElem?_eq_getElem (by omega)]
  simp

set_option maxHeartbeats 400000 in
theorem Get_yes (p b n : Nat) (L : List Int) (f i : Nat) (w : World) (h : MemAt w p b n L) (hf : f < n) (hi : i < 8) :
    Calls Tryz.prog 45 #[.pointer (some ⟨p, 0, none⟩), .int .i64 f, .int .i64 i] w fun e w' => e = .returned (.tuple #[.int .u64 (L.getD (f * 8 + i) 0), .bool true]) ∧ w = w' := by
  have hw : hasW n f i = true := by simp [hasW]; omega
  have c0 := h.st.cell 0
  simp at c0
  have c1 := h.word hf hi
  have hn := h.le
  generalize L.getD (f * 8 + i) 0 = x at *
  go_enter Tryz.func45, Tryz.ntmps45
  go_wp2_with (go_at_call 64; refine (hasWord_any p b n L f i _ h).mono ?_; rintro e w' ⟨rfl, rfl⟩)
  go_ret2
  exact ⟨rfl, rfl⟩

set_option maxHeartbeats 400000 in
theorem Set_no (p b n : Nat) (L : List Int) (f i v : Int) (w : World) (h : MemAt w p b n L) (hw : hasW n f i = false) :
    Calls Tryz.prog 47 #[.pointer (some ⟨p, 0, none⟩), .int .i64 f, .int .i64 i, .int .u64 v] w fun e w' => e = .returned (.bool false) ∧ w = w' := by
  go_enter Tryz.func47, Tryz.ntmps47
  go_wp2_with (go_at_call 64; refine (hasWord_any p b n L f i _ h).mono ?_; rintro e w' ⟨rfl, rfl⟩)
  go_ret
  exact ⟨rfl, rfl⟩

theorem MemAt.set {p b n : Nat} {L : List Int} {w : World} (h : MemAt w p b n L) (k : Nat) (v : Int) : MemAt (w.setCell ⟨b, k, none⟩ (.int .u64 v)) p b n (L.set k v) := by
  have hne : p ≠ b := by
    intro e; have h1 := h.st; have h2 := h.ws; subst e; unfold Blk at h1 h2; rw [h1] at h2; injection h2 with h2; injection h2 with _ h3; revert h3; decide
  exact ⟨h.st.far hne _, u64s_set L k v ▸ h.ws.set_ k _, by simp [h.len], h.pos, h.le⟩

set_option maxHeartbeats 400000 in
theorem Set_yes (p b n : Nat) (L : List Int) (f i : Nat) (v : Int) (w : World) (h : MemAt w p b n L) (hf : f < n) (hi : i < 8) :
    Calls Tryz.prog 47 #[.pointer (some ⟨p, 0, none⟩), .int .i64 f, .int .i64 i, .int .u64 v] w fun e w' =>
      e = .returned (.bool true) ∧ w.setCell ⟨b, f * 8 + i, none⟩ (.int .u64 v) = w' := by
  have hw : hasW n f i = true := by simp [hasW]; omega
  have c0 := h.st.cell 0
  simp at c0
  have c1 := h.word hf hi
  have c2 := h.ws.frozen (f * 8 + i)
  have hn := h.le
  generalize L.getD (f * 8 + i) 0 = x at *
  go_enter Tryz.func47, Tryz.ntmps47
  go_wp2_with (go_at_call 64; refine (hasWord_any p b n L f i _ h).mono ?_; rintro e w' ⟨rfl, rfl⟩)
  go_ret
  exact ⟨rfl, rfl⟩

end Go.Proofs.YtdfmlodmaipnkaaGreatDoor
