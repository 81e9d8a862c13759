/-
  The contracts of the document's memory: New, Frames, is, Get, Set, Frame, Fill.
-/
import Derived.Test.YtdfmlodmaipnkaaGreatDoorRefA
namespace Go.Proofs.YtdfmlodmaipnkaaGreatDoor
open Go.RowKit

/-- p is a memory of the document's: its struct is block p, its words are block b -/
structure RMemAt (w : World) (p b n : Nat) (L : List Int) : Prop where
  st : Blk w p 103 #[.slice (some ⟨b, 0, none⟩) (n * 8) (n * 8)]
  ws : Blk w b 45 (u64s L)
  len : L.length = 8 * n
  pos : 1 ≤ n
  le : n ≤ 256

theorem RMemAt.word {p b n : Nat} {L : List Int} {w : World} (h : RMemAt w p b n L) {f i : Nat} (hf : f < n) (hi : i < 8) : w.cell? ⟨b, f * 8 + i, none⟩ = some (.int .u64 (L.getD (f * 8 + i) 0)) := by
  have hl := h.len
  rw [h.ws.cell, u64s_get]
  simp only [List.getD_eq_getElem?_getD]
  rw [List.getElem?_eq_getElem (by omega)]
  simp
theorem RMemAt.ne {p b n : Nat} {L : List Int} {w : World} (h : RMemAt w p b n L) : p ≠ b := h.st.type_ne h.ws (by decide)
theorem RMemAt.set {p b n : Nat} {L : List Int} {w : World} (h : RMemAt w p b n L) (k : Nat) (v : Int) : RMemAt (w.setCell ⟨b, k, none⟩ (.int .u64 v)) p b n (L.set k v) :=
  ⟨h.st.far h.ne _, u64s_set L k v ▸ h.ws.set_ k _, by simp [h.len], h.pos, h.le⟩
theorem RMemAt.chg {p b n : Nat} {L : List Int} {w w' : World} {S : List Nat} (h : RMemAt w p b n L) (hc : Chg S w w') (hp : p ∉ S) (hb : b ∉ S) : RMemAt w' p b n L :=
  ⟨hc.blk h.st hp, hc.blk h.ws hb, h.len, h.pos, h.le⟩
theorem MemAt.chg {p b n : Nat} {L : List Int} {w w' : World} {S : List Nat} (h : MemAt w p b n L) (hc : Chg S w w') (hp : p ∉ S) (hb : b ∉ S) : MemAt w' p b n L :=
  ⟨hc.blk h.st hp, hc.blk h.ws hb, h.len, h.pos, h.le⟩

set_option maxHeartbeats 400000 in
theorem RNew_no (n : Int) (w : World) (h : n < 1 ∨ 256 < n) :
    Calls Tryz.prog 23 #[.int .i64 n] w fun e w' => e = .returned (.pointer none) ∧ w = w' := by
  go_enter Tryz.func23, Tryz.ntmps23
  go_wp2
  all_goals go_ret
  all_goals exact ⟨rfl, rfl⟩

set_option maxHeartbeats 400000 in
theorem RNew_yes (n : Nat) (w : World) (h1 : 1 ≤ n) (h2 : n ≤ 256) :
    Calls Tryz.prog 23 #[.int .i64 n] w fun e w' => e = .returned (.pointer (some ⟨w.heap.size + 1, 0, none⟩)) ∧ Chg [] w w' ∧ w'.heap.size = w.heap.size + 2 ∧ RMemAt w' (w.heap.size + 1) w.heap.size n (zeros (8 * n)) := by
  have hm : ∀ w : World, (Instr.makeSlice 42 (.int .i64 (n * 8)) (.int .i64 (n * 8))).run Tryz.prog w = .ok (.slice (some ⟨w.heap.size, 0, none⟩) (n * 8) (n * 8)) (w.alloc (.cells (u64s (zeros (n * 8))) 45)) := fun w => by
    have := make_u64s (n * 8) (by omega) w
    simpa using this
  go_enter Tryz.func23, Tryz.ntmps23
  go_wp2
  all_goals go_ret
  all_goals refine ⟨rfl, ((Chg.refl _ _).alloc _).alloc _, by simp, ?_⟩
  all_goals exact ⟨by have := Blk.new (w.alloc (.cells (u64s (zeros (n * 8))) 45)) 103 #[.slice (some ⟨w.heap.size, 0, none⟩) (n * 8) (n * 8)]; simpa using this, by rw [Nat.mul_comm 8 n]; exact (Blk.new w _ _).alloc _, by simp [zeros], h1, h2⟩

set_option maxHeartbeats 400000 in
theorem RFrames_any (p b n : Nat) (L : List Int) (w : World) (h : RMemAt w p b n L) :
    Calls Tryz.prog 80 #[.pointer (some ⟨p, 0, none⟩)] w fun e w' => e = .returned (.int .i64 n) ∧ w = w' := by
  have c0 := h.st.cell 0
  simp at c0
  have hn := h.le
  go_enter Tryz.func80, Tryz.ntmps80
  go_wp2
  go_ret
  exact ⟨ret_int (by simp), rfl⟩

set_option maxHeartbeats 400000 in
theorem is_any (p b n : Nat) (L : List Int) (f i : Int) (w : World) (h : RMemAt w p b n L) :
    Calls Tryz.prog 65 #[.pointer (some ⟨p, 0, none⟩), .int .i64 f, .int .i64 i] w fun e w' => e = .returned (.bool (hasW n f i)) ∧ w = w' := by
  by_cases hf : 0 ≤ f
  · by_cases hf2 : f < n
    · go_enter Tryz.func65, Tryz.ntmps65
      go_wp2_with (go_at_call 80; refine (RFrames_any p b n L _ h).mono ?_; rintro e w' ⟨rfl, rfl⟩)
      all_goals go_ret
      all_goals exact ⟨ret_bool (by rw [Bool.eq_iff_iff]; simp [hasW]; omega), rfl⟩
    · go_enter Tryz.func65, Tryz.ntmps65
      go_wp2_with (go_at_call 80; refine (RFrames_any p b n L _ h).mono ?_; rintro e w' ⟨rfl, rfl⟩)
      all_goals go_ret
      all_goals exact ⟨ret_bool (by rw [Bool.eq_iff_iff]; simp [hasW]; omega), rfl⟩
  · go_enter Tryz.func65, Tryz.ntmps65
    go_wp2_with (go_at_call 80; refine (RFrames_any p b n L _ h).mono ?_; rintro e w' ⟨rfl, rfl⟩)
    all_goals go_ret
    all_goals exact ⟨ret_bool (by rw [Bool.eq_iff_iff]; simp [hasW]; omega), rfl⟩

set_option maxHeartbeats 400000 in
theorem RGet_no (p b n : Nat) (L : List Int) (f i : Int) (w : World) (h : RMemAt w p b n L) (hw : hasW n f i = false) :
    Calls Tryz.prog 58 #[.pointer (some ⟨p, 0, none⟩), .int .i64 f, .int .i64 i] w fun e w' => e = .returned (.tuple #[.int .u64 0, .bool false]) ∧ w = w' := by
  go_enter Tryz.func58, Tryz.ntmps58
  go_wp2_with (go_at_call 65; refine (is_any p b n L f i _ h).mono ?_; rintro e w' ⟨rfl, rfl⟩)
  go_ret2
  exact ⟨rfl, rfl⟩

set_option maxHeartbeats 400000 in
theorem RGet_yes (p b n : Nat) (L : List Int) (f i : Nat) (w : World) (h : RMemAt w p b n L) (hf : f < n) (hi : i < 8) :
    Calls Tryz.prog 58 #[.pointer (some ⟨p, 0, none⟩), .int .i64 f, .int .i64 i] w fun e w' => e = .returned (.tuple #[.int .u64 (L.getD (f * 8 + i) 0), .bool true]) ∧ w = w' := by
  have hw : hasW n f i = true := by simp [hasW]; omega
  have c0 := h.st.cell 0
  simp at c0
  have c1 := h.word hf hi
  have hn := h.le
  generalize L.getD (f * 8 + i) 0 = x at *
  go_enter Tryz.func58, Tryz.ntmps58
  go_wp2_with (go_at_call 65; refine (is_any p b n L f i _ h).mono ?_; rintro e w' ⟨rfl, rfl⟩)
  go_ret2
  exact ⟨rfl, rfl⟩

set_option maxHeartbeats 400000 in
theorem RSet_no (p b n : Nat) (L : List Int) (f i v : Int) (w : World) (h : RMemAt w p b n L) (hw : hasW n f i = false) :
    Calls Tryz.prog 49 #[.pointer (some ⟨p, 0, none⟩), .int .i64 f, .int .i64 i, .int .u64 v] w fun e w' => e = .returned (.bool false) ∧ w = w' := by
  go_enter Tryz.func49, Tryz.ntmps49
  go_wp2_with (go_at_call 65; refine (is_any p b n L f i _ h).mono ?_; rintro e w' ⟨rfl, rfl⟩)
  go_ret
  exact ⟨rfl, rfl⟩

set_option maxHeartbeats 400000 in
theorem RSet_yes (p b n : Nat) (L : List Int) (f i : Nat) (v : Int) (w : World) (h : RMemAt w p b n L) (hf : f < n) (hi : i < 8) :
    Calls Tryz.prog 49 #[.pointer (some ⟨p, 0, none⟩), .int .i64 f, .int .i64 i, .int .u64 v] w fun e w' =>
      e = .returned (.bool true) ∧ w.setCell ⟨b, f * 8 + i, none⟩ (.int .u64 v) = w' := by
  have hw : hasW n f i = true := by simp [hasW]; omega
  have c0 := h.st.cell 0
  simp at c0
  have c1 := h.word hf hi
  have c2 := h.ws.frozen (f * 8 + i)
  have hn := h.le
  generalize L.getD (f * 8 + i) 0 = x at *
  go_enter Tryz.func49, Tryz.ntmps49
  go_wp2_with (go_at_call 65; refine (is_any p b n L f i _ h).mono ?_; rintro e w' ⟨rfl, rfl⟩)
  go_ret
  exact ⟨rfl, rfl⟩

theorem hasW_zero (n : Nat) (f : Int) : hasW n f 0 = hasF n f := by simp [hasW, hasF]

theorem RMemAt.frame {p b n : Nat} {L : List Int} {w : World} (h : RMemAt w p b n L) {f : Nat} (hf : f < n) : Src w 1 (some ⟨b, f * 8, none⟩) 8 (n * 8 - f * 8) ((frameOf L f).map (Value.int .u64)) :=
  ⟨by simp [frameOf_len h.len hf], by simp [Value.oneCell'], by simp, fun a ha j u hu => by
    injection ha with ha; subst ha
    have hj : j < 8 := by have := (List.getElem?_eq_some_iff.1 hu).1; simpa [frameOf_len h.len hf] using this
    rw [add_at, h.word hf hj]
    rw [List.getElem?_map, frameOf_get j hj] at hu
    simp only [List.getD_eq_getElem?_getD]
    have hl := h.len
    rw [List.getElem?_eq_getElem (by omega)] at hu ⊢
    simpa using hu⟩

/-- so many words of xs are written from o on -/
def setTo (L : List Int) (o : Nat) (xs : List Int) (k : Nat) : List Int := setAll L o (xs.take k)
theorem setTo_zero (L : List Int) (o : Nat) (xs : List Int) : setTo L o xs 0 = L := by simp [setTo, setAll]
theorem setTo_full (L : List Int) (o : Nat) (xs : List Int) (n : Nat) (h : xs.length = n) : setTo L o xs n = setAll L o xs := by rw [setTo, List.take_of_length_le (by omega)]
theorem setAll_snoc : ∀ (xs L : List Int) (o : Nat) (x : Int), setAll L o (xs ++ [x]) = (setAll L o xs).set (o + xs.length) x
  | [], L, o, x => by simp [setAll]
  | y :: r, L, o, x => by rw [List.cons_append, setAll, setAll_snoc r, setAll, List.length_cons, show o + 1 + r.length = o + (r.length + 1) from by omega]
theorem setTo_step (L : List Int) (o : Nat) (xs : List Int) (k : Nat) (hk : k < xs.length) : (setTo L o xs k).set (o + k) (xs.getD k 0) = setTo L o xs (k + 1) := by
  unfold setTo
  rw [List.take_succ_eq_append_getElem hk, setAll_snoc, List.length_take, Nat.min_eq_left (by omega)]
  simp only [List.getD_eq_getElem?_getD, List.getElem?_eq_getElem hk, Option.getD_some]

end Go.Proofs.YtdfmlodmaipnkaaGreatDoor
