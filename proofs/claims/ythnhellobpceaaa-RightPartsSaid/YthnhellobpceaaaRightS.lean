/-
  The contract of the document's Meet.
-/
import Derived.Test.YthnhellobpceaaaRightR
namespace Go.Proofs.Ythnhellobpceaaa
open Go.RowKit

set_option maxRecDepth 100000 in
set_option maxHeartbeats 2000000 in
theorem RMeet_any (A : Option Addr) (n c : Nat) (L : List Rg) (w : World) (h : SlR w A n L) (hn : n ≤ 9223372036854775807) :
    Calls Try.prog 16 #[.slice A n c] w fun e w' => e = .returned (.agg (meetL L).cs) ∧ Chg [] w w' := by
  have hlen := h.len
  have C1 := fun w => RAll_any w
  simp only [Rg.cs, Rg.all] at C1
  go_enter Try.func16, Try.ntmps16
  go_wp2_with fail
  refine (C1 _).mono ?_; rintro e w1 ⟨rfl, hc1⟩
  have hR := (Blk.new w 26 #[.bool false, .bool false, .bool false]).chg_ hc1 (by simp)
  have hcR := ((Chg.refl [] w).alloc (Obj.cells #[.bool false, .bool false, .bool false] 26)).trans hc1 (by simp)
  have hrz : w.heap.size < w1.heap.size := hR.lt
  generalize hg : w.heap.size = g at *
  clear hc1
  go_wp2_with fail
  go_loopw [4] (fun i w' => ∃ k : Nat, k ≤ n ∧ i = .int .i64 k ∧ Chg [] w w' ∧ Blk w' g 26 #[.bool false, .bool false, .bool false] ∧ Blk w' w1.heap.size 26 (meetL (L.take k)).cs) (fun i _ => n - (intOf i).toNat)
  case atStart =>
    exact ⟨0, by omega, rfl, hcR.alloc _, hR.alloc _, Blk.new _ _ _⟩
  case round =>
    clear hcR hR
    obtain ⟨k, hk, rfl, hcR, hR, hM⟩ := hrel
    by_cases hlt : k < n
    · obtain ⟨b, off, r, rfl, hb, hr, e0, e1, e2⟩ := (h.new hcR).get hlt
      have hm := meet_snoc hr
      have HM := Lib.hid hm
      clear hm hr h C1 hlen
      obtain ⟨m0, m1, m2⟩ := blk3 hM
      generalize hmt : meetL (L.take k) = m at *
      obtain ⟨mw, mu, mx⟩ := m
      have HMT := Lib.hid hmt
      clear hmt
      have hgz : w1.heap.size < wr.heap.size := hM.lt
      simp only at e0 e1 e2 m0 m1 m2
      have fz0 := hM.frozen 0; have fz1 := hM.frozen 1; have fz2 := hM.frozen 2
      cases mw <;> cases mu <;> cases mx
      all_goals
        go_wp2_with fail
        go_region
        go_wp2_with fail
        go_roundw
        case rel =>
          refine ⟨k + 1, by omega, by go_num, (((hcR.setCell (p := ⟨w1.heap.size, 0, none⟩) ?_ _).setCell (p := ⟨w1.heap.size, 1, none⟩) ?_ _).setCell (p := ⟨w1.heap.size, 2, none⟩) ?_ _).drew, (((hR.far (p := ⟨w1.heap.size, 0, none⟩) ?_ _).far (p := ⟨w1.heap.size, 1, none⟩) ?_ _).far (p := ⟨w1.heap.size, 2, none⟩) ?_ _).drew, ?_⟩
          · intro hh; simp only at hh; omega
          · intro hh; simp only at hh; omega
          · intro hh; simp only at hh; omega
          · simp only; omega
          · simp only; omega
          · simp only; omega
          · rw [HM.out]; exact ((((hM.set_ 0 _).set_ 1 _).set_ 2 _).drew)
        case measure => simp [intOf]; omega
    · obtain rfl : k = n := by omega
      have hl := h.len
      rw [← hl, List.take_length] at hM
      clear h C1 hlen hl
      obtain ⟨m0, m1, m2⟩ := blk3 hM
      obtain ⟨q0, q1, q2⟩ := blk3 hR
      have fz0 := hR.frozen 0; have fz1 := hR.frozen 1; have fz2 := hR.frozen 2
      go_wp2_with fail
      try simp only [Exit.inBlock, Exit.then]
      have hR2 := ((hR.set_ 0 (.bool (meetL L).w)).set_ 1 (.bool (meetL L).u)).set_ 2 (.bool (meetL L).x)
      refine bodyPost_ret (cell_ret rfl hR2 rfl Try.underlying26 rfl (by kernel_rfl)) rfl ?_
      refine ⟨rfl, ((hcR.setCell (p := ⟨g, 0, none⟩) ?_ _).setCell (p := ⟨g, 1, none⟩) ?_ _).setCell (p := ⟨g, 2, none⟩) ?_ _⟩
      · intro hh; simp only at hh; omega
      · intro hh; simp only at hh; omega
      · intro hh; simp only at hh; omega

end Go.Proofs.Ythnhellobpceaaa
