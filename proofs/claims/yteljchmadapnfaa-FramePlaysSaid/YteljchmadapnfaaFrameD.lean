/-
  The contracts of slices.Equal at frames, and of frame's Same, Frames.
-/
import Derived.Test.YteljchmadapnfaaFrameC
namespace Go.Proofs.Yteljchmadapnfaa
open Go.RowKit

def eqL (a b : List Int) : Bool := decide (a = b)

theorem frames_eq {L1 L2 : List Int} {n : Nat} (h1 : L1.length = 8 * n) (h2 : L2.length = 8 * n) (h : ∀ j, j < n → frameOf L1 j = frameOf L2 j) : L1 = L2 := by
  apply List.ext_getElem (by omega)
  intro i hi1 hi2
  have hj := h (i / 8) (by omega)
  have e1 := frameOf_get (L := L1) (f := i / 8) (i % 8) (by omega)
  have e2 := frameOf_get (L := L2) (f := i / 8) (i % 8) (by omega)
  rw [hj, e2] at e1
  rw [show i / 8 * 8 + i % 8 = i from by omega, List.getElem?_eq_getElem hi1, List.getElem?_eq_getElem hi2] at e1
  injection e1 with e1; exact e1.symm

theorem frameOf_range {w : World} {b n : Nat} {L : List Int} (hb : Blk w b 54 (u64s L)) {f : Nat} (hf : f < n) : w.rangeAt b (f * 8) ((frameOf L f).map (Value.int .u64)) :=
  hb.range (f * 8) 8 _ fun j hj => by rw [frameOf_get j (by have : (frameOf L f).length ≤ 8 := (by simp [frameOf]; omega); omega)]

theorem words_neq (A B : List Int) (ha : A.length = 8) (hb : B.length = 8) (w : World) :
    (Op.equalIn 10000 54 (.agg (A.map (Value.int .u64)).toArray) (.agg (B.map (Value.int .u64)).toArray)).run Try.prog w = .ok (A == B) w := by
  obtain ⟨i, hi, _⟩ := info_parts u64_info
  have hc : Try.prog.cellsOf 29 = 1 := by kernel_rfl
  have := run_equalIn_array (P := Try.prog) w 9999 (u64s A) (u64s B) Try.underlying54 hi
  rw [hc, run_eqItems_u64 w 9998 _ Try.underlying29 A B 8 ha hb (List.range 8) (fun i hi => by simpa using hi), all_range_getD A B 8 ha hb] at this
  exact this

set_option maxHeartbeats 1000000 in
theorem Equal_any (b1 b2 n1 n2 c1 c2 : Nat) (L1 L2 : List Int) (w : World) (h1 : Blk w b1 54 (u64s L1)) (h2 : Blk w b2 54 (u64s L2)) (l1 : L1.length = 8 * n1) (l2 : L2.length = 8 * n2)
    (hn1 : n1 ≤ 256) (hn2 : n2 ≤ 256) :
    Calls Try.prog 28 #[.slice (some ⟨b1, 0, none⟩) n1 c1, .slice (some ⟨b2, 0, none⟩) n2 c2] w fun e w' => e = .returned (.bool (eqL L1 L2)) ∧ ∃ m, w' = w.drewN m := by
  by_cases hne : n1 = n2
  · subst hne
    have HL1 := Lib.hid l1
    have HL2 := Lib.hid l2
    clear l1 l2
    have hb1 : ((n1 : Int) != n1) = false := by simp
    go_enter Try.func28, Try.ntmps28
    go_wp2
    go_loopw [13] (fun i w' => ∃ k m : Nat, k ≤ n1 ∧ i = .int .i64 k ∧ w' = w.drewN m ∧ ∀ j, j < k → frameOf L1 j = frameOf L2 j) (fun i _ => n1 - (intOf i).toNat)
    case atStart => exact ⟨0, 0, by omega, rfl, rfl, fun j hj => by omega⟩
    case round =>
      obtain ⟨k, m, hk, rfl, rfl, hall⟩ := hrel
      have HA := Lib.hid hall
      clear hall
      by_cases hlt : k < n1
      · have r1 := frameOf_range (f := k) h1 hlt
        have r2 := frameOf_range (f := k) h2 hlt
        have a1 := frameOf_len HL1.out hlt
        have a2 := frameOf_len HL2.out hlt
        have hq := words_neq _ _ a1 a2
        have hstep : frameOf L1 k = frameOf L2 k → ∀ j, j < k + 1 → frameOf L1 j = frameOf L2 j := fun e j hj => by
          by_cases hj' : j < k
          · exact HA.out j hj'
          · rw [show j = k from by omega]; exact e
        have hno : frameOf L1 k ≠ frameOf L2 k → eqL L1 L2 = false := fun e => by
          simp only [eqL, decide_eq_false_iff_not]; intro e'; exact e (by rw [e'])
        have HS := Lib.hid hstep
        have HN := Lib.hid hno
        clear hstep hno
        generalize frameOf L1 k = A at *
        generalize frameOf L2 k = B at *
        have HA1 := Lib.hid a1
        have HA2 := Lib.hid a2
        clear a1 a2
        by_cases hAB : A = B
        · have hab : (A == B) = true := by simp [hAB]
          have HAB := Lib.hid hAB
          clear hAB
          go_wp2
          refine wp_region_quiet_lit (by kernel_rfl) (by kernel_rfl) ?_
          repeat (first
            | (refine wpQuiet_plain rfl (fun K hK => ?_)
               refine quiet_load_mid 54 _ rfl b1 (k * 8) rfl (A.map (Value.int .u64)) _ r1 Try.underlying54 rfl ?_ (hK _ ?_)
               · rw [List.length_map, HA1.out]; kernel_rfl
               clear hK K)
            | (refine wpQuiet_plain rfl (fun K hK => ?_)
               refine quiet_load_mid 54 _ rfl b2 (k * 8) rfl (B.map (Value.int .u64)) _ r2 Try.underlying54 rfl ?_ (hK _ ?_)
               · rw [List.length_map, HA2.out]; kernel_rfl
               clear hK K)
            | go_big_quiet_step (fail)
            | quiet_step (fail))
          refine wpQuiet_nil ?_
          intro _ hw'
          obtain ⟨nq, hw''⟩ := hw'
          subst hw''
          go_wp2
          go_roundw
          case rel => exact ⟨k + 1, _, by omega, by go_num, rfl, HS.out HAB.out⟩
          case measure => simp [intOf]; omega
        · have hab : (A == B) = false := by simp [hAB]
          have HAB := Lib.hid hAB
          clear hAB
          go_wp2
          refine wp_region_quiet_lit (by kernel_rfl) (by kernel_rfl) ?_
          repeat (first
            | (refine wpQuiet_plain rfl (fun K hK => ?_)
               refine quiet_load_mid 54 _ rfl b1 (k * 8) rfl (A.map (Value.int .u64)) _ r1 Try.underlying54 rfl ?_ (hK _ ?_)
               · rw [List.length_map, HA1.out]; kernel_rfl
               clear hK K)
            | (refine wpQuiet_plain rfl (fun K hK => ?_)
               refine quiet_load_mid 54 _ rfl b2 (k * 8) rfl (B.map (Value.int .u64)) _ r2 Try.underlying54 rfl ?_ (hK _ ?_)
               · rw [List.length_map, HA2.out]; kernel_rfl
               clear hK K)
            | go_big_quiet_step (fail)
            | quiet_step (fail))
          refine wpQuiet_nil ?_
          intro _ hw'
          obtain ⟨nq, hw''⟩ := hw'
          subst hw''
          go_wp2
          go_ret
          exact ⟨ret_bool (HN.out HAB.out).symm, m + nq, by rw [World.drewN_drewN]⟩
      · obtain rfl : k = n1 := by omega
        go_wp2
        go_ret
        exact ⟨ret_bool (by simp only [eqL, true_eq_decide_iff]; exact frames_eq HL1.out HL2.out HA.out), m, rfl⟩
  · have hb1 : ((n1 : Int) != n2) = true := by simp; omega
    have hno : eqL L1 L2 = false := by simp only [eqL, decide_eq_false_iff_not]; intro e; subst e; omega
    clear l1 l2 hne
    have HN := Lib.hid hno
    clear hno
    go_enter Try.func28, Try.ntmps28
    go_wp2
    go_ret
    exact ⟨ret_bool HN.out.symm, 0, rfl⟩

set_option maxHeartbeats 400000 in
theorem Same_any (p1 b1 n1 : Nat) (L1 : List Int) (p2 b2 n2 : Nat) (L2 : List Int) (w : World) (h1 : MemAt w p1 b1 n1 L1) (h2 : MemAt w p2 b2 n2 L2) :
    Calls Try.prog 24 #[.pointer (some ⟨p1, 0, none⟩), .pointer (some ⟨p2, 0, none⟩)] w fun e w' => e = .returned (.bool (eqL L1 L2)) ∧ ∃ m, w' = w.drewN m := by
  have c1 := h1.st.cell 0
  have c2 := h2.st.cell 0
  simp at c1 c2
  go_enter Try.func24, Try.ntmps24
  go_wp2
  go_quiet ((go_at_call 28; exact Calls.quiet_of (Equal_any b1 b2 n1 n2 _ _ L1 L2 _ h1.ws h2.ws h1.len h2.len h1.le h2.le)))
  go_wp2
  go_ret
  exact ⟨rfl, _, rfl⟩

set_option maxHeartbeats 400000 in
theorem Frames_any (p b n : Nat) (L : List Int) (w : World) (h : MemAt w p b n L) :
    Calls Try.prog 22 #[.pointer (some ⟨p, 0, none⟩)] w fun e w' => e = .returned (.int .i64 n) ∧ w = w' := by
  have c0 := h.st.cell 0
  simp at c0
  go_enter Try.func22, Try.ntmps22
  go_wp2
  go_ret
  exact ⟨rfl, rfl⟩

end Go.Proofs.Yteljchmadapnfaa
