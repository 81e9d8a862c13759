/-
  The contract of the document's Apply.
-/
import Derived.Test.YtgebfagiomcmbaaGreatDoorChoiceRK
import Derived.Test.YtgebfagiomcmbaaGreatDoorModelRDK
namespace Go.Proofs.YtgebfagiomcmbaaGreatDoor
open Go.RowKit Go.Shelf

set_option maxRecDepth 100000 in
set_option maxHeartbeats 4000000 in
theorem RChApply_b {w0 w : World} {F : List Nat} {m t q p h b n : Nat} {S : List Nat} {L : List Int} {s : Ms} (A : Option Addr) (nn c : Nat) (l : List Ch) (hS : ∀ w', Chg [] w0 w' → SlG chE w' A nn l) (H : RModB w0 F w m t q S p L h b n s) :
    Calls Tryz.prog 19 #[.pointer (some ⟨m, 0, none⟩), .slice A nn c] w fun e w' => e = .returned (.int .i64 (appN n L s l : Nat)) ∧ RModB w0 F w' m t q S p L h b n (appM n L s l) ∧ Far F w w' := by
  have hnn := (hS w H.c0).le
  have hll := Lib.hid (hS w H.c0).len
  have f0 := Far.refl F w
  go_enter Tryz.func19, Tryz.ntmps19
  go_wp2_with fail
  go_loopg [5, 6] nn (fun gg s5 s6 wr => ∃ (k : Nat), k ≤ nn ∧ nn - k ≤ gg ∧ s5 = .int .i64 (appN n L s (l.take k) : Nat) ∧ s6 = .int .i64 k ∧ Aside (RModB w0 F wr m t q S p L h b n (appM n L s (l.take k))) ∧ Aside (Far F w wr))
  case atStart => exact ⟨0, by omega, by omega, by simp [appN], rfl, H, f0⟩
  case round =>
    obtain ⟨k, hk, hg, rfl, rfl, H, f⟩ := hrel
    clear f0
    replace H := H.out
    replace f := f.out
    by_cases hlt : k < nn
    · obtain ⟨bl, off, ⟨cf, cp⟩, rfl, hbl, hx, c0, c1⟩ := SlC.get (hS _ H.c0) hlt
      have hM := Lib.hid (appM_succ (n := n) (L := L) (s := s) hx)
      have hN := Lib.hid (appN_succ (n := n) (L := L) (s := s) hx)
      have hNl : appN n L s (l.take k) ≤ k := Nat.le_trans (appN_le _ _) (by simp; omega)
      simp only at c0 c1
      have hcell : ∀ w', Chg [] wr w' → w'.cell? ⟨bl, off + k * 2, none⟩ = some (.bool cf) ∧ w'.cell? ⟨bl, off + k * 2 + 1, none⟩ = some (.int .i64 cp) := fun w' hc => ⟨(hc.cell hbl (by simp)).trans c0, (hc.cell hbl (by simp)).trans c1⟩
      generalize appM n L s (l.take k) = s1 at *
      generalize appN n L s (l.take k) = N at *
      clear hx
      have hR := fun w9 => RChRight_any cf cp w9
      have hlt' : (k : Int) < (nn : Int) := by omega
      cases hok : Ch.ok ⟨cf, cp⟩ with
      | false =>
        rw [hok] at hR
        replace hM : Hid (appM n L s (l.take (k + 1)) = s1) := Lib.hid (by rw [hM.out]; unfold stepC; rw [hok]; rfl)
        replace hN : Hid (appN n L s (l.take (k + 1)) = N) := Lib.hid (by rw [hN.out]; unfold didC; rw [hok]; simp)
        clear hok
        go_wp2_with fail
        refine (hR _).mono ?_; rintro e u1 ⟨rfl, y1⟩
        replace H := H.new y1
        clear hR c0 c1 hcell
        go_wp2_with fail
        go_roundg (nn - (k + 1))
        case measure => omega
        case rel => exact ⟨k + 1, by omega, by omega, by rw [hN.out], by go_num, by rw [hM.out]; exact H, f.trans (Far.of_new y1)⟩
      | true =>
        rw [hok] at hR
        replace hM := hM.out
        replace hN := hN.out
        unfold stepC at hM
        unfold didC at hN
        rw [hok] at hM hN
        clear hok
        cases cf with
        | false =>
          simp only [if_true, Bool.true_and, Bool.false_eq_true, if_false] at hM hN
          replace hM := Lib.hid hM
          replace hN := Lib.hid hN
          go_wp2_with fail
          refine (hR _).mono ?_; rintro e u1 ⟨rfl, y1⟩
          replace H := H.new y1
          have hFd := RMForget_b cp H
          clear hR c0 c1 H
          obtain ⟨c0, c1⟩ := hcell _ y1
          go_wp2_with fail
          refine hFd.mono ?_; rintro e u3 ⟨rfl, H3, f3⟩
          replace f := f.trans ((Far.of_new y1).trans f3)
          clear hFd c0 c1 y1 f3 hcell
          cases hfb : hasT s1.T 0 cp
          · rw [hfb] at hN
            clear hfb
            go_wp2_with fail
            go_roundg (nn - (k + 1))
            case measure => omega
            case rel => exact ⟨k + 1, by omega, by omega, by rw [hN.out]; (try rfl); (try (go_num)), by go_num, by rw [hM.out]; exact H3, f⟩
          · rw [hfb] at hN
            clear hfb
            go_wp2_with fail
            go_roundg (nn - (k + 1))
            case measure => omega
            case rel => exact ⟨k + 1, by omega, by omega, by rw [hN.out]; (try rfl); (try (go_num)), by go_num, by rw [hM.out]; exact H3, f⟩
        | true =>
          simp only [if_true, Bool.true_and] at hM hN
          replace hM := Lib.hid hM
          replace hN := Lib.hid hN
          go_wp2_with fail
          refine (hR _).mono ?_; rintro e u1 ⟨rfl, y1⟩
          replace H := H.new y1
          have hFd := RMFind_b cp H
          clear hR c0 c1 H
          obtain ⟨c0, c1⟩ := hcell _ y1
          go_wp2_with fail
          refine hFd.mono ?_; rintro e u3 ⟨rfl, H3, f3⟩
          replace f := f.trans ((Far.of_new y1).trans f3)
          clear hFd c0 c1 y1 f3 hcell
          cases hfb : findB n L s1 cp
          · rw [hfb] at hN
            clear hfb
            go_wp2_with fail
            go_roundg (nn - (k + 1))
            case measure => omega
            case rel => exact ⟨k + 1, by omega, by omega, by rw [hN.out]; (try rfl); (try (go_num)), by go_num, by rw [hM.out]; exact H3, f⟩
          · rw [hfb] at hN
            clear hfb
            go_wp2_with fail
            go_roundg (nn - (k + 1))
            case measure => omega
            case rel => exact ⟨k + 1, by omega, by omega, by rw [hN.out]; (try rfl); (try (go_num)), by go_num, by rw [hM.out]; exact H3, f⟩
    · obtain rfl : k = nn := by omega
      rw [show l.take k = l from by rw [← hll.out, List.take_length]] at *
      go_wp2_with fail
      go_ret
      exact ⟨rfl, H, f⟩


end Go.Proofs.YtgebfagiomcmbaaGreatDoor
