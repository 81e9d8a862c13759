/-
 The document's SameInts.
-/
import Derived.Test.YtmbgepafpcbakaaGreatDoorG0K
import Derived.Deep.LoopGhost
import Derived.Deep.QuietTactic
namespace Go.Proofs.YtmbgepafpcbakaaGreatDoor
open Go.RowKit Go.Maps
theorem getD_ext {L M : List Int} (hl : L.length = M.length) (h : ∀ j, j < L.length → L.getD j 0 = M.getD j 0) : L = M := by
 apply List.ext_getElem hl
 intro j h1 h2
 have := h j h1
 rwa [List.getD_eq_getElem?_getD, List.getD_eq_getElem?_getD, List.getElem?_eq_getElem h1, List.getElem?_eq_getElem h2] at this
set_option maxHeartbeats 2000000 in
theorem SameI_at (A : Option Addr) (n c : Nat) (L : List Int) (B : Option Addr) (m d : Nat) (M : List Int) (w : World) (hL : SlK .i64 w A n L) (hM : SlK .i64 w B m M) :
  Calls Tryz.prog 22 #[.slice A n c, .slice B m d] w fun e w' => e = .returned (.bool (decide (L = M))) ∧ Chg [] w w' := by
 have hl := hL.len; have hm := hM.len; have hle := hL.le
 have HL := Lib.hid hl; have HM := Lib.hid hm
 by_cases hnm : n = m
 ·subst hnm
  have HLM : Hid (L.length = M.length) := Lib.hid (by omega)
  clear hl hm
  go_enter Tryz.func22, Tryz.ntmps22
  go_wp2_with fail
  go_loopg [5] n (fun gg s wr => ∃ kk : Nat, kk ≤ n ∧ n - kk ≤ gg ∧ s = .int .i64 kk ∧ Aside (Chg [] w wr) ∧ Aside (∀ j, j < kk → L.getD j 0 = M.getD j 0))
  case atStart => exact ⟨0, Nat.zero_le _, by omega, rfl, Chg.refl _ w, fun j hj => absurd hj (Nat.not_lt_zero _)⟩
  obtain ⟨kk, hkk, hg, rfl, BW, HA⟩ := hrel
  by_cases hlt : kk < n
  ·have hltz : (kk : Int) < (n : Int) := by omega
   obtain ⟨b, off, rfl, hb, hx, _⟩ := (hL.chg BW.out).get hlt
   obtain ⟨b2, off2, rfl, hb2, hy, _⟩ := (hM.chg BW.out).get hlt
   generalize hyx : L.getD kk 0 = x at *
   have EX := Lib.hid hyx
   generalize hyy : M.getD kk 0 = y at *
   have EY := Lib.hid hyy
   clear hyx hyy
   by_cases hxy : x = y
   ·subst hxy
    go_wp2_with fail
    go_quiet (fail)
    go_wp2_with fail
    go_roundg (n - (kk + 1))
    case measure => omega
    refine ⟨kk + 1, by omega, by omega, by go_num, (show Aside _ from BW.out.drewN _), (show Aside _ from fun j hj => ?_)⟩
    by_cases e : j = kk
    ·subst e
     rw [EX.out, EY.out]
    exact HA.out j (by omega)
   have hne : (x == y) = false := by simpa using hxy
   have hno : Hid (decide (L = M) = false) := Lib.hid (decide_eq_false fun e => hxy (by rw [← EX.out, ← EY.out, e]))
   clear hxy
   go_wp2_with fail
   go_quiet (fail)
   go_wp2_with fail
   go_ret
   exact ⟨by rw [hno.out]; rfl, BW.out.drewN _⟩
  have hltz : ¬ (kk : Int) < (n : Int) := by omega
  obtain rfl : kk = n := by omega
  have hyes : Hid (decide (L = M) = true) := Lib.hid (decide_eq_true (getD_ext HLM.out fun j hj => HA.out j (by have := HL.out; omega)))
  go_wp2_with fail
  go_ret
  exact ⟨by rw [hyes.out]; rfl, BW.out⟩
 have hno : Hid (decide (L = M) = false) := Lib.hid (decide_eq_false fun e => hnm (by rw [← hl, ← hm, e]))
 have hne : ((n : Int) == (m : Int)) = false := by simp; omega
 clear hl hm
 go_enter Tryz.func22, Tryz.ntmps22
 go_wp2_with fail
 go_ret
 exact ⟨by rw [hno.out]; rfl, Chg.refl _ _⟩
theorem SameI_is (A : Option Addr) (n c : Nat) (L : List Int) (B : Option Addr) (m d : Nat) (M : List Int) (t : Bool) (w : World) (hL : SlK .i64 w A n L) (hM : SlK .i64 w B m M) (ht : decide (L = M) = t) :
  Calls Tryz.prog 22 #[.slice A n c, .slice B m d] w fun e w' => e = .returned (.bool t) ∧ Chg [] w w' := ht ▸ SameI_at A n c L B m d M w hL hM
end Go.Proofs.YtmbgepafpcbakaaGreatDoor
