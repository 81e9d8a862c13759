/-
 TlbJ, TlbK, TlbL, TlbM, TlbN, TlbO in one text.
-/
import Derived.Test.YtgjfidjhbkaobaaGreatG9aK
namespace Go.Proofs.YtgjfidjhbkaobaaGreat
open Go.RowKit Go.Shelf
def eqHs (L M : List Ht) : Bool := decide (L = M)
theorem eqHs_self (L : List Ht) : eqHs L L = true := by simp [eqHs]
theorem eqHs_at {L M : List Ht} {k : Nat} (_hl : L.length = M.length) (_hk : k < L.length) (h : (L.getD k default).eqb (M.getD k default) = false) : eqHs L M = false := by
 unfold eqHs
 simp only [decide_eq_false_iff_not]
 rintro rfl
 rw [Ht.eqb_self] at h; cases h
theorem eqHs_all {L M : List Ht} (hl : L.length = M.length) (h : ∀ j, j < L.length → L.getD j default = M.getD j default) : eqHs L M = true := by
 unfold eqHs
 simp only [decide_eq_true_eq]
 apply List.ext_getElem hl
 intro i h1 h2
 have := h i h1
 rwa [getD_lt h1, getD_lt h2] at this
set_option maxHeartbeats 2000000 in
theorem TSame_at (A B : Option Addr) (n m c d : Nat) (L M : List Ht) (w : World) (hL : SlH w A n L) (hM : SlH w B m M) :
  Calls Tryz.prog 17 #[.slice A n c, .slice B m d] w fun e w' => e = .returned (.bool (eqHs L M)) ∧ Chg [] w w' := by
 have hl := hL.len; have hm := hM.len; have hle := hL.le; have hle2 := hM.le
 by_cases hnm : n = m
 ·subst hnm
  have HL := Lib.hid hl; have HM := Lib.hid hm
  clear hl hm
  go_enter Tryz.func17, Tryz.ntmps17
  go_wp2
  go_loopg [5] n (fun gg s5 wr => ∃ kk : Nat, kk ≤ n ∧ n - kk ≤ gg ∧ s5 = .int .i64 kk ∧ Aside (Chg [] w wr) ∧ Aside (∀ j, j < kk → L.getD j default = M.getD j default))
  case atStart => exact ⟨0, Nat.zero_le _, by omega, rfl, Chg.refl _ w, fun j hj => absurd hj (Nat.not_lt_zero _)⟩
  obtain ⟨kk, hkk, hg, rfl, BW, HA⟩ := hrel
  by_cases hlt : kk < n
  ·have hltz : (kk : Int) < (n : Int) := by omega
   obtain ⟨b, off, rfl, hb, hc⟩ := (hL.new BW.out).get hlt
   obtain ⟨b', off', rfl, hb', hc'⟩ := (hM.new BW.out).get hlt
   obtain ⟨c0, c1, c2, c3, c4, c5, c6⟩ := hc
   obtain ⟨d0, d1, d2, d3, d4, d5, d6⟩ := hc'
   have hq := fun w0 => run_neH (L.getD kk default) (M.getD kk default) w0
   unfold Ht.v at hq
   have HI := Lib.hid (Ht.eqb_iff (L.getD kk default) (M.getD kk default))
   have HF := Lib.hid (fun h => eqHs_at (L := L) (M := M) (k := kk) (by rw [HL.out, HM.out]) (by rw [HL.out]; exact hlt) h)
   generalize hx : L.getD kk default = x at *
   generalize hy : M.getD kk default = y at *
   have HX := Lib.hid hx; have HY := Lib.hid hy
   clear hx hy
   generalize x.eqb y = r at *
   cases r with
   | true =>
    go_wp2_with fail
    go_quiet (fail)
    go_wp2_with fail
    go_roundg (n - (kk + 1))
    case measure => omega
    refine ⟨kk + 1, by omega, by omega, by go_num, (show Aside _ from BW.out.drewN _), (show Aside _ from fun j hj => ?_)⟩
    by_cases e : j = kk
    ·subst e; rw [HX.out, HY.out]; exact HI.out.1 (by first | rfl | trivial)
    exact HA.out j (by omega)
   | false =>
    go_wp2_with fail
    go_quiet (fail)
    go_wp2_with fail
    go_ret
    exact ⟨ret_bool (HF.out (by first | rfl | trivial)).symm, BW.out.drewN _⟩
  have hltz : ¬ (kk : Int) < (n : Int) := by omega
  have : kk = n := by omega
  have HK := Lib.hid this
  clear this
  go_wp2
  go_ret
  exact ⟨ret_bool (eqHs_all (by rw [HL.out, HM.out]) (fun j hj => HA.out j (by rw [HL.out] at hj; rw [HK.out]; exact hj))).symm, BW.out⟩
 have e : eqHs L M = false := by
  unfold eqHs
  simp only [decide_eq_false_iff_not]
  rintro rfl
  exact hnm (by omega)
 rw [e]
 clear hL hM hl hm e
 go_enter Tryz.func17, Tryz.ntmps17
 go_wp2
 all_goals go_ret
 all_goals exact ⟨rfl, Chg.refl _ _⟩
section
variable {w0 w w' : World} {F G : List Nat} {p most : Nat} {L : List Ht}
end
section
variable {w0 : World} {F : List Nat} {p most : Nat} {L : List Ht} {w : World}
end
section
variable {w0 : World} {F : List Nat} {p most : Nat} {L : List Ht} {w : World}
end
def hA : Ht := ⟨1, 5, 7, false, false, false, false⟩
def hB : Ht := ⟨2, 5, 8, false, false, false, false⟩
def hC : Ht := ⟨1, 6, 9, false, false, false, false⟩
section
variable {w0 w w' : World} {F : List Nat} {p most : Nat} {L M : List Ht} {v v' : Value}
end
section
variable {w0 w w' : World} {p n q m : Nat} {L M : List Ht}
end
structure OpT where
 what : Int
 h : Ht
 n : Int
instance OpT.inh : Inhabited OpT := ⟨⟨0, Ht.zero, 0⟩⟩
section
variable {L : List Ht} {a p : Int} {t : Bool} {x : Ht}
end
end Go.Proofs.YtgjfidjhbkaobaaGreat
