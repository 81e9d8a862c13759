/-
  The document's answer to conf: pool, in, Right, Image, Foreign.
-/
import Derived.Test.YtkggkdjhecagnaaConfD
import Derived.Test.YtkggkdjhecagnaaG2
namespace Go.Proofs.Ytkggkdjhecagnaa
open Go.RowKit Go.Maps

set_option maxHeartbeats 1000000 in
theorem RPool_at (c : Cf) (A : Option Addr) (n k : Nat) (x : Int) (w : World) (hx : I64 x) (h0 : 0 ≤ c.first) :
    Calls Try.prog 20 #[.agg (c.cs A n k), .int .i64 x] w fun e w' => e = .returned (.bool (c.pool x)) ∧ Chg [] w w' := by
  obtain ⟨h, L, f, m, t, a, r⟩ := c
  unfold Cf.cs Cf.pool
  simp only at *
  unfold I64 at hx
  by_cases h1 : x ≥ f
  · have hw : wrap64 (x - f) = x - f := by unfold wrap64; omega
    by_cases h2 : x - f < m
    all_goals
      go_enter Try.func20, Try.ntmps20
      go_wp2
      go_ret
      exact ⟨ret_bool (by simp; omega), (Chg.refl [] w).alloc _⟩
  · go_enter Try.func20, Try.ntmps20
    go_wp2
    go_ret
    exact ⟨ret_bool (by simp; omega), (Chg.refl [] w).alloc _⟩
theorem RPool_is (h : Int) (L : List Int) (f m t a r : Int) (A : Option Addr) (n k : Nat) (x : Int) (b : Bool) (w : World) (hx : I64 x) (h0 : 0 ≤ f) (hb : Cf.pool ⟨h, L, f, m, t, a, r⟩ x = b) :
    Calls Try.prog 20 #[.agg #[.int .i64 h, .slice A n k, .int .i64 f, .int .i64 m, .int .i64 t, .int .i64 a, .int .i64 r], .int .i64 x] w fun e w' => e = .returned (.bool b) ∧ Chg [] w w' :=
  hb ▸ RPool_at ⟨h, L, f, m, t, a, r⟩ A n k x w hx h0

set_option maxHeartbeats 2000000 in
theorem RIn_at (A : Option Addr) (n k : Nat) (L : List Int) (x : Int) (w : World) (hL : SlK .i64 w A n L) :
    Calls Try.prog 23 #[.slice A n k, .int .i64 x] w fun e w' => e = .returned (.bool (L.contains x)) ∧ Chg [] w w' := by
  have hl := hL.len; have hle := hL.le
  have HL := Lib.hid hl
  clear hl
  obtain ⟨ct, hct⟩ : ∃ ct, L.contains x = ct := ⟨_, rfl⟩
  rw [hct]
  have HCT := Lib.hid hct
  clear hct
  go_enter Try.func23, Try.ntmps23
  go_wp2_with fail
  go_loopg [5] n (fun gg s wr => ∃ kk : Nat, kk ≤ n ∧ n - kk ≤ gg ∧ s = .int .i64 kk ∧ Aside (Chg [] w wr) ∧ Aside ((L.take kk).contains x = false))
  case atStart => exact ⟨0, Nat.zero_le _, by omega, rfl, Chg.refl _ w, rfl⟩
  case round =>
    obtain ⟨kk, hkk, hg, rfl, BW, HA⟩ := hrel
    by_cases hlt : kk < n
    · have hltz : (kk : Int) < (n : Int) := by omega
      obtain ⟨b, off, rfl, hb, hx, _⟩ := (hL.chg BW.out).get hlt
      generalize hyx : L.getD kk 0 = y at *
      have EX := Lib.hid hyx
      clear hyx
      by_cases hxy : y = x
      · subst hxy
        have hyes : Hid (L.contains y = true) := Lib.hid (List.contains_iff_mem.2 (by
          rw [← EX.out, List.getD_eq_getElem?_getD, List.getElem?_eq_getElem (by have := HL.out; omega)]; exact List.getElem_mem _))
        go_wp2_with fail
        go_ret
        exact ⟨by rw [← HCT.out, hyes.out]; rfl, BW.out⟩
      · have hne : (y == x) = false := by simpa using hxy
        have hst := contains_take_succ L kk (by have := HL.out; omega) x HA.out (by rw [EX.out]; exact hxy)
        have HST := Lib.hid hst
        clear hst hxy
        go_wp2_with fail
        go_roundg (n - (kk + 1))
        case measure => omega
        case rel => exact ⟨kk + 1, by omega, by omega, by go_num, (show Aside _ from BW.out), (show Aside _ from HST.out)⟩
    · have hltz : ¬ (kk : Int) < (n : Int) := by omega
      obtain rfl : kk = n := by omega
      have hno : Hid (L.contains x = false) := Lib.hid (by have := HA.out; rwa [List.take_of_length_le (by rw [HL.out]; exact Nat.le_refl _)] at this)
      go_wp2_with fail
      go_ret
      exact ⟨by rw [← HCT.out, hno.out]; rfl, BW.out⟩
theorem RIn_is (A : Option Addr) (n k : Nat) (L : List Int) (x : Int) (b : Bool) (w : World) (hL : SlK .i64 w A n L) (hb : L.contains x = b) :
    Calls Try.prog 23 #[.slice A n k, .int .i64 x] w fun e w' => e = .returned (.bool b) ∧ Chg [] w w' := hb ▸ RIn_at A n k L x w hL

end Go.Proofs.Ytkggkdjhecagnaa
