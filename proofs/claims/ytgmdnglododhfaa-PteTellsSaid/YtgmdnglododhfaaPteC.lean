/-
  The contract of package pte: Put.
-/
import Derived.Test.YtgmdnglododhfaaPteB
namespace Go.Proofs.Ytgmdnglododhfaa
open Go.RowKit

/-- the word of the entry e, of whose flags the first k are told -/
def putK (e : Ent) : Nat → Nat
  | 0 => e.f.toNat * 4096
  | k + 1 => putK e k ||| (if e.flag k then fb k else 0)
theorem putK_lt (e : Ent) (k : Nat) (h : e.f < 1048576) : putK e k < 18446744073709551616 := by
  induction k with
  | zero => simp only [putK]; omega
  | succ k ih =>
    refine Nat.or_lt_two_pow (n := 64) ih ?_
    have := fb_lt k
    split <;> omega
/-- an entry that may be put -/
def Ent.ok (e : Ent) : Bool := !e.bad && decide (0 ≤ e.f) && decide (e.f < 1048576)
theorem flag_cell (e : Ent) (k : Nat) (hk : k < 7) : e.cs[k]? = some (.bool (e.flag k)) := by
  obtain rfl | rfl | rfl | rfl | rfl | rfl | rfl : k = 0 ∨ k = 1 ∨ k = 2 ∨ k = 3 ∨ k = 4 ∨ k = 5 ∨ k = 6 := by omega
  all_goals rfl

theorem bits_as (g q i b : Nat) (t : Bool) (y : Int) (w : World) (hy : ((if t then b else 0 : Nat) : Int) = y) (hg : Blk w g 41 #[.int .u64 b, .pointer (some ⟨q, i, none⟩)]) (hq : w.cell? ⟨q, i, none⟩ = some (.bool t)) :
    Calls Try.prog 17 #[.pointer (some ⟨g, 0, none⟩)] w fun e w' => e = .returned (.int .u64 y) ∧ w = w' := by
  rw [← hy]; exact bits_any g q i b t w hg hq

set_option maxRecDepth 100000 in
set_option maxHeartbeats 2000000 in
theorem Put_no (e : Ent) (w : World) (h : e.ok = false) :
    Calls Try.prog 10 #[.agg e.cs] w fun x w' => x = .returned (.tuple #[.int .u64 0, .bool false]) ∧ Chg [] w w' := by
  obtain ⟨ep, ew, eu, ea, ed, es, en, eb, F⟩ := e
  unfold Ent.cs
  simp only [Ent.ok] at h
  cases eb
  · simp at h
    by_cases h0 : F < 0
    · clear h
      go_enter Try.func10, Try.ntmps10
      go_wp2_with fail
      go_ret2
      exact ⟨rfl, (Chg.refl [] w).alloc _⟩
    · have h1 : F ≥ 1048576 := h (by omega)
      clear h
      go_enter Try.func10, Try.ntmps10
      go_wp2_with fail
      go_ret2
      exact ⟨rfl, (Chg.refl [] w).alloc _⟩
  · go_enter Try.func10, Try.ntmps10
    go_wp2_with fail
    go_ret2
    exact ⟨rfl, (Chg.refl [] w).alloc _⟩

set_option maxRecDepth 100000 in
set_option maxHeartbeats 2000000 in
theorem Put_yes (e : Ent) (w : World) (h : e.ok = true) :
    Calls Try.prog 10 #[.agg e.cs] w fun x w' => x = .returned (.tuple #[.int .u64 (putK e 7 : Nat), .bool true]) ∧ Chg [] w w' := by
  obtain ⟨h1, h2, h3⟩ : e.bad = false ∧ 0 ≤ e.f ∧ e.f < 1048576 := by simpa [Ent.ok, and_assoc] using h
  have HC := Lib.hid (fun k hk => flag_cell e k hk)
  have HP := Lib.hid (fun k => putK_lt e k h3)
  have HS : Hid (∀ k, putK e (k + 1) = putK e k ||| (if e.flag k then fb k else 0)) := Lib.hid fun _ => rfl
  have hz : ((putK e 0 : Nat) : Int) = e.f * 4096 := by simp only [putK]; omega
  have hcs : e.cs = #[.bool e.p, .bool e.w, .bool e.u, .bool e.a, .bool e.d, .bool e.s, .bool e.n, .bool false, .int .i64 e.f] := by rw [← h1]; rfl
  have HCS := Lib.hid hcs
  have HZ := Lib.hid hz
  rw [hcs]
  clear hcs h1 h hz
  generalize e.p = ep at *
  generalize e.w = ew at *
  generalize e.u = eu at *
  generalize e.a = ea at *
  generalize e.d = ed at *
  generalize e.s = es at *
  generalize e.n = en at *
  generalize e.f = F at *
  have h3' : ¬ F < 0 := by omega
  have h3'' : ¬ F ≥ 1048576 := by omega
  go_enter Try.func10, Try.ntmps10
  go_wp2_with fail
  refine (flags_any _ _).mono ?_; rintro x w1 ⟨rfl, hc1, _⟩
  have hE := (Blk.new (w.alloc (Obj.cells #[.bool ep, .bool ew, .bool eu, .bool ea, .bool ed, .bool es, .bool en, .bool false, .int .i64 F] 24)) 38 #[.bool ep, .bool ew, .bool eu, .bool ea, .bool ed, .bool es, .bool en, .bool false, .int .i64 F]).chg_ hc1 (by simp)
  have hc0 := (((Chg.refl [] w).alloc _).alloc _).trans hc1 (by simp)
  rw [← HCS.out] at hE
  simp only [World.size_alloc] at hE
  clear hc1
  generalize hg : w.heap.size + 1 = g at *
  go_wp2_with fail
  go_loopw [4, 26] (fun r i w' => ∃ k : Nat, k ≤ 7 ∧ r = .int .u64 (putK e k : Nat) ∧ i = .int .i64 k ∧ Chg [] w w' ∧ Blk w' g 38 e.cs) (fun _ i _ => 7 - (intOf i).toNat)
  case atStart => exact ⟨0, by omega, by rw [HZ.out], rfl, hc0, hE⟩
  case round =>
    obtain ⟨k, hk, rfl, rfl, hck, hEk⟩ := hrel
    clear hc0 hE
    by_cases hlt : k < 7
    · have hix := fun w => flagsV_at g k hlt w
      have hb : (if e.flag k then fb k else 0) < 18446744073709551616 := by have := fb_lt k; split <;> omega
      have hn : bits .or .u64 (putK e k : Nat) (if e.flag k then fb k else 0 : Nat) = (putK e (k + 1) : Nat) := by rw [HS.out]; exact u64_or_nat _ _ (HP.out k) hb
      have ht := HC.out k hlt
      rw [← hEk.cell] at ht
      generalize e.flag k = t at *
      generalize hy : ((if t then fb k else 0 : Nat) : Int) = y at hn
      have HY := Lib.hid hy
      clear hb hy
      go_wp2_with fail
      refine (bits_as wr.heap.size g k (fb k) t y _ HY.out (Blk.new _ _ _) ((World.cell?_alloc_old wr _ _ (Nat.ne_of_lt hEk.lt)).trans ht)).mono ?_; rintro x w2 ⟨rfl, rfl⟩
      go_wp2_with fail
      go_roundw
      case rel => exact ⟨k + 1, by omega, rfl, by go_num, hck.alloc _, hEk.alloc _⟩
      case measure => simp [intOf]; omega
    · obtain rfl : k = 7 := by omega
      go_wp2_with fail
      go_ret2
      exact ⟨rfl, hck⟩

end Go.Proofs.Ytgmdnglododhfaa
