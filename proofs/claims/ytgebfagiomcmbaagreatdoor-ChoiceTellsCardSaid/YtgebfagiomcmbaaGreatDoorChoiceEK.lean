/-
  The contract of the document's Same, of lists of choices.
-/
import Derived.Test.YtgebfagiomcmbaaGreatDoorChoiceAK
import Derived.Deep.LoopGhost
namespace Go.Proofs.YtgebfagiomcmbaaGreatDoor
open Go.RowKit Go.Shelf

theorem Ch.ext_ {a b : Ch} : a = b ↔ (a.fill == b.fill && a.page == b.page) = true := by
  cases a; cases b; simp [Bool.and_eq_true]
instance Ch.dec : DecidableEq Ch := fun _ _ => decidable_of_iff _ Ch.ext_.symm
set_option maxRecDepth 100000 in
theorem run_neC (f f' : Bool) (p p' : Int) (w : World) : (binOp .neq 56 (.agg #[.bool f, .int .i64 p]) (.agg #[.bool f', .int .i64 p'])).run Tryz.prog w = .ok (.bool (!(f == f' && p == p'))) w := by
  have h : (Op.equalIn 10000 56 (.agg #[.bool f, .int .i64 p]) (.agg #[.bool f', .int .i64 p'])).run Tryz.prog w = .ok (f == f' && (p == p' && true)) w := by
    rw [run_equalIn_struct w 9999 _ _ _ (by kernel_rfl) (by kernel_rfl)]
    simp only [Program.fieldsOf, Tryz.underlying56]
    refine fields_bool (by decide) rfl (part_bool w _ Tryz.underlying4 _ 0 f rfl) (part_bool w _ Tryz.underlying4 _ 0 f' rfl) ?_
    exact fields_step (c := p == p') (r := true) (by decide) (part_int w _ .i64 Tryz.underlying3 _ 1 p rfl) (part_int w _ .i64 Tryz.underlying3 _ 1 p' rfl) (run_equalIn_int (P := Tryz.prog) w _ 3 .i64 .i64 p p' Tryz.underlying3) fields_nil
  rw [Bool.and_true] at h
  rw [run_neq_struct, h]; rfl

set_option maxRecDepth 100000 in
set_option maxHeartbeats 2000000 in
theorem ChSame_any (A B : Option Addr) (n m c d : Nat) (L M : List Ch) (w : World) (hL : SlG chE w A n L) (hM : SlG chE w B m M) :
    Calls Tryz.prog 28 #[.slice A n c, .slice B m d] w fun e w' => e = .returned (.bool (decide (L = M))) ∧ Chg [] w w' := by
  have hl := hL.len; have hm := hM.len; have hle := hL.le; have hle2 := hM.le
  by_cases hnm : n = m
  · subst hnm
    replace hl := Lib.hid hl; replace hm := Lib.hid hm
    go_enter Tryz.func28, Tryz.ntmps28
    go_wp2_with fail
    go_loopg [5] n (fun gg s5 wr => ∃ k : Nat, k ≤ n ∧ n - k ≤ gg ∧ s5 = .int .i64 k ∧ Aside (Chg [] w wr) ∧ Aside (L.take k = M.take k))
    case atStart => exact ⟨0, Nat.zero_le _, by omega, rfl, Chg.refl _ w, rfl⟩
    case round =>
      obtain ⟨k, hk, hg, rfl, h0, ht⟩ := hrel
      replace h0 := h0.out
      by_cases hlt : k < n
      · obtain ⟨b, off, ⟨xf, xp⟩, rfl, hb, hx, c0, c1⟩ := SlC.get (hL.new h0) hlt
        obtain ⟨b', off', ⟨yf, yp⟩, rfl, hb', hy, d0, d1⟩ := SlC.get (hM.new h0) hlt
        simp only at c0 c1 d0 d1
        have hq := fun w9 => run_neC xf yf xp yp w9
        have hst : L.take (k + 1) = L.take k ++ [⟨xf, xp⟩] := by
          have h1 := (List.getElem?_eq_some_iff.1 hx).1
          rw [List.take_succ_eq_append_getElem h1, (List.getElem?_eq_some_iff.1 hx).2]
        have hsu : M.take (k + 1) = M.take k ++ [⟨yf, yp⟩] := by
          have h1 := (List.getElem?_eq_some_iff.1 hy).1
          rw [List.take_succ_eq_append_getElem h1, (List.getElem?_eq_some_iff.1 hy).2]
        have hE := Ch.ext_ (a := ⟨xf, xp⟩) (b := ⟨yf, yp⟩)
        simp only at hE
        generalize (xf == yf && xp == yp) = r at *
        cases r with
        | true =>
          have hxy : Ch.mk xf xp = ⟨yf, yp⟩ := hE.2 rfl
          have hn : Hid (L.take (k + 1) = M.take (k + 1)) := Lib.hid (by rw [hst, hsu, ht.out, hxy])
          clear hst hsu hE hxy hx hy ht
          go_wp2_with fail
          go_quiet (fail)
          go_wp2_with fail
          go_roundg (n - (k + 1))
          case measure => omega
          case rel => exact ⟨k + 1, by omega, by omega, by go_num, h0.drewN _, hn.out⟩
        | false =>
          have hne : Hid (decide (L = M) = false) := Lib.hid (decide_eq_false fun e => by
            subst e
            rw [hx] at hy
            have := hE.1 (Option.some.inj hy)
            cases this)
          clear hst hsu hE hx hy ht
          go_wp2_with fail
          go_quiet (fail)
          go_wp2_with fail
          go_ret
          rw [hne.out]
          exact ⟨rfl, h0.drewN _⟩
      · obtain rfl : k = n := by omega
        have ht := ht.out
        rw [List.take_of_length_le (by rw [hl.out]; omega), List.take_of_length_le (by rw [hm.out]; omega)] at ht
        replace ht := Lib.hid (decide_eq_true ht)
        go_wp2_with fail
        go_ret
        rw [ht.out]
        exact ⟨rfl, h0⟩
  · have hne : Hid (decide (L = M) = false) := Lib.hid (decide_eq_false fun e => hnm (by rw [← hl, ← hm, e]))
    clear hl hm
    go_enter Tryz.func28, Tryz.ntmps28
    go_wp2_with fail
    go_ret
    rw [hne.out]
    exact ⟨rfl, Chg.refl _ _⟩

end Go.Proofs.YtgebfagiomcmbaaGreatDoor
