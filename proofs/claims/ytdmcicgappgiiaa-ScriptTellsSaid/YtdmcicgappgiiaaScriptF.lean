/-
  The contract of the document's Same, of lists of operations; contracts of Put and Get with the answers given.
-/
import Derived.Test.YtdmcicgappgiiaaScriptE
import Derived.Lib.Strings
namespace Go.Proofs.Ytdmcicgappgiiaa
open Go.RowKit Go.Shelf

set_option maxRecDepth 100000 in
set_option maxHeartbeats 4000000 in
theorem ScSame_any (A B : Option Addr) (n m c d : Nat) (L M : List Sop) (w : World) (hL : SlG opE w A n L) (hM : SlG opE w B m M) :
    Calls Try.prog 17 #[.slice A n c, .slice B m d] w fun e w' => e = .returned (.bool (decide (L = M))) ∧ Chg [] w w' := by
  have hl := hL.len; have hm := hM.len; have hle := hL.le; have hle2 := hM.le
  by_cases hnm : n = m
  · subst hnm
    replace hl := Lib.hid hl; replace hm := Lib.hid hm
    go_enter Try.func17, Try.ntmps17
    go_wp2_with fail
    go_loopg [5] n (fun gg s5 wr => ∃ k : Nat, k ≤ n ∧ n - k ≤ gg ∧ s5 = .int .i64 k ∧ Aside (Chg [] w wr) ∧ Aside (L.take k = M.take k))
    case atStart => exact ⟨0, Nat.zero_le _, by omega, rfl, Chg.refl _ w, rfl⟩
    case round =>
      obtain ⟨k, hk, hg, rfl, h0, ht⟩ := hrel
      replace h0 := h0.out
      by_cases hlt : k < n
      · obtain ⟨b, off, x, rfl, hb, hx, c0, c1, c2, c3, c4, c5, c6⟩ := SlS.get (hL.new h0) hlt
        obtain ⟨b', off', y, rfl, hb', hy, d0, d1, d2, d3, d4, d5, d6⟩ := SlS.get (hM.new h0) hlt
        have hq := fun w9 => run_neS x y w9
        simp only [Sop.ar] at hq
        have hst := take_at hx
        have hsu := take_at hy
        have hE := eqS_iff (o := x) (p := y)
        generalize eqS x y = r at *
        cases r with
        | true =>
          have hxy := hE.1 rfl
          have hn : Hid (L.take (k + 1) = M.take (k + 1)) := Lib.hid (by rw [hst, hsu, ht.out, hxy])
          clear hst hsu hE hxy hx hy ht
          go_wp2_with fail
          go_quiet (fail)
          go_wp2_with fail
          go_roundg (n - (k + 1))
          case measure => omega
          case rel => exact ⟨k + 1, by omega, by omega, by go_num, h0.drewN _, hn.out⟩
        | false =>
          have hne : Hid (decide (L = M) = false) := Lib.hid (decide_eq_false fun e => by
            subst e
            rw [hx] at hy
            have := hE.2 (Option.some.inj hy)
            cases this)
          clear hst hsu hE hx hy ht
          go_wp2_with fail
          go_quiet (fail)
          go_wp2_with fail
          go_ret
          rw [hne.out]
          exact ⟨rfl, h0.drewN _⟩
      · obtain rfl : k = n := by omega
        have ht := ht.out
        rw [List.take_of_length_le (by rw [hl.out]; omega), List.take_of_length_le (by rw [hm.out]; omega)] at ht
        replace ht := Lib.hid (decide_eq_true ht)
        go_wp2_with fail
        go_ret
        rw [ht.out]
        exact ⟨rfl, h0⟩
  · have hne : Hid (decide (L = M) = false) := Lib.hid (decide_eq_false fun e => hnm (by rw [← hl, ← hm, e]))
    clear hl hm
    go_enter Try.func17, Try.ntmps17
    go_wp2_with fail
    go_ret
    rw [hne.out]
    exact ⟨rfl, Chg.refl _ _⟩

theorem ScPut_is {A : Option Addr} {nn c : Nat} {l : List Sop} {w : World} {B : List Int} {n : Nat} (hB : putS l = B) (hn : B.length = n) (hs : SlG opE w A nn l) (hwf : ∀ o ∈ l, o.Wf) (hb : nn ≤ 1000000) :
    Calls Try.prog 15 #[.slice A nn c] w fun e w' => ∃ A' c', e = .returned (.slice A' n c') ∧ LG (numE .u8) w w' 5 (.slice A' n c') B := by
  subst hB; subst hn; exact ScPut_any A nn c l w hs hwf hb
theorem ScGet_is {A : Option Addr} {nn c : Nat} {b : List Int} {w : World} {M : List Sop} {n k : Nat} {ki er : Int} (hg : getS b = (M, k)) (hn : M.length = n) (hk : (k : Int) = ki) (he : (if k = b.length then (0 : Int) else 12) = er) (hs : SlG (numE .u8) w A nn b) (hnc : nn ≤ c) (hb : nn ≤ 1000000) (hr : ∀ x ∈ b, 0 ≤ x ∧ x < 256) :
    Calls Try.prog 11 #[.slice A nn c] w fun e w' => ∃ A' c', e = .returned (.tuple #[.slice A' n c', .int .i64 ki, .int .i64 er]) ∧ LG opE w w' 31 (.slice A' n c') M := by
  have h := ScGet_any A nn c b w hs hnc hb hr
  unfold gotE at h
  rw [hg] at h
  subst hn; subst hk; subst he; exact h

/-! strings of bytes -/
theorem str_same (x y : ByteArray) : (x.toList == y.toList) = decide (x = y) := by
  rw [Bool.eq_iff_iff]
  simp only [beq_iff_eq, decide_eq_true_eq]
  constructor
  · intro h
    rw [Lib.toList_data, Lib.toList_data] at h
    apply ByteArray.ext
    exact Array.toList_inj.1 h
  · rintro rfl; rfl
theorem str_app (x y : List Int) : strOfNums (x ++ y) = strOfNums x ++ strOfNums y := by
  apply ByteArray.ext
  simp [strOfNums]
theorem flat_rng {l : List Sop} (hl : l.all rightS = true) : ∀ x ∈ l.flatMap oneS, 0 ≤ x ∧ x < 256 := fun x hx => by
  obtain ⟨o, ho, hx⟩ := List.mem_flatMap.1 hx
  exact oneS_rng (List.all_eq_true.1 hl o ho) x hx
theorem put_all {l : List Sop} (h : ¬ ((putS l).length = 0 ∧ 0 < l.length)) : l.all rightS = true := by
  cases ha : l.all rightS with
  | true => rfl
  | false =>
    exfalso; apply h
    unfold putS
    rw [ha]
    refine ⟨rfl, ?_⟩
    cases l with
    | nil => simp at ha
    | cons x l => simp
theorem put_is {l : List Sop} (hl : l.all rightS = true) : putS l = l.flatMap oneS := by unfold putS; rw [if_pos hl]
theorem put_app {l m : List Sop} (hl : l.all rightS = true) (hm : m.all rightS = true) : putS (l ++ m) = putS l ++ putS m := by
  unfold putS
  rw [List.all_append, hl, hm]; simp
theorem put_eq {l m : List Sop} (hl : l.all rightS = true) (hm : m.all rightS = true) (wl : ∀ o ∈ l, o.Wf) (wm : ∀ o ∈ m, o.Wf) : ((strOfNums (putS l)).toList == (strOfNums (putS m)).toList) = decide (l = m) := by
  rw [str_same]
  by_cases e : l = m
  · subst e; simp
  · rw [decide_eq_false e]
    refine decide_eq_false fun h => e ?_
    rw [put_is hl, put_is hm] at h
    exact flat_inj wl wm hl hm (str_inj (flat_rng hl) (flat_rng hm) h)

end Go.Proofs.Ytdmcicgappgiiaa
