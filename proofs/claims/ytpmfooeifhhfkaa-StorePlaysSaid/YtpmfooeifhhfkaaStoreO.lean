/-
  The document's SameAts; a call of a store, as the laws make it.
-/
import Derived.Test.YtpmfooeifhhfkaaStoreN
import Derived.Test.YtpmfooeifhhfkaaSameI
namespace Go.Proofs.Ytpmfooeifhhfkaa
open Go.RowKit Go.Maps

set_option maxRecDepth 100000 in
theorem run_neAt (a b : Int × Int) (w : World) : (binOp .neq 70 (.agg #[.int .i64 a.1, .int .i64 a.2]) (.agg #[.int .i64 b.1, .int .i64 b.2])).run Try.prog w = .ok (.bool (!decide (a = b))) w := by
  have e : decide (a = b) = (a.1 == b.1 && a.2 == b.2) := by
    rw [Bool.eq_iff_iff, decide_eq_true_eq, Prod.ext_iff]; simp
  have h : (Op.equalIn 10000 70 (.agg #[.int .i64 a.1, .int .i64 a.2]) (.agg #[.int .i64 b.1, .int .i64 b.2])).run Try.prog w = .ok (decide (a = b)) w := by
    rw [e, run_equalIn_struct w 9999 _ _ _ (by kernel_rfl) (by kernel_rfl)]
    simp only [Program.fieldsOf, Try.underlying70]
    refine fields_step (c := a.1 == b.1) (by decide) (part_int w _ .i64 Try.underlying3 _ 0 a.1 rfl) (part_int w _ .i64 Try.underlying3 _ 0 b.1 rfl) (run_equalIn_int w 9998 _ .i64 .i64 _ _ Try.underlying3) ?_
    exact fields_int Try.underlying3 (by decide) rfl (part_int w _ .i64 Try.underlying3 _ 1 a.2 rfl) (part_int w _ .i64 Try.underlying3 _ 1 b.2 rfl) fields_nil
  rw [run_neq_struct, h]; rfl
theorem at_ext {L M : List (Int × Int)} (hl : L.length = M.length) (h : ∀ j, j < L.length → L[j]? = M[j]?) : L = M := by
  apply List.ext_getElem? 
  intro j
  by_cases hj : j < L.length
  · exact h j hj
  · rw [List.getElem?_eq_none (by omega), List.getElem?_eq_none (by omega)]
theorem atG_cells {w : World} {A : Option Addr} {n : Nat} {L : List (Int × Int)} (h : SlG atE w A n L) {k : Nat} (hk : k < n) : ∃ b off x, A = some ⟨b, off, none⟩ ∧ L[k]? = some x ∧ w.cell? ⟨b, off + k * 2, none⟩ = some (.int .i64 x.1) ∧ w.cell? ⟨b, off + k * 2 + 1, none⟩ = some (.int .i64 x.2) := by
  obtain ⟨b, off, x, e, _, hx, hat⟩ := h.get hk
  exact ⟨b, off, x, e, hx, hat 0 _ rfl, hat 1 _ rfl⟩
set_option maxRecDepth 100000 in
set_option maxHeartbeats 2000000 in
theorem SameA_at (A : Option Addr) (n c : Nat) (L : List (Int × Int)) (B : Option Addr) (m d : Nat) (M : List (Int × Int)) (w : World) (hL : SlG atE w A n L) (hM : SlG atE w B m M) :
    Calls Try.prog 30 #[.slice A n c, .slice B m d] w fun e w' => e = .returned (.bool (decide (L = M))) ∧ Chg [] w w' := by
  have hl := hL.len; have hm := hM.len; have hle := hL.le
  have HL := Lib.hid hl; have HM := Lib.hid hm
  by_cases hnm : n = m
  · subst hnm
    have HLM : Hid (L.length = M.length) := Lib.hid (by omega)
    clear hl hm
    go_enter Try.func30, Try.ntmps30
    go_wp2_with fail
    go_loopg [5] n (fun gg s wr => ∃ kk : Nat, kk ≤ n ∧ n - kk ≤ gg ∧ s = .int .i64 kk ∧ Aside (Chg [] w wr) ∧ Aside (∀ j, j < kk → L[j]? = M[j]?))
    case atStart => exact ⟨0, Nat.zero_le _, by omega, rfl, Chg.refl _ w, fun j hj => absurd hj (Nat.not_lt_zero _)⟩
    case round =>
      obtain ⟨kk, hkk, hg, rfl, BW, HA⟩ := hrel
      by_cases hlt : kk < n
      · have hltz : (kk : Int) < (n : Int) := by omega
        obtain ⟨b, off, x, rfl, hx, x0, x1⟩ := atG_cells (hL.new BW.out) hlt
        obtain ⟨b2, off2, y, rfl, hy, y0, y1⟩ := atG_cells (hM.new BW.out) hlt
        have EX := Lib.hid hx; have EY := Lib.hid hy
        clear hx hy
        have hne := fun w' => run_neAt x y w'
        cases hd : decide (x = y) with
        | true =>
          rw [hd] at hne
          replace hd := Lib.hid hd
          go_wp2_with fail
          go_quiet (fail)
          go_wp2_with fail
          go_roundg (n - (kk + 1))
          case measure => omega
          case rel =>
            refine ⟨kk + 1, by omega, by omega, by go_num, (show Aside _ from BW.out.drewN _), (show Aside _ from fun j hj => ?_)⟩
            by_cases e : j = kk
            · subst e
              rw [EX.out, EY.out, of_decide_eq_true hd.out]
            · exact HA.out j (by omega)
        | false =>
          rw [hd] at hne
          have hno : Hid (decide (L = M) = false) := Lib.hid (decide_eq_false fun e => of_decide_eq_false hd (by have := EX.out; rw [e, EY.out] at this; injection this with this; exact this.symm))
          replace hd := Lib.hid hd
          go_wp2_with fail
          go_quiet (fail)
          go_wp2_with fail
          go_ret
          exact ⟨by rw [hno.out]; rfl, BW.out.drewN _⟩
      · have hltz : ¬ (kk : Int) < (n : Int) := by omega
        obtain rfl : kk = n := by omega
        have hyes : Hid (decide (L = M) = true) := Lib.hid (decide_eq_true (at_ext HLM.out fun j hj => HA.out j (by have := HL.out; omega)))
        go_wp2_with fail
        go_ret
        exact ⟨by rw [hyes.out]; rfl, BW.out⟩
  · have hno : Hid (decide (L = M) = false) := Lib.hid (decide_eq_false fun e => hnm (by rw [← hl, ← hm, e]))
    have hne : ((n : Int) == (m : Int)) = false := by simp; omega
    clear hl hm
    go_enter Try.func30, Try.ntmps30
    go_wp2_with fail
    go_ret
    exact ⟨by rw [hno.out]; rfl, Chg.refl _ _⟩
theorem SameA_is (A : Option Addr) (n c : Nat) (L : List (Int × Int)) (B : Option Addr) (m d : Nat) (M : List (Int × Int)) (t : Bool) (w : World) (hL : SlG atE w A n L) (hM : SlG atE w B m M) (ht : decide (L = M) = t) :
    Calls Try.prog 30 #[.slice A n c, .slice B m d] w fun e w' => e = .returned (.bool t) ∧ Chg [] w w' := ht ▸ SameA_at A n c L B m d M w hL hM

/-! ### a call, as the laws make it -/
structure Ost where
  what : Int
  k : Ky
  p : Int
  i : Int
  t : Int
  h : Int
  r : Rg
def Ost.cs (o : Ost) : Array Value := #[.int .i64 o.what, .int .i64 o.k.g, .int .i64 o.k.lev, .int .i64 o.k.role, .int .i64 o.p, .int .i64 o.i, .int .i64 o.t, .int .i64 o.h, .bool o.r.w, .bool o.r.u, .bool o.r.x]
def playS (n : Nat) (s : Sr) (o : Ost) : Sr :=
  if o.what = 0 ∨ o.what = 1 then makeS n s o.k else if o.what = 2 ∨ o.what = 3 then childS n s o.p o.i o.t o.r else if o.what = 4 ∨ o.what = 5 then leafS n s o.p o.i o.t o.h o.r else if o.what = 6 then clearS n s o.p o.i else dropS s o.p
def playV (s : Sr) (o : Ost) : Int := if o.what = 0 ∨ o.what = 1 then makeV s o.k else 0
def playB (n : Nat) (s : Sr) (o : Ost) : Bool :=
  if o.what = 0 ∨ o.what = 1 then makeB s o.k else if o.what = 2 ∨ o.what = 3 then childB s o.p o.i o.t else if o.what = 4 ∨ o.what = 5 then leafB n s o.p o.i o.h else if o.what = 6 then clearB s o.p o.i else dropB s o.p
/-- its numbers are ints -/
def Ost.Wf (o : Ost) : Prop := (-9223372036854775808 ≤ o.p ∧ o.p ≤ 9223372036854775807) ∧ (-9223372036854775808 ≤ o.t ∧ o.t ≤ 9223372036854775807)
def runP (n : Nat) (s : Sr) (l : List Ost) : Sr := l.foldl (playS n) s
theorem SrOk.play {n a m : Nat} {s : Sr} (h : SrOk n a m s) (o : Ost) : SrOk n a m (playS n s o) := by
  unfold playS
  split
  · exact h.make _
  split
  · exact h.child _ _ _ _
  split
  · exact h.leaf _ _ _ _ _
  split
  · exact h.clear _ _
  · exact h.drop _
theorem SrOk.run {n a m : Nat} : ∀ (l : List Ost) {s : Sr}, SrOk n a m s → SrOk n a m (runP n s l)
  | [], _, h => h
  | o :: l, _, h => SrOk.run l (h.play o)
theorem runP_take {n : Nat} {s : Sr} {l : List Ost} {k : Nat} {o : Ost} (h : l[k]? = some o) : runP n s (l.take (k + 1)) = playS n (runP n s (l.take k)) o := by
  obtain ⟨h1, h2⟩ := List.getElem?_eq_some_iff.1 h
  rw [List.take_succ_eq_append_getElem h1, h2]
  unfold runP; rw [List.foldl_append]; rfl

section
variable {w0 w : World} {l : List Th} {q hp hb n a m : Nat} {s : Sr}
set_option maxRecDepth 100000 in
set_option maxHeartbeats 8000000 in
theorem SepC.sPlay (H : SepC w0 w (stT q hp hb n a m s :: l)) (o : Ost) (hw : o.Wf) :
    Calls Try.prog 15 #[.pointer (some ⟨q, 0, none⟩), .agg o.cs] w fun e w' => e = .returned (.tuple #[.int .i64 (playV s o), .bool (playB n s o)]) ∧ SepC w0 w' (stT q hp hb n a m (playS n s o) :: l) := by
  obtain ⟨hw1, hw2⟩ := hw
  obtain ⟨wh, k, p, i, t, h, r⟩ := o
  obtain ⟨kg, kl, kr⟩ := k
  obtain ⟨rw_, ru, rx⟩ := r
  unfold Ost.cs playS playV playB
  simp only at *
  have y0 := (Chg.refl [] w).alloc (.cells #[.int .i64 wh, .int .i64 kg, .int .i64 kl, .int .i64 kr, .int .i64 p, .int .i64 i, .int .i64 t, .int .i64 h, .bool rw_, .bool ru, .bool rx] 39)
  have H1 := H.new y0
  have hM := H1.sMake ⟨kg, kl, kr⟩
  have hC := H1.sChild p i t ⟨rw_, ru, rx⟩ hw1 hw2
  have hL := H1.sLeaf p i t h ⟨rw_, ru, rx⟩ hw1
  have hX := H1.sClear p i hw1
  have hD := H1.sDrop p hw1
  simp only [Ky.cs, Rg.cs] at hM hC hL
  clear H H1 y0 hw1 hw2
  by_cases c0 : wh = 0
  · subst c0
    simp only [true_or, if_true]
    clear hC hL hX hD
    go_enter Try.func15, Try.ntmps15
    go_wp2_with fail
    refine hM.mono ?_; rintro e w2 ⟨rfl, H2⟩
    go_wp2_with fail
    go_ret2
    exact ⟨rfl, H2⟩
  by_cases c1 : wh = 1
  · subst c1
    simp only [or_true, if_true]
    clear hC hL hX hD
    go_enter Try.func15, Try.ntmps15
    go_wp2_with fail
    refine hM.mono ?_; rintro e w2 ⟨rfl, H2⟩
    go_wp2_with fail
    go_ret2
    exact ⟨rfl, H2⟩
  have c01 : ¬ (wh = 0 ∨ wh = 1) := by omega
  have b0 : (wh == 0) = false := by simpa using c0
  have b1 : (wh == 1) = false := by simpa using c1
  rw [if_neg c01, if_neg c01, if_neg c01]
  clear hM c01 c0 c1
  by_cases c2 : wh = 2
  · subst c2
    simp only [true_or, if_true]
    clear hL hX hD
    go_enter Try.func15, Try.ntmps15
    go_wp2_with fail
    refine hC.mono ?_; rintro e w2 ⟨rfl, H2⟩
    go_wp2_with fail
    go_ret2
    exact ⟨rfl, H2⟩
  by_cases c3 : wh = 3
  · subst c3
    simp only [or_true, if_true]
    clear hL hX hD
    go_enter Try.func15, Try.ntmps15
    go_wp2_with fail
    refine hC.mono ?_; rintro e w2 ⟨rfl, H2⟩
    go_wp2_with fail
    go_ret2
    exact ⟨rfl, H2⟩
  have c01 : ¬ (wh = 2 ∨ wh = 3) := by omega
  have b2 : (wh == 2) = false := by simpa using c2
  have b3 : (wh == 3) = false := by simpa using c3
  rw [if_neg c01, if_neg c01]
  clear hC c01 c2 c3
  by_cases c2 : wh = 4
  · subst c2
    simp only [true_or, if_true]
    clear hX hD
    go_enter Try.func15, Try.ntmps15
    go_wp2_with fail
    refine hL.mono ?_; rintro e w2 ⟨rfl, H2⟩
    go_wp2_with fail
    go_ret2
    exact ⟨rfl, H2⟩
  by_cases c3 : wh = 5
  · subst c3
    simp only [or_true, if_true]
    clear hX hD
    go_enter Try.func15, Try.ntmps15
    go_wp2_with fail
    refine hL.mono ?_; rintro e w2 ⟨rfl, H2⟩
    go_wp2_with fail
    go_ret2
    exact ⟨rfl, H2⟩
  have c01 : ¬ (wh = 4 ∨ wh = 5) := by omega
  have b4 : (wh == 4) = false := by simpa using c2
  have b5 : (wh == 5) = false := by simpa using c3
  rw [if_neg c01, if_neg c01]
  clear hL c01 c2 c3
  by_cases c2 : wh = 6
  · subst c2
    simp only [if_true]
    clear hD
    go_enter Try.func15, Try.ntmps15
    go_wp2_with fail
    refine hX.mono ?_; rintro e w2 ⟨rfl, H2⟩
    go_wp2_with fail
    go_ret2
    exact ⟨rfl, H2⟩
  have b6 : (wh == 6) = false := by simpa using c2
  rw [if_neg c2, if_neg c2]
  clear hX c2
  go_enter Try.func15, Try.ntmps15
  go_wp2_with fail
  refine hD.mono ?_; rintro e w2 ⟨rfl, H2⟩
  go_wp2_with fail
  go_ret2
  exact ⟨rfl, H2⟩
end

end Go.Proofs.Ytpmfooeifhhfkaa
