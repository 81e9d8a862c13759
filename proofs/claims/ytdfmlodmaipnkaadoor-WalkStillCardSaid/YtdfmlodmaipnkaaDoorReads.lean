/-
  The contract of 'reads': the words that a walk reads.
-/
import Derived.Test.YtdfmlodmaipnkaaDoorWalkHead
import Derived.Test.YtdfmlodmaipnkaaDoorWalkU
import Derived.Test.YtdfmlodmaipnkaaDoorRefW
import Derived.Test.YtdfmlodmaipnkaaDoorGuestC
import Derived.Test.YtdfmlodmaipnkaaDoorRefA
namespace Go.Proofs.YtdfmlodmaipnkaaDoor
open Go.RowKit Go.Maps

theorem reads_step {rd : Int → Int → Option Nat} {n g : Int} {lv : Nat} {l R : List (Int × Int)} (h : l ++ readsP rd n (lv + 1) g = R) :
    (rd g (idxI n (lv + 1 : Nat)) = none → l = R) ∧ ∀ v, rd g (idxI n (lv + 1 : Nat)) = some v →
      ((!(getE v).p || (getE v).s || (getE v).bad) = true → l ++ [(g, idxI n (lv + 1 : Nat))] = R) ∧ ((!(getE v).p || (getE v).s || (getE v).bad) = false → (l ++ [(g, idxI n (lv + 1 : Nat))]) ++ readsP rd n lv (getE v).f = R) := by
  rw [readsP] at h
  refine ⟨fun e => ?_, fun v e => ⟨fun e2 => ?_, fun e2 => ?_⟩⟩
  · rw [e] at h; simpa using h
  · rw [e] at h; simp only [e2, if_true] at h; exact h
  · rw [e] at h; simp only [e2] at h; rw [List.append_assoc]; exact h
theorem flat_snoc (l : List (Int × Int)) (g i : Int) : flatA (l ++ [(g, i)]) = flatA l ++ [.int .i64 g, .int .i64 i] := by simp [flatA]

set_option maxRecDepth 100000 in
set_option maxHeartbeats 8000000 in
theorem Reads_at (q : Nat) (S : List Nat) (p hh b : Nat) (W : List Int) (root n : Int) (w : World) (gu : GuIn w q S p L16 hh b 16 W) (hW : WdW W) :
    Calls Tryd.prog 15 #[.pointer (some ⟨q, 0, none⟩), .int .i64 root, .int .i64 n] w fun e w' => ∃ v l, e = .returned v ∧ l = readsP (rdG 16 W L16) n 3 root ∧ l.length ≤ 3 ∧ Chg [] w w' ∧ w'.ownsRow w.heap.size 40 2 v l.length (flatA l) := by
  obtain ⟨i0, hi0, hz0, hz1, hz2⟩ := info_parts At.info
  have hIdx := fun (l : Int) (w0 : World) => (RIdx_any n l w0).mono fun e w' (h : _ ∧ Dr w0 w') => (⟨h.1, h.2.chg⟩ : _ ∧ Chg [] w0 w')
  go_enter Tryd.func15, Tryd.ntmps15
  go_wp2_with fail
  go_loopw [7, 8, 9] (fun v f ls w' => ∃ (lv : Nat) (g : Int) (l : List (Int × Int)), lv ≤ 3 ∧ l.length + lv = 3 ∧ f = .int .i64 g ∧ ls = .int .i64 lv ∧ Chg [] w w' ∧ w'.ownsRow w.heap.size 40 2 v l.length (flatA l) ∧ l ++ readsP (rdG 16 W L16) n lv g = readsP (rdG 16 W L16) n 3 root) (fun _ _ ls _ => (intOf ls).toNat)
  case atStart => exact ⟨3, root, [], by decide, rfl, rfl, rfl, Chg.refl [] w, World.ownsRow_nil _ _ _ _, rfl⟩
  case round =>
    obtain ⟨lv, g, l, hlv, hlen, rfl, rfl, hc, ho, hR⟩ := hrel
    obtain ⟨A1, c1, rfl, _, _⟩ := own_form ho
    have hg := gu.self hc
    match lv, hlv, hlen, hR with
    | 0, _, hlen, hR =>
      have HR : Hid (l = readsP (rdG 16 W L16) n 3 root) := Lib.hid (by simpa [readsP] using hR)
      clear hR hg
      go_wp2_with fail
      go_ret
      exact ⟨_, l, rfl, HR.out, by omega, hc, ho⟩
    | lv + 1, _, hlen, hR =>
      obtain ⟨hno, hyes⟩ := reads_step hR
      clear hR
      have hpos : (((lv + 1 : Nat) : Int) ≥ 1) := by omega
      have hsub : wrap64 (((lv + 1 : Nat) : Int) - 1) = (lv : Int) := by unfold wrap64; omega
      have hIx := hIdx ((lv + 1 : Nat) : Int)
      generalize idxI n ((lv + 1 : Nat) : Int) = ix at *
      generalize hk : ((lv + 1 : Nat) : Int) = k at *
      have HK := Lib.hid hk
      clear hk
      go_wp2_with fail
      refine (hIx _).mono ?_; rintro e w3 ⟨rfl, k3⟩
      have al3 : Chg [] wr (w3.alloc (.cells #[.int .i64 g, .int .i64 ix] 40)) := k3.alloc _
      have hAt := Blk.new w3 40 #[.int .i64 g, .int .i64 ix]
      have hg4 := hg.self al3
      have hc4 := hc.trans al3 (by simp)
      have ho4 := own_chg ho al3 (by simp)
      obtain ⟨t0, t1⟩ := blkc2 hAt
      clear hg hc ho al3 k3
      by_cases hh' : hasG 16 L16 g ix = true
      · obtain ⟨hrd, hgv, hlt⟩ := rd_word hW hh'
        obtain ⟨hend, hon⟩ := hyes _ hrd
        clear hno hyes
        have hGt := gu_get q S p L16 hh b 16 W g ix _ true _ hg4 hgv hh'
        have hGet := fun w0 : World => RGet_any (getG 16 W L16 g ix).toNat w0 hlt
        have hcs : (getE (getG 16 W L16 g ix).toNat).cs = #[.bool (getE (getG 16 W L16 g ix).toNat).p, .bool (getE (getG 16 W L16 g ix).toNat).w, .bool (getE (getG 16 W L16 g ix).toNat).u, .bool (getE (getG 16 W L16 g ix).toNat).a, .bool (getE (getG 16 W L16 g ix).toNat).d, .bool (getE (getG 16 W L16 g ix).toNat).s, .bool (getE (getG 16 W L16 g ix).toNat).n, .bool (getE (getG 16 W L16 g ix).toNat).bad, .int .i64 (getE (getG 16 W L16 g ix).toNat).f] := rfl
        rw [hcs] at hGet
        clear hcs hrd hgv hlt hg4
        generalize (getE (getG 16 W L16 g ix).toNat).p = e0 at *
        generalize (getE (getG 16 W L16 g ix).toNat).w = e1 at *
        generalize (getE (getG 16 W L16 g ix).toNat).u = e2 at *
        generalize (getE (getG 16 W L16 g ix).toNat).a = e3 at *
        generalize (getE (getG 16 W L16 g ix).toNat).d = e4 at *
        generalize (getE (getG 16 W L16 g ix).toNat).s = e5 at *
        generalize (getE (getG 16 W L16 g ix).toNat).n = e6 at *
        generalize (getE (getG 16 W L16 g ix).toNat).bad = e7 at *
        generalize (getE (getG 16 W L16 g ix).toNat).f = e8 at *
        generalize (getG 16 W L16 g ix).toNat = vv at *
        have HEND := Lib.hid hend
        have HON := Lib.hid hon
        clear hend hon
        go_wp2_with fail
        refine hGt.mono ?_; rintro e w' ⟨rfl, rfl⟩
        clear hGt
        generalize w3.alloc (.cells #[.int .i64 g, .int .i64 ix] 40) = w4 at *
        generalize w3.heap.size = z at *
        have hws := hc4.size
        have hNew := Blk.new w4 40 #[.int .i64 g, .int .i64 ix]
        clear hAt
        go_wp2_with (at_builtin; refine wpList_append_src rfl _ _ 30 rfl w.heap.size 40 i0 (.agg #[.int .i64 0, .int .i64 0]) 2 16 Tryd.underlying30 hi0 hz0 hz1 hz2 rfl (by decide) _ _ _ rfl (World.ownsRow.alloc ho4 _) (some ⟨w4.heap.size, 0, none⟩) 1 1 [.int .i64 g, .int .i64 ix] rfl ⟨rfl, by simp [Value.oneCell'], by simp, fun a ha j u hu => by injection ha with ha; subst ha; rw [add_at, Nat.zero_add, hNew.cell]; simpa using hu⟩ (by simp [maxLen]; omega) (by omega) (by simp; omega) ?_; intro v3 w5 hown3 hc3 hv3)
        have hc5 : Chg [] w w5 := (hc4.alloc (.cells #[.int .i64 g, .int .i64 ix] 40)).trans hc3 (fun i hi hm => by
          have := own_low ho4 i hm
          omega)
        rw [← flat_snoc] at hown3
        clear hc4 ho4 hc3 hNew t0 t1 hws hv3
        refine (hGet _).mono ?_; rintro e w6 ⟨rfl, k6⟩
        have al6 : Chg [] w5 (w6.alloc (.cells #[.bool e0, .bool e1, .bool e2, .bool e3, .bool e4, .bool e5, .bool e6, .bool e7, .int .i64 e8] 48)) := k6.alloc _
        have hE := Blk.new w6 48 #[.bool e0, .bool e1, .bool e2, .bool e3, .bool e4, .bool e5, .bool e6, .bool e7, .int .i64 e8]
        have ho6 := own_chg hown3 al6 (by simp)
        have hc6 := hc5.trans al6 (by simp)
        have h0 := hE.cell 0; have h5 := hE.cell 5; have h7 := hE.cell 7; have h8 := hE.cell 8
        simp only [List.getElem?_toArray, List.getElem?_cons_zero, List.getElem?_cons_succ] at h0 h5 h7 h8
        obtain ⟨A6, c6, rfl, _, _⟩ := own_form ho6
        have hl6 : (l ++ [(g, ix)]).length = l.length + 1 := by simp
        clear hown3 hc5 k6 al6 hE hGet
        cases e0 with
        | false =>
          go_wp2_with fail
          go_ret
          exact ⟨_, l ++ [(g, ix)], rfl, HEND.out (by simp), by rw [hl6]; omega, hc6, by rw [hl6]; exact ho6⟩
        | true =>
          cases e5 with
          | true =>
            go_wp2_with fail
            go_ret
            exact ⟨_, l ++ [(g, ix)], rfl, HEND.out (by simp), by rw [hl6]; omega, hc6, by rw [hl6]; exact ho6⟩
          | false =>
            cases e7 with
            | true =>
              go_wp2_with fail
              go_ret
              exact ⟨_, l ++ [(g, ix)], rfl, HEND.out (by simp), by rw [hl6]; omega, hc6, by rw [hl6]; exact ho6⟩
            | false =>
              go_wp2_with fail
              go_roundw
              case rel => exact ⟨lv, e8, l ++ [(g, ix)], by omega, by rw [hl6]; omega, rfl, by rw [hsub], hc6, by rw [hl6]; exact ho6, HON.out (by simp)⟩
              case measure => have := HK.out; simp [intOf]; omega
      · have hh2 : hasG 16 L16 g ix = false := by simpa using hh'
        have HR : Hid (l = readsP (rdG 16 W L16) n 3 root) := Lib.hid (hno (by unfold rdG; rw [if_neg hh']))
        have hGt := gu_get q S p L16 hh b 16 W g ix (getG 16 W L16 g ix) false _ hg4 rfl hh2
        clear hno hyes hg4 hh' hh2
        go_wp2_with fail
        refine hGt.mono ?_; rintro e w' ⟨rfl, rfl⟩
        clear hGt
        go_wp2_with fail
        go_ret
        exact ⟨_, l, rfl, HR.out, by omega, hc4, ho4⟩

end Go.Proofs.YtdfmlodmaipnkaaDoor
