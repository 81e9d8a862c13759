/-
  The contracts of slices.IndexFunc and slices.DeleteFunc at ints, with a predicate that has one captured cell.
-/
import Derived.Test.YtpmfooeifhhfkaaG0
import Derived.Lib.SliceRun
import Derived.Deep.RegionLaw
import Derived.Deep.LoopGhost
namespace Go.Proofs.Ytpmfooeifhhfkaa
open Go.RowKit

/-- the place of the first one of which q holds, or -1 -/
def fstI (q : Int → Bool) (L : List Int) : Int := if L.any q then (L.findIdx q : Int) else -1
theorem fstI_hit {q : Int → Bool} {L : List Int} {k : Nat} (hk : k < L.length) (h1 : q (L.getD k 0) = true) (h0 : ∀ j, j < k → q (L.getD j 0) = false) : fstI q L = k := by
  have e : L.getD k 0 = L[k] := by simp [List.getD_eq_getElem?_getD, List.getElem?_eq_getElem hk]
  rw [e] at h1
  have h2 : L.any q = true := List.any_eq_true.2 ⟨_, List.getElem_mem hk, h1⟩
  unfold fstI
  rw [h2, if_pos rfl, (List.findIdx_eq hk).2 ⟨h1, fun j hj => by
    have := h0 j hj
    rw [List.getD_eq_getElem?_getD, List.getElem?_eq_getElem (show j < L.length by omega), Option.getD_some] at this
    simp [this]⟩]
theorem fstI_miss {q : Int → Bool} {L : List Int} (h0 : ∀ j, j < L.length → q (L.getD j 0) = false) : fstI q L = -1 := by
  have h2 : L.any q = false := by
    rw [List.any_eq_false]
    intro x hx
    obtain ⟨j, hj, rfl⟩ := List.getElem_of_mem hx
    have := h0 j hj
    rw [List.getD_eq_getElem?_getD, List.getElem?_eq_getElem hj, Option.getD_some] at this
    simp [this]
  unfold fstI
  rw [h2]; rfl

/-- block g is these numbers, and spare cells behind them -/
def RowI (w : World) (g : Nat) (M : List Int) (tl : List Value) : Prop := Blk w g 3 (vals .i64 M ++ tl).toArray
section
variable {w w' : World} {g : Nat} {M : List Int} {tl : List Value}
theorem RowI.cell (h : RowI w g M tl) {k : Nat} (hk : k < M.length) : w.cell? ⟨g, k, none⟩ = some (.int .i64 (M.getD k 0)) := by
  rw [Blk.cell (t := 3) h, List.getElem?_toArray, List.getElem?_append_left (by rw [vals_len]; exact hk), vals_get, List.getElem?_eq_getElem hk]
  simp [List.getD_eq_getElem?_getD, List.getElem?_eq_getElem hk]
theorem RowI.frozen (h : RowI w g M tl) (i : Nat) : w.frozen? ⟨g, i, none⟩ = false := Blk.frozen (t := 3) h i
theorem RowI.chg {S : List Nat} (h : RowI w g M tl) (hc : Chg S w w') (hn : g ∉ S) : RowI w' g M tl := hc.blk (t := 3) h hn
theorem RowI.set (h : RowI w g M tl) {i : Nat} (hi : i < M.length) (x : Int) : RowI (w.setCell ⟨g, i, none⟩ (.int .i64 x)) g (M.set i x) tl := by
  have := Blk.set_ (t := 3) h i (.int .i64 x)
  unfold RowI
  rw [List.setIfInBounds_toArray, List.set_append_left _ _ (by rw [vals_len]; exact hi)] at this
  rw [show vals .i64 (M.set i x) = (vals .i64 M).set i (.int .i64 x) by simp [vals, List.map_set]]
  exact this
theorem RowI.own (h : RowI w g M tl) (c : Nat) (hm1 : M.length ≤ c) (hc : M.length + tl.length = c) (hm : c ≤ 9223372036854775807) : OwnI w 3 .i64 (.slice (some ⟨g, 0, none⟩) M.length c) M :=
  ⟨by simp [vals_len], .inr ⟨g, c, _, rfl, Nat.zero_le _, h, hm1, by simpa [maxLen] using hm, by simp [vals_len]; omega, by simp [vals_len]⟩⟩
theorem OwnI.rowI {n c : Nat} {L : List Int} (h : OwnI w 3 .i64 (.slice (some ⟨g, 0, none⟩) n c) L) : ∃ tl, RowI w g L tl ∧ n = L.length ∧ L.length ≤ c ∧ c ≤ 9223372036854775807 ∧ L.length + tl.length = c := by
  rcases h.2 with ⟨h0, _⟩ | ⟨g', c', cur, hv, _, hb, h1, h2, h3, h4⟩
  · cases h0
  · injection hv with e1 e2 e3
    injection e1 with e1; injection e1 with e1
    subst e1; subst e3; subst e2
    rw [Nat.mul_one] at h4
    refine ⟨cur.toList.drop L.length, ?_, rfl, h1, by simpa [maxLen] using h2, by simp; omega⟩
    unfold RowI
    rw [← h4, List.take_append_drop]
    exact hb
end

/-- clear, of a part of a row: so many cells are written -/
theorem run_clear_I (w : World) (b o n c : Nat) (hn : 0 < n)
    (hc : ∀ j, j < n → (w.cell? ⟨b, o + j, none⟩).isSome = true) (hf : ∀ j, j < n → w.frozen? ⟨b, o + j, none⟩ = false) :
    ∃ xs : List Value, xs.length = n ∧ ∀ ty, (Builtin.clear_ #[50] ty #[.slice (some ⟨b, o, none⟩) n c]).run Try.prog w = .ok (.tuple #[]) (w.setCells b o xs) := by
  refine ⟨(Builtin.zeroCells #[.int .i64 0] n).toList, by simp [Builtin.zeroCells], fun ty => ?_⟩
  have hst := run_storeCells_cells (P := Try.prog) b o (Builtin.zeroCells #[.int .i64 0] n).toList 0 w (by simpa [Builtin.zeroCells] using hc) (by simpa [Builtin.zeroCells] using hf) (by
    intro v hv
    simp only [Builtin.zeroCells, Array.toList_map, List.mem_map, Array.mem_toList_iff, Array.mem_range] at hv
    obtain ⟨i, _, rfl⟩ := hv
    simp only [List.size_toArray, List.length_cons, List.length_nil, Nat.reduceAdd, Nat.mod_one]
    rfl)
  simp only [Nat.add_zero] at hst
  obtain ⟨m, rfl⟩ : ∃ m, n = m + 1 := ⟨n - 1, by omega⟩
  have hz : (Value.int .i64 0).cells = #[.int .i64 0] := rfl
  simp [Builtin.clear_, run_underlying Try.underlying50, hz, hst]

/-- what stands behind those that are struck moves to the left: M, of which the first j have been looked at; i of them are left -/
def KeptI (q : Int → Bool) (M : List Int) (j i : Nat) (N : List Int) : Prop :=
  N.length = M.length ∧ i < j ∧ j ≤ M.length ∧ N.take i = (M.take j).filter (fun h => !q h) ∧ ∀ k, j ≤ k → k < M.length → N.getD k 0 = M.getD k 0
theorem getD_ltI {L : List Int} {k : Nat} (h : k < L.length) : L.getD k 0 = L[k] := by simp [List.getD_eq_getElem?_getD, List.getElem?_eq_getElem h]
theorem KeptI.start {q : Int → Bool} {M : List Int} {k : Nat} (hk : k < M.length) (h1 : q (M.getD k 0) = true) (h0 : ∀ j, j < k → q (M.getD j 0) = false) : KeptI q M (k + 1) k M := by
  refine ⟨rfl, by omega, by omega, ?_, fun _ _ _ => rfl⟩
  rw [List.take_succ_eq_append_getElem hk, List.filter_append]
  rw [getD_ltI hk] at h1
  have e : (M.take k).filter (fun h => !q h) = M.take k := by
    rw [List.filter_eq_self]
    intro x hx
    obtain ⟨j, hj, rfl⟩ := List.getElem_of_mem hx
    have hj' : j < k := by simp at hj; omega
    have := h0 j hj'
    rw [getD_ltI (by omega)] at this
    rw [List.getElem_take, this]; rfl
  rw [e]; simp [h1]
theorem KeptI.keep {q : Int → Bool} {M N : List Int} {j i : Nat} (h : KeptI q M j i N) (hj : j < M.length) (hq : q (M.getD j 0) = false) : KeptI q M (j + 1) (i + 1) (N.set i (M.getD j 0)) := by
  obtain ⟨h1, h2, h3, h4, h5⟩ := h
  refine ⟨by simp [h1], by omega, by omega, ?_, fun k hk hk2 => ?_⟩
  · rw [getD_ltI hj] at hq ⊢
    rw [List.take_succ_eq_append_getElem hj, List.filter_append, ← h4, List.take_succ_eq_append_getElem (by simp; omega)]
    simp [hq, List.take_set]
    rw [List.set_eq_of_length_le (by simp; omega)]
  · rw [← h5 k (by omega) hk2, List.getD_eq_getElem?_getD, List.getElem?_set_ne (by omega), ← List.getD_eq_getElem?_getD]
theorem KeptI.skip {q : Int → Bool} {M N : List Int} {j i : Nat} (h : KeptI q M j i N) (hj : j < M.length) (hq : q (M.getD j 0) = true) : KeptI q M (j + 1) i N := by
  obtain ⟨h1, h2, h3, h4, h5⟩ := h
  refine ⟨h1, by omega, by omega, ?_, fun k hk hk2 => h5 k (by omega) hk2⟩
  rw [List.take_succ_eq_append_getElem hj, List.filter_append, ← h4]
  rw [getD_ltI hj] at hq
  simp [hq]
theorem KeptI.done {q : Int → Bool} {M N : List Int} {i : Nat} (h : KeptI q M M.length i N) : N.take i = M.filter (fun h => !q h) ∧ i = (M.filter (fun h => !q h)).length := by
  obtain ⟨h1, h2, h3, h4, _⟩ := h
  rw [List.take_length] at h4
  exact ⟨h4, by rw [← h4]; simp; omega⟩

set_option maxRecDepth 100000 in
set_option maxHeartbeats 2000000 in
theorem indexI_any (q : Int → Bool) (g kb : Nat) (eg : ∀ args w, (callFunc g args).run Try.prog w = .ok (.enter g args) w) (A : Option Addr) (n c : Nat) (L : List Int) (w : World)
    (hp : ∀ (x : Int) (W : World), Chg [] w W → Calls Try.prog g #[.int .i64 x, .pointer (some ⟨kb, 0, none⟩)] W fun e w' => e = .returned (.bool (q x)) ∧ Chg [] W w') (hl : SlK .i64 w A n L) :
    Calls Try.prog 81 #[.slice A n c, .func (.func g) #[] #[.pointer (some ⟨kb, 0, none⟩)]] w fun e w' => e = .returned (.int .i64 (fstI q L)) ∧ Chg [] w w' := by
  have hlen := hl.len; have hle := hl.le
  have HL := Lib.hid hlen; clear hlen
  go_enter Try.func81, Try.ntmps81
  go_wp2
  go_loopg [5, 8] n (fun gg _ s8 wr => ∃ kk : Nat, kk ≤ n ∧ n - kk ≤ gg ∧ s8 = .int .i64 kk ∧ Aside (Chg [] w wr) ∧ Aside (∀ j, j < kk → q (L.getD j 0) = false))
  case atStart => exact ⟨0, Nat.zero_le _, by omega, rfl, Chg.refl _ w, fun j hj => absurd hj (Nat.not_lt_zero _)⟩
  case round =>
    obtain ⟨kk, hkk, hg, rfl, BW, HA⟩ := hrel
    by_cases hlt : kk < n
    · have hltz : (kk : Int) < (n : Int) := by omega
      obtain ⟨b, off, rfl, hb, hc, _⟩ := (hl.chg BW.out).get hlt
      have hcall := hp (L.getD kk 0) wr BW.out
      clear hp
      generalize hy : L.getD kk 0 = y at *
      have B : Aside (L.getD kk 0 = y) := hy
      clear hy
      cases hq : q y with
      | true =>
        rw [hq] at hcall
        go_wp2_with fail
        refine hcall.mono ?_; rintro e w' ⟨rfl, hb'⟩
        go_wp2_with fail
        go_ret
        refine ⟨?_, BW.out.trans hb' (by simp)⟩
        rw [fstI_hit (by have := HL.out; omega) (by rw [B.out]; exact hq) HA.out]; rfl
      | false =>
        rw [hq] at hcall
        go_wp2_with fail
        refine hcall.mono ?_; rintro e w' ⟨rfl, hb'⟩
        go_wp2_with fail
        go_roundg (n - (kk + 1))
        case measure => omega
        case rel =>
          refine ⟨kk + 1, by omega, by omega, by go_num, (show Aside _ from BW.out.trans hb' (by simp)), (show Aside _ from fun j hj => ?_)⟩
          by_cases e : j = kk
          · subst e
            rw [B.out]; exact hq
          · exact HA.out j (by omega)
    · have hltz : ¬ (kk : Int) < (n : Int) := by omega
      have : kk = n := by omega
      subst this
      go_wp2
      go_ret
      refine ⟨?_, BW.out⟩
      rw [fstI_miss (fun j hj => HA.out j (by have := HL.out; omega))]; rfl

set_option maxHeartbeats 4000000 in
set_option maxRecDepth 100000 in
theorem deleteI_row (q : Int → Bool) (pf kb : Nat) (eg : ∀ args w, (callFunc pf args).run Try.prog w = .ok (.enter pf args) w) (g c : Nat) (M : List Int) (tl : List Value) (w : World)
    (hp : ∀ (x : Int) (W : World), Chg [g] w W → Calls Try.prog pf #[.int .i64 x, .pointer (some ⟨kb, 0, none⟩)] W fun e w' => e = .returned (.bool (q x)) ∧ Chg [] W w')
    (h : RowI w g M tl) (hs : SlK .i64 w (some ⟨g, 0, none⟩) M.length M) (hc : M.length ≤ c) (hm : c ≤ 9223372036854775807) (ht : M.length + tl.length = c) :
    Calls Try.prog 70 #[.slice (some ⟨g, 0, none⟩) M.length c, .func (.func pf) #[] #[.pointer (some ⟨kb, 0, none⟩)]] w fun e w' =>
      e = .returned (.slice (some ⟨g, 0, none⟩) (M.filter (fun h => !q h)).length c) ∧ Chg [g] w w' ∧ OwnI w' 3 .i64 (.slice (some ⟨g, 0, none⟩) (M.filter (fun h => !q h)).length c) (M.filter (fun h => !q h)) := by
  have hI := indexI_any q pf kb eg (some ⟨g, 0, none⟩) M.length c M w (fun h W hc => hp h W (hc.weak (by simp))) hs
  clear hs
  by_cases hall : ∀ j, j < M.length → q (M.getD j 0) = false
  · rw [fstI_miss hall] at hI
    have e : M.filter (fun h => !q h) = M := by
      rw [List.filter_eq_self]
      intro x hx
      obtain ⟨j, hj, rfl⟩ := List.getElem_of_mem hx
      have := hall j hj
      rw [getD_ltI hj] at this
      simp [this]
    rw [e]
    have HR := Lib.hid h
    have HT := Lib.hid ht
    clear hp hall e h ht
    generalize hn : M.length = n at *
    have HN := Lib.hid hn
    clear hn
    go_enter Try.func70, Try.ntmps70
    go_wp2_with fail
    refine hI.mono ?_; rintro e w' ⟨rfl, hc1⟩
    go_wp2_with fail
    go_ret
    have hn := HN.out
    subst hn
    refine ⟨rfl, hc1.weak (by simp), ?_⟩
    exact (HR.out.chg hc1 (by simp)).own c hc HT.out hm
  · obtain ⟨k0, hk0, hq0, hmin⟩ : ∃ k, k < M.length ∧ q (M.getD k 0) = true ∧ ∀ j, j < k → q (M.getD j 0) = false := by
      have : ∃ k, k < M.length ∧ q (M.getD k 0) = true := by
        refine Classical.byContradiction fun hne => hall fun j hj => ?_
        cases hx : q (M.getD j 0) with
        | false => rfl
        | true => exact absurd ⟨j, hj, hx⟩ hne
      obtain ⟨k, ⟨hk1, hk2⟩, hleast⟩ := exists_least this
      refine ⟨k, hk1, hk2, fun j hj => ?_⟩
      cases hx : q (M.getD j 0) with
      | false => rfl
      | true => exact absurd (hleast j ⟨by omega, hx⟩) (by omega)
    rw [fstI_hit hk0 hq0 hmin] at hI
    have hK := KeptI.start hk0 hq0 hmin
    have HK := Lib.hid hK
    have hne1 : ((k0 : Int) == -1) = false := beq_eq_false_iff_ne.2 (by omega)
    have HR := Lib.hid h
    have HP := Lib.hid hp
    clear hall hq0 hmin hK h hp
    have hn9 : M.length ≤ 9223372036854775807 := by omega
    generalize hn : M.length = n at *
    have HN := Lib.hid hn
    have HT := Lib.hid ht
    clear hn ht
    go_enter Try.func70, Try.ntmps70
    go_wp2_with fail
    refine hI.mono ?_; rintro e w' ⟨rfl, hc1⟩
    go_wp2_with fail
    go_loopg [5, 6, 7] n (fun gg s5 s6 _ wr => ∃ (i j : Nat) (N : List Int), s5 = .int .i64 i ∧ s6 = .int .i64 j ∧ j ≤ n ∧ n - j ≤ gg ∧ Aside (Chg [g] w wr) ∧ Aside (RowI wr g N tl) ∧ Aside (KeptI q M j i N))
    case atStart => exact ⟨k0, k0 + 1, M, rfl, by go_num, by omega, by omega, hc1.weak (by simp), HR.out.chg hc1 (by simp), HK.out⟩
    case round =>
      obtain ⟨i, j, N, rfl, rfl, hjd, hgg, HC, HW, HKK⟩ := hrel
      have hij := HKK.out.2.1
      have hNl := HKK.out.1
      by_cases hlt : j < n
      · have hltz : (j : Int) < (n : Int) := by omega
        have hjN : j < N.length := by have := HN.out; omega
        have hcj := HW.out.cell hjN
        have hgj := HKK.out.2.2.2.2 j (Nat.le_refl _) (by have := HN.out; omega)
        rw [hgj] at hcj
        clear hgj hNl
        generalize hy : M.getD j 0 = y at *
        have B : Aside (M.getD j 0 = y) := hy
        clear hy
        have hcall := HP.out y wr HC.out
        cases hq : q y with
        | false =>
          rw [hq] at hcall
          go_wp2_with fail
          refine hcall.mono ?_; rintro e w3 ⟨rfl, hc3⟩
          have hrow3 := HW.out.chg hc3 (by simp)
          have hch3 := HC.out.trans hc3 (by simp)
          have d0 := hrow3.cell (show i < N.length by omega)
          have f0 := hrow3.frozen i
          have HR3 := Lib.hid hrow3; have HC3 := Lib.hid hch3
          have HQ := Lib.hid hq
          clear hcj hcall hc3 hrow3 hch3 hq
          go_wp2_with fail
          go_roundg (n - (j + 1))
          case measure => omega
          case rel =>
            have hkk := HKK.out.keep (by have := HN.out; omega) (by rw [B.out]; exact HQ.out)
            rw [B.out] at hkk
            exact ⟨i + 1, j + 1, N.set i y, by go_num, by go_num, by omega, Nat.le_refl _, HC3.out.setCell (p := ⟨g, i, none⟩) (by simp) _, HR3.out.set (by omega) y, hkk⟩
        | true =>
          rw [hq] at hcall
          go_wp2_with fail
          refine hcall.mono ?_; rintro e w3 ⟨rfl, hc3⟩
          have hrow3 := HW.out.chg hc3 (by simp)
          have hch3 := HC.out.trans hc3 (by simp)
          clear hcall hcj
          go_wp2_with fail
          go_roundg (n - (j + 1))
          case measure => omega
          case rel => exact ⟨i, j + 1, N, rfl, by go_num, by omega, Nat.le_refl _, hch3, hrow3, HKK.out.skip (by have := HN.out; omega) (by rw [B.out]; exact hq)⟩
      · obtain rfl : j = n := by omega
        have hltz : ¬ (j : Int) < (j : Int) := by omega
        have hjN : N.length = j := by have := HN.out; omega
        obtain ⟨xs, hx, hcl⟩ := run_clear_I wr g i (j - i) (c - i) (by omega)
          (fun k hk => by rw [HW.out.cell (by omega)]; rfl) (fun k _ => HW.out.frozen _)
        have HX := Lib.hid hx
        have HJ := Lib.hid hjN
        clear hx hjN hNl
        go_wp2_with fail
        go_ret
        have hd := HKK.out
        have hM := HN.out
        rw [← hM] at hd
        obtain ⟨e1, e2⟩ := hd.done
        have hB2 := setCells_V xs i _ _ HW.out (by simp [vals_len, HX.out, HJ.out]; omega)
        have hV : setV (vals .i64 N ++ tl) i xs = vals .i64 (N.take i) ++ (xs ++ tl) := by
          have l1 : (vals .i64 (N.take i)).length = i := by rw [vals_len]; simp; have := HJ.out; omega
          have e : vals .i64 N = vals .i64 (N.take i) ++ vals .i64 (N.drop i) := by rw [← vals_app, List.take_append_drop]
          have l2 : (vals .i64 (N.drop i)).length = xs.length := by rw [vals_len, HX.out]; simp [HJ.out]
          rw [e, setV_mid l1 l2]
        rw [hV, e1] at hB2
        rw [← e2]
        refine ⟨rfl, Chg.setCells (by simp) _ _ _ HC.out, ?_⟩
        have := RowI.own (M := M.filter (fun h => !q h)) (tl := xs ++ tl) hB2 c (by omega) (by have := HT.out; have := HX.out; have := HJ.out; simp; omega) hm
        rwa [← e2] at this

theorem deleteI_any (q : Int → Bool) (pf kb : Nat) (eg : ∀ args w, (callFunc pf args).run Try.prog w = .ok (.enter pf args) w) (v : Value) (L : List Int) (w : World) (hL : ∀ x ∈ L, IntKind.i64.min ≤ x ∧ x ≤ IntKind.i64.max)
    (hp : ∀ (x : Int) (W : World), Chg v.ownBlock.toList w W → Calls Try.prog pf #[.int .i64 x, .pointer (some ⟨kb, 0, none⟩)] W fun e w' => e = .returned (.bool (q x)) ∧ Chg [] W w') (h : OwnI w 3 .i64 v L) :
    Calls Try.prog 70 #[v, .func (.func pf) #[] #[.pointer (some ⟨kb, 0, none⟩)]] w fun e w' =>
      ∃ v', e = .returned v' ∧ Chg v.ownBlock.toList w w' ∧ OwnI w' 3 .i64 v' (L.filter (fun h => !q h)) ∧ v'.ownBlock = v.ownBlock := by
  by_cases h0 : 0 < L.length
  · obtain ⟨g, c, rfl, h1, h2⟩ := h.pos_ h0
    obtain ⟨tl, hr, _, hc1, hc2, hc3⟩ := h.rowI
    refine (deleteI_row q pf kb eg g c L tl w (fun h W hc => hp h W (hc.weak (by simp [Value.ownBlock]))) hr (h.slk hL (by omega)) hc1 hc2 hc3).mono fun e w' ⟨he, hc, ho⟩ => ?_
    exact ⟨_, he, hc.weak (by simp [Value.ownBlock]), ho, rfl⟩
  · obtain rfl : L = [] := List.eq_nil_of_length_eq_zero (by omega)
    obtain ⟨A, c, rfl⟩ := h.form
    have hI := indexI_any q pf kb eg A 0 c [] w (fun h W hc => hp h W (hc.weak (by simp))) ⟨rfl, by omega, by simp, fun h => absurd h (by omega)⟩
    have e0 : fstI q [] = -1 := rfl
    rw [e0] at hI
    have HH := Lib.hid h
    clear hp h h0
    simp only [List.length_nil, List.filter_nil]
    go_enter Try.func70, Try.ntmps70
    go_wp2_with fail
    refine hI.mono ?_; rintro e w' ⟨rfl, hc1⟩
    go_wp2_with fail
    go_ret
    exact ⟨_, rfl, hc1.weak (by simp), HH.out.chg hc1 (by simp), rfl⟩

end Go.Proofs.Ytpmfooeifhhfkaa
