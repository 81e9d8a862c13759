/-
  The contract of slices.DeleteFunc at hits.
-/
import Derived.Test.YtikdoldmhlbklaaTlbD
namespace Go.Proofs.Ytikdoldmhlbklaa
open Go.RowKit

/-- what stands behind those that are struck moves to the left: M, of which the first j have been looked at; i of them are left -/
def KeptH (q : Ht → Bool) (M : List Ht) (j i : Nat) (N : List Ht) : Prop :=
  N.length = M.length ∧ i < j ∧ j ≤ M.length ∧ N.take i = (M.take j).filter (fun h => !q h) ∧ ∀ k, j ≤ k → k < M.length → N.getD k default = M.getD k default
theorem getD_lt {L : List Ht} {k : Nat} (h : k < L.length) : L.getD k default = L[k] := by simp [List.getD_eq_getElem?_getD, List.getElem?_eq_getElem h]
theorem KeptH.start {q : Ht → Bool} {M : List Ht} {k : Nat} (hk : k < M.length) (h1 : q (M.getD k default) = true) (h0 : ∀ j, j < k → q (M.getD j default) = false) : KeptH q M (k + 1) k M := by
  refine ⟨rfl, by omega, by omega, ?_, fun _ _ _ => rfl⟩
  rw [List.take_succ_eq_append_getElem hk, List.filter_append]
  rw [getD_lt hk] at h1
  have e : (M.take k).filter (fun h => !q h) = M.take k := by
    rw [List.filter_eq_self]
    intro x hx
    obtain ⟨j, hj, rfl⟩ := List.getElem_of_mem hx
    have hj' : j < k := by simp at hj; omega
    have := h0 j hj'
    rw [getD_lt (by omega)] at this
    rw [List.getElem_take, this]; rfl
  rw [e]; simp [h1]
theorem KeptH.keep {q : Ht → Bool} {M N : List Ht} {j i : Nat} (h : KeptH q M j i N) (hj : j < M.length) (hq : q (M.getD j default) = false) : KeptH q M (j + 1) (i + 1) (N.set i (M.getD j default)) := by
  obtain ⟨h1, h2, h3, h4, h5⟩ := h
  refine ⟨by simp [h1], by omega, by omega, ?_, fun k hk hk2 => ?_⟩
  · rw [getD_lt hj] at hq ⊢
    rw [List.take_succ_eq_append_getElem hj, List.filter_append, ← h4, List.take_succ_eq_append_getElem (by simp; omega)]
    simp [hq, List.take_set]
    rw [List.set_eq_of_length_le (by simp; omega)]
  · rw [← h5 k (by omega) hk2, List.getD_eq_getElem?_getD, List.getElem?_set_ne (by omega), ← List.getD_eq_getElem?_getD]
theorem KeptH.skip {q : Ht → Bool} {M N : List Ht} {j i : Nat} (h : KeptH q M j i N) (hj : j < M.length) (hq : q (M.getD j default) = true) : KeptH q M (j + 1) i N := by
  obtain ⟨h1, h2, h3, h4, h5⟩ := h
  refine ⟨h1, by omega, by omega, ?_, fun k hk hk2 => h5 k (by omega) hk2⟩
  rw [List.take_succ_eq_append_getElem hj, List.filter_append, ← h4]
  rw [getD_lt hj] at hq
  simp [hq]
theorem KeptH.done {q : Ht → Bool} {M N : List Ht} {i : Nat} (h : KeptH q M M.length i N) : N.take i = M.filter (fun h => !q h) ∧ i = (M.filter (fun h => !q h)).length := by
  obtain ⟨h1, h2, h3, h4, _⟩ := h
  rw [List.take_length] at h4
  exact ⟨h4, by rw [← h4]; simp; omega⟩

theorem setV_mid {a b c xs : List Value} {o : Nat} (ha : a.length = o) (hb : b.length = xs.length) : setV ((a ++ b) ++ c) o xs = a ++ (xs ++ c) := by
  subst ha
  unfold setV
  rw [← hb, ← List.length_append, List.drop_left, List.append_assoc a b c, List.take_left, List.append_assoc]

set_option maxHeartbeats 4000000 in
set_option maxRecDepth 100000 in
theorem deleteFunc_row (q : Ht → Bool) (pf kb : Nat) (eg : ∀ args w, (callFunc pf args).run Try.prog w = .ok (.enter pf args) w) (g c : Nat) (M : List Ht) (tl : List Value) (w : World)
    (hp : ∀ (h : Ht) (W : World), Chg [g] w W → Calls Try.prog pf #[h.v, .pointer (some ⟨kb, 0, none⟩)] W fun e w' => e = .returned (.bool (q h)) ∧ Chg [] W w')
    (h : RowH w g M tl) (hc : M.length ≤ c) (hm : c ≤ 9223372036854775807) (ht : M.length * 7 + tl.length = c * 7) :
    Calls Try.prog 32 #[.slice (some ⟨g, 0, none⟩) M.length c, .func (.func pf) #[] #[.pointer (some ⟨kb, 0, none⟩)]] w fun e w' =>
      e = .returned (.slice (some ⟨g, 0, none⟩) (M.filter (fun h => !q h)).length c) ∧ Chg [g] w w' ∧ OwnH w' (.slice (some ⟨g, 0, none⟩) (M.filter (fun h => !q h)).length c) (M.filter (fun h => !q h)) := by
  have hI := indexFunc_any q pf kb eg (some ⟨g, 0, none⟩) M.length c M w (fun h W hc => hp h W (hc.weak (by simp))) (h.own_all c ht hm).slh
  by_cases hall : ∀ j, j < M.length → q (M.getD j default) = false
  · rw [first_miss hall] at hI
    have e : M.filter (fun h => !q h) = M := by
      rw [List.filter_eq_self]
      intro x hx
      obtain ⟨j, hj, rfl⟩ := List.getElem_of_mem hx
      have := hall j hj
      rw [getD_lt hj] at this
      simp [this]
    rw [e]
    have HR := Lib.hid h
    have HT := Lib.hid ht
    clear hp hall e h ht
    generalize hn : M.length = n at *
    have HN := Lib.hid hn
    clear hn
    go_enter Try.func32, Try.ntmps32
    go_wp2_with fail
    refine hI.mono ?_; rintro e w' ⟨rfl, hc1⟩
    go_wp2_with fail
    go_ret
    have hn := HN.out
    subst hn
    refine ⟨rfl, hc1.weak (by simp), ?_⟩
    exact (HR.out.chg hc1 (by simp)).own_all c HT.out hm
  · obtain ⟨k0, hk0, hq0, hmin⟩ : ∃ k, k < M.length ∧ q (M.getD k default) = true ∧ ∀ j, j < k → q (M.getD j default) = false := by
      have : ∃ k, k < M.length ∧ q (M.getD k default) = true := by
        refine Classical.byContradiction fun hne => hall fun j hj => ?_
        cases hx : q (M.getD j default) with
        | false => rfl
        | true => exact absurd ⟨j, hj, hx⟩ hne
      obtain ⟨k, ⟨hk1, hk2⟩, hleast⟩ := exists_least this
      refine ⟨k, hk1, hk2, fun j hj => ?_⟩
      cases hx : q (M.getD j default) with
      | false => rfl
      | true => exact absurd (hleast j ⟨by omega, hx⟩) (by omega)
    rw [first_hit hk0 hq0 hmin] at hI
    have hK := KeptH.start hk0 hq0 hmin
    have HK := Lib.hid hK
    have hne1 : ((k0 : Int) == -1) = false := beq_eq_false_iff_ne.2 (by omega)
    have HR := Lib.hid h
    have HP := Lib.hid hp
    clear hall hq0 hmin hK h hp
    have hn9 : M.length ≤ 9223372036854775807 := by omega
    generalize hn : M.length = n at *
    have HN := Lib.hid hn
    have HT := Lib.hid ht
    clear hn ht
    go_enter Try.func32, Try.ntmps32
    go_wp2_with fail
    refine hI.mono ?_; rintro e w' ⟨rfl, hc1⟩
    go_wp2_with fail
    go_loopg [5, 6, 7] n (fun gg s5 s6 _ wr => ∃ (i j : Nat) (N : List Ht), s5 = .int .i64 i ∧ s6 = .int .i64 j ∧ j ≤ n ∧ n - j ≤ gg ∧ Aside (Chg [g] w wr) ∧ Aside (RowH wr g N tl) ∧ Aside (KeptH q M j i N))
    case atStart => exact ⟨k0, k0 + 1, M, rfl, by go_num, by omega, by omega, hc1.weak (by simp), HR.out.chg hc1 (by simp), HK.out⟩
    case round =>
      obtain ⟨i, j, N, rfl, rfl, hjd, hgg, HC, HW, HKK⟩ := hrel
      have hij := HKK.out.2.1
      have hNl := HKK.out.1
      by_cases hlt : j < n
      · have hltz : (j : Int) < (n : Int) := by omega
        have hjN : j < N.length := by have := HN.out; omega
        have hcj := HW.out.hit hjN
        have hgj := HKK.out.2.2.2.2 j (Nat.le_refl _) (by have := HN.out; omega)
        rw [hgj] at hcj
        obtain ⟨c0, c1, c2, c3, c4, c5, c6⟩ := hcj
        have hg := HW.out.lt
        clear hgj hNl
        generalize hy : M.getD j default = y at *
        have B : Aside (M.getD j default = y) := hy
        clear hy
        have hcall := HP.out y (wr.alloc (.cells #[.int .i64 y.a, .int .i64 y.p, .int .i64 y.f, .bool y.w, .bool y.u, .bool y.x, .bool y.d] 31)) (HC.out.alloc _)
        unfold Ht.v at hcall
        have hbx := Blk.new wr 31 #[.int .i64 y.a, .int .i64 y.p, .int .i64 y.f, .bool y.w, .bool y.u, .bool y.x, .bool y.d]
        have hrow1 := HW.out.chg ((Chg.refl [] wr).alloc (.cells #[.int .i64 y.a, .int .i64 y.p, .int .i64 y.f, .bool y.w, .bool y.u, .bool y.x, .bool y.d] 31)) (by simp)
        have hc0 := HC.out.alloc (.cells #[.int .i64 y.a, .int .i64 y.p, .int .i64 y.f, .bool y.w, .bool y.u, .bool y.x, .bool y.d] 31)
        cases hq : q y with
        | false =>
          rw [hq] at hcall
          go_wp2_with fail
          refine hcall.mono ?_; rintro e w3 ⟨rfl, hc3⟩
          have hbx3 := hbx.chg_ hc3 (by simp)
          have hrow3 := hrow1.chg hc3 (by simp)
          have hch3 := hc0.trans hc3 (by simp)
          have hci := hrow3.hit (show i < N.length by omega)
          obtain ⟨d0, d1, d2, d3, d4, d5, d6⟩ := hci
          have f0 := hrow3.frozen (i * 7); have f1 := hrow3.frozen (i * 7 + 1); have f2 := hrow3.frozen (i * 7 + 2); have f3 := hrow3.frozen (i * 7 + 3); have f4 := hrow3.frozen (i * 7 + 4); have f5 := hrow3.frozen (i * 7 + 5); have f6 := hrow3.frozen (i * 7 + 6)
          have x0 := hbx3.cell 0; have x1 := hbx3.cell 1; have x2 := hbx3.cell 2; have x3 := hbx3.cell 3; have x4 := hbx3.cell 4; have x5 := hbx3.cell 5; have x6 := hbx3.cell 6
          simp only [List.getElem?_toArray, List.getElem?_cons_zero, List.getElem?_cons_succ] at x0 x1 x2 x3 x4 x5 x6
          have HR3 := Lib.hid hrow3; have HC3 := Lib.hid hch3
          have HQ := Lib.hid hq
          clear c0 c1 c2 c3 c4 c5 c6 hcall hbx hrow1 hc0 hc3 hbx3 hrow3 hch3 hq
          generalize wr.heap.size = z at *
          go_wp2_with fail
          go_roundg (n - (j + 1))
          case measure => omega
          case rel =>
            have hkk := HKK.out.keep (by have := HN.out; omega) (by rw [B.out]; exact HQ.out)
            rw [B.out] at hkk
            exact ⟨i + 1, j + 1, N.set i y, by go_num, by go_num, by omega, Nat.le_refl _, Chg.setCells (S := [g]) (by simp) y.cl (i * 7) _ HC3.out, HR3.out.set (by omega) y, hkk⟩
        | true =>
          rw [hq] at hcall
          go_wp2_with fail
          refine hcall.mono ?_; rintro e w3 ⟨rfl, hc3⟩
          have hrow3 := hrow1.chg hc3 (by simp)
          have hch3 := hc0.trans hc3 (by simp)
          clear hcall c0 c1 c2 c3 c4 c5 c6
          go_wp2_with fail
          go_roundg (n - (j + 1))
          case measure => omega
          case rel => exact ⟨i, j + 1, N, rfl, by go_num, by omega, Nat.le_refl _, hch3, hrow3, HKK.out.skip (by have := HN.out; omega) (by rw [B.out]; exact hq)⟩
      · obtain rfl : j = n := by omega
        have hltz : ¬ (j : Int) < (j : Int) := by omega
        have hjN : N.length = j := by have := HN.out; omega
        obtain ⟨xs, hx, hcl⟩ := run_clear_H wr g (i * 7) (j - i) (c - i) (by omega)
          (fun k hk => by rw [Blk.cell (t := 31) HW.out, List.getElem?_toArray, List.getElem?_append_left (by rw [encH_len]; omega), List.getElem?_eq_getElem (by rw [encH_len]; omega)]; rfl) (fun k _ => HW.out.frozen _)
        have HX := Lib.hid hx
        have HJ := Lib.hid hjN
        clear hx hjN hNl
        go_wp2_with fail
        go_ret
        have hd := HKK.out
        have hM := HN.out
        rw [← hM] at hd
        obtain ⟨e1, e2⟩ := hd.done
        have hB2 := setCells_V xs (i * 7) _ _ HW.out (by simp [encH_len, HX.out, HJ.out]; omega)
        have hV : setV (encH N ++ tl) (i * 7) xs = encH (N.take i) ++ (xs ++ tl) := by
          have l1 : (encH (N.take i)).length = i * 7 := by rw [encH_len]; simp; have := HJ.out; omega
          have e : encH N = encH (N.take i) ++ encH (N.drop i) := by rw [← encH_app, List.take_append_drop]
          have l2 : (encH (N.drop i)).length = xs.length := by rw [encH_len, HX.out]; simp [HJ.out]
          rw [e, setV_mid l1 l2]
        rw [hV, e1] at hB2
        rw [← e2]
        refine ⟨rfl, Chg.setCells (by simp) _ _ _ HC.out, ?_⟩
        have := RowH.own_all (M := M.filter (fun h => !q h)) (tl := xs ++ tl) hB2 c (by have := HT.out; have := HX.out; have := HJ.out; simp; omega) hm
        rwa [← e2] at this

theorem deleteFunc_any (q : Ht → Bool) (pf kb : Nat) (eg : ∀ args w, (callFunc pf args).run Try.prog w = .ok (.enter pf args) w) (v : Value) (L : List Ht) (w : World)
    (hp : ∀ (h : Ht) (W : World), Chg v.ownBlock.toList w W → Calls Try.prog pf #[h.v, .pointer (some ⟨kb, 0, none⟩)] W fun e w' => e = .returned (.bool (q h)) ∧ Chg [] W w') (h : OwnH w v L) :
    Calls Try.prog 32 #[v, .func (.func pf) #[] #[.pointer (some ⟨kb, 0, none⟩)]] w fun e w' =>
      ∃ v', e = .returned v' ∧ Chg v.ownBlock.toList w w' ∧ OwnH w' v' (L.filter (fun h => !q h)) ∧ v'.ownBlock = v.ownBlock := by
  obtain ⟨A, c, rfl, h1, h2⟩ := h.form
  cases A with
  | none =>
    obtain ⟨e1, rfl⟩ := h1 rfl
    obtain rfl : L = [] := List.eq_nil_of_length_eq_zero e1
    have hI := indexFunc_any q pf kb eg none 0 0 [] w (fun h W hc => hp h W (hc.weak (by simp))) h.slh
    clear hp h h1 h2 e1
    have e0 : firstI q [] = -1 := rfl
    rw [e0] at hI
    simp only [List.length_nil, List.filter_nil]
    go_enter Try.func32, Try.ntmps32
    go_wp2_with fail
    refine hI.mono ?_; rintro e w' ⟨rfl, hc1⟩
    go_wp2_with fail
    go_ret
    exact ⟨_, rfl, hc1.weak (by simp), OwnH.none_ _, rfl⟩
  | some a =>
    obtain ⟨g, rfl, hg⟩ := h2 a rfl
    obtain ⟨tl, hr, _, hc1, hc2, hc3⟩ := h.row
    refine (deleteFunc_row q pf kb eg g c L tl w (fun h W hc => hp h W (hc.weak (by simp [Value.ownBlock]))) hr hc1 hc2 hc3).mono fun e w' ⟨he, hc, ho⟩ => ?_
    exact ⟨_, he, hc.weak (by simp [Value.ownBlock]), ho, rfl⟩

end Go.Proofs.Ytikdoldmhlbklaa
