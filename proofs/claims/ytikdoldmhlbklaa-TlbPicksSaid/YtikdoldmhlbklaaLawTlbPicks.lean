/-
  TlbPicks: the walk.
-/
import Derived.Test.YtikdoldmhlbklaaLawTlbWithin
namespace Go.Proofs.Ytikdoldmhlbklaa
open Go.RowKit Go.Shelf

theorem pick_drop {N : List Ht} {ix k : Nat} (hix : ix < N.length) (hk : k ≤ N.length - 1) (h : k = N.length - 1 ∨ (N.eraseIdx ix).getD k default ≠ N.getD k default) : (N.eraseIdx ix).drop k = N.drop (k + 1) := by
  have hki : ix ≤ k := by
    rcases Nat.lt_or_ge k ix with hlt | hge
    · rcases h with h | h
      · omega
      · exact absurd (by rw [List.getD_eq_getElem?_getD, List.getElem?_eraseIdx_of_lt hlt, ← List.getD_eq_getElem?_getD]) h
    · exact hge
  have l1 : (N.take ix).length = ix := by simp; omega
  rw [List.eraseIdx_eq_take_drop_succ, List.drop_append, l1, List.drop_of_length_le (by omega), List.nil_append, List.drop_drop]
  congr 1; omega

set_option maxRecDepth 100000 in
set_option maxHeartbeats 8000000 in
theorem TlbPicks_walk (A : Option Addr) (len c : Nat) (l : List Ht) (B : Option Addr) (ln d : Nat) (xs : List Int) (w0 : World) (hl : SlH w0 A len l) (hx : SlK .i64 w0 B ln xs) :
    Calls Try.prog 6 #[.slice A len c, .slice B ln d] w0 fun e w' => e = .returned (.bool true) ∧ Chg [] w0 w' := by
  have hle := hl.le
  have hle2 := hx.le
  by_cases hbig : 300 < len ∨ 300 < ln
  · by_cases hb1 : 300 < len
    · clear hbig
      go_enter Try.func6, Try.ntmps6
      go_wp2_with fail
      refine (Thead_any _).mono ?_; rintro e w1 ⟨rfl, hc1⟩
      go_wp2_with fail
      refine (TNew_b w0 64 _ (by decide) (by decide) hc1).mono ?_; rintro e w2 ⟨rfl, h2, _⟩
      go_wp2_with fail
      go_ret
      exact ⟨rfl, h2.chg0⟩
    · have hb2 : 300 < ln := by omega
      clear hbig
      go_enter Try.func6, Try.ntmps6
      go_wp2_with fail
      refine (Thead_any _).mono ?_; rintro e w1 ⟨rfl, hc1⟩
      go_wp2_with fail
      refine (TNew_b w0 64 _ (by decide) (by decide) hc1).mono ?_; rintro e w2 ⟨rfl, h2, _⟩
      go_wp2_with fail
      go_ret
      exact ⟨rfl, h2.chg0⟩
  · have hb1 : ¬ 300 < len := by omega
    have hb2 : ¬ 300 < ln := by omega
    clear hbig
    go_enter Try.func6, Try.ntmps6
    go_wp2_with fail
    refine (Thead_any _).mono ?_; rintro e w1 ⟨rfl, hc1⟩
    go_wp2_with fail
    refine (TNew_b w0 64 _ (by decide) (by decide) hc1).mono ?_; rintro e w2 ⟨rfl, h2, _⟩
    generalize w1.heap.size = p at *
    clear hc1
    go_wp2_with fail
    have HLEN := Lib.hid hl.len
    go_loopg [7] len (fun gg s7 wr => ∃ k : Nat, k ≤ len ∧ len - k ≤ gg ∧ s7 = .int .i64 k ∧ Aside (TB w0 [] wr p 64 (putsT 64 l k)))
    case atStart => exact ⟨0, by omega, by omega, rfl, by rw [putsT_zero]; exact h2⟩
    case round =>
      obtain ⟨k, hk, hg, rfl, HT⟩ := hrel
      clear h2
      by_cases hlt : k < len
      · have hltz : (k : Int) < (len : Int) := by omega
        obtain ⟨b, off, rfl, hb, hc⟩ := (hl.new HT.out.chg0).get hlt
        obtain ⟨c0, c1, c2, c3, c4, c5, c6⟩ := hc
        have hP := TPut_b (l.getD k default) HT.out
        unfold Ht.v at hP
        rw [← putsT_succ 64 l (by rw [HLEN.out]; exact hlt)] at hP
        generalize l.getD k default = y at *
        go_wp2_with fail
        refine hP.mono ?_; rintro e w3 ⟨rfl, h3, _⟩
        go_wp2_with fail
        go_roundg (len - (k + 1))
        case measure => omega
        case rel => exact ⟨k + 1, by omega, by omega, by go_num, h3⟩
      · have hltz : ¬ (k : Int) < (len : Int) := by omega
        clear hl hlt
        have hT := HT.out
        clear HT hg HLEN
        generalize putsT 64 l k = N0 at *
        go_wp2_with fail
        go_loopg [8] ln (fun gg s8 wr => ∃ (j : Nat) (N : List Ht), j ≤ ln ∧ ln - j ≤ gg ∧ s8 = .int .i64 j ∧ Aside (TB w0 [] wr p 64 N))
        case atStart => exact ⟨0, N0, by omega, by omega, rfl, hT⟩
        case round =>
          obtain ⟨j, N, hj, hgj, rfl, HT⟩ := hrel
          clear hT
          by_cases hlt : j < ln
          · have hltz : (j : Int) < (ln : Int) := by omega
            go_wp2_with fail
            refine (TList_b HT.out).mono ?_; rintro e w3 ⟨A3, c3, G, rfl, h3, hc3, ho3, hG3, _⟩
            rw [List.append_nil] at h3
            have hs3 := ho3.slh
            have hle3 := hs3.le
            have hA3 := ho3.form
            have hrow3 : ∀ g, A3 = some ⟨g, 0, none⟩ → N.length ≤ c3 ∧ c3 ≤ 9223372036854775807 := fun g e => by
              subst e
              obtain ⟨tl, _, _, h1, h2, _⟩ := ho3.row
              exact ⟨h1, h2⟩
            have hN64 := h3.le
            obtain ⟨b, off, rfl, hb, hcx, hx1, hx2⟩ := (hx.chg h3.chg0).get hlt
            generalize xs.getD j 0 = x at *
            clear hc3 ho3 HT
            have hP := TPick_b x ⟨hx1, hx2⟩ h3
            by_cases h0 : N.length = 0
            · obtain rfl : N = [] := List.eq_nil_of_length_eq_zero h0
              rw [show pickT [] x = [] from rfl] at hP
              clear h0
              go_wp2_with fail
              refine hP.mono ?_; rintro e w4 ⟨rfl, h4, _⟩
              go_wp2_with fail
              refine (TList_b h4).mono ?_; rintro e w5 ⟨A5, c5, G5, rfl, h5, hc5, ho5, hG5, _⟩
              clear h3 h4 hP hc5 ho5 hG5 hs3 hA3
              go_wp2_with fail
              go_loopg [12] 0 (fun gg s12 wr => s12 = .int .i64 0 ∧ Aside (TB w0 [] wr p 64 []))
              case atStart => exact ⟨rfl, h5.less (by simp)⟩
              case round =>
                obtain ⟨rfl, HT⟩ := hrel
                go_wp2_with fail
                go_quiet (fail)
                have hT7 := HT.out.new ((Chg.refl [] wr).drewN nq)
                generalize wr.drewN nq = w7 at *
                go_wp2_with fail
                refine wp_region_cls (by kernel_rfl) (by kernel_rfl) ?_
                repeat (go_big_quiet_step (fail "no call"))
                refine wpQuiet_nil ?_
                rintro _ ⟨nq2, rfl⟩
                go_wp2_with fail
                go_roundg (ln - (j + 1))
                case measure => omega
                case rel => exact ⟨j + 1, [], by omega, by omega, by go_num, hT7.new nq2.ok⟩
            · have e0 : (!N.isEmpty) = true := by simp; intro e; subst e; simp at h0
              rw [e0] at hP
              have hix := (pickI_spec N.length x (by omega)).2.1
              have hMl : (pickT N x).length = N.length - 1 := by unfold pickT; exact List.length_eraseIdx_of_lt hix
              have HPD := Lib.hid (fun k h1 h2 => pick_drop (N := N) (ix := pickI N.length x) (k := k) hix h1 h2)
              have HM := Lib.hid (show pickT N x = N.eraseIdx (pickI N.length x) from rfl)
              rw [← HM.out] at HPD
              clear HM e0
              generalize pickT N x = M at *
              obtain ⟨s, hs⟩ : ∃ s, N.length = s + 1 := ⟨N.length - 1, by omega⟩
              have HNL := Lib.hid hs
              have HML := Lib.hid (show M.length = s by omega)
              obtain ⟨A3', c3', he3, _, hA3'⟩ := hA3
              injection he3 with he3 _ he3c
              subst he3; subst he3c
              obtain ⟨g3, hg3, _⟩ : ∃ g, A3 = some ⟨g, 0, none⟩ ∧ True := by
                obtain ⟨b, off, e, _, _⟩ := hs3.at_ (by omega)
                obtain ⟨g, e2, _⟩ := hA3' _ e
                exact ⟨g, by rw [e, e2], trivial⟩
              subst hg3
              obtain ⟨hcap3, hmax3⟩ := hrow3 g3 rfl
              have hG3m := hG3 g3 0 rfl
              clear hA3' hrow3 hMl h0
              rw [hs] at hs3 hcap3 hN64 hle3
              go_wp2_with fail
              refine hP.mono ?_; rintro e w4 ⟨rfl, h4, hf4⟩
              have hs4 := hf4.slh hs3 (fun b off e => by injection e with e; injection e with e; subst e; exact hG3m)
              clear h3 hP hf4 hs3
              go_wp2_with fail
              refine (TList_b h4).mono ?_; rintro e w5 ⟨A5, c5, G5, rfl, h5, hc5, ho5, hG5, _⟩
              have hs5 := ho5.slh
              have hN5 := hs4.new hc5
              have hT5 := h5.less (G := []) (by simp)
              obtain ⟨A5', c5', he5, hnil5, hA5'⟩ := ho5.form
              injection he5 with he5 _ he5c
              subst he5; subst he5c
              have hrow5 : ∀ g, A5 = some ⟨g, 0, none⟩ → M.length ≤ c5 ∧ c5 ≤ 9223372036854775807 := fun g e => by
                subst e
                obtain ⟨tl, _, _, h1, h2, _⟩ := ho5.row
                exact ⟨h1, h2⟩
              clear h4 hs4 hc5 ho5 hG5 h5
              rw [HML.out] at hs5 hrow5 hnil5 ⊢
              have hif : (if 0 < s then (s : Int) else 0) = (s : Int) := by split <;> omega
              cases A5 with
              | none =>
                obtain ⟨hs0, rfl⟩ := hnil5 rfl
                have hM0 := HML.out
                subst hs0
                clear hnil5 hA5' hrow5 hM0
                go_wp2_with fail
                go_loopg [12] 0 (fun gg s12 wr => ∃ k : Nat, k ≤ 0 ∧ 0 - k ≤ gg ∧ s12 = .int .i64 k ∧ Aside (Chg [] w5 wr))
                case atStart => exact ⟨0, by omega, by omega, rfl, Chg.refl _ _⟩
                case round =>
                  obtain ⟨k, hk, hgk, rfl, HC⟩ := hrel
                  obtain rfl : k = 0 := by omega
                  have hkd := Lib.hid (HPD.out 0 (by omega) (.inl (by omega)))
                  go_wp2_with fail
                  go_quiet (fail)
                  have HC := Lib.hid (HC.out.drewN nq)
                  generalize wr.drewN nq = wr at *
                  go_wp2_with fail
                  have hsA : Hid (SlH w5 none 0 (M.drop 0)) := hs5
                  obtain ⟨Ab, hAb, hsB⟩ : ∃ Ab : Addr, (if c3 = 1 then some (⟨g3, 0, none⟩ : Addr) else some ⟨g3, 7, none⟩) = some Ab ∧ Hid (SlH w5 (some Ab) 0 (N.drop (0 + 1))) := by
                    by_cases e : c3 = 1
                    · exact ⟨⟨g3, 0, none⟩, by simp [e], hN5.drop (d := 0 + 1) (by omega) (.inl rfl)⟩
                    · exact ⟨⟨g3, 7, none⟩, by simp [e], hN5.drop (d := 0 + 1) (by omega) (.inl rfl)⟩
                  have hk3 : 1 ≤ c3 := by omega
                  have hSm := fun nq : Cls wr => TSame_at none (some Ab) 0 0 0 (c3 - 1) (M.drop 0) (N.drop (0 + 1)) nq.val (hsA.out.new (HC.out.trans nq.ok (by simp))) (hsB.out.new (HC.out.trans nq.ok (by simp)))
                  simp only [show eqHs (M.drop 0) (N.drop (0 + 1)) = true by rw [hkd.out]; exact eqHs_self _] at hSm
                  have hTr := hT5.new HC.out
                  refine wp_region_cls (by kernel_rfl) (by kernel_rfl) ?_
                  repeat (go_big_quiet_step (first | (go_at_call 25; with_reducible exact Calls.cls (hSm _))))
                  refine wpQuiet_nil ?_
                  rintro _ ⟨nq2, rfl⟩
                  go_wp2_with fail
                  go_roundg (ln - (j + 1))
                  case measure => omega
                  case rel => exact ⟨j + 1, M, by omega, by omega, by go_num, hTr.new nq2.ok⟩

              | some a5 =>
                obtain ⟨g5, rfl, _⟩ := hA5' a5 rfl
                obtain ⟨hcap5, hmax5⟩ := hrow5 g5 rfl
                clear hnil5 hA5' hrow5
                go_wp2_with fail
                go_loopg [12] s (fun gg s12 wr => ∃ k : Nat, k ≤ s ∧ s - k ≤ gg ∧ s12 = .int .i64 k ∧ Aside (Chg [] w5 wr))
                case atStart => exact ⟨0, by omega, by omega, rfl, Chg.refl _ _⟩
                case round =>
                  obtain ⟨k, hk, hgk, rfl, HC⟩ := hrel
                  by_cases hks : k < s
                  · have hkz : (k : Int) < (s : Int) := by omega
                    have hkz1 : (k : Int) < ((s : Int) + 1) := by omega
                    have hm1 := (hs5.new HC.out).at_ (by omega)
                    obtain ⟨b5, o5, e5, _, hm1⟩ := hm1
                    injection e5 with e5; injection e5 with e51 e52
                    subst e51; subst e52
                    have hmh := hm1 k (M.getD k default) (by rw [List.getD_eq_getElem?_getD, List.getElem?_eq_getElem (by have := HML.out; omega)]; rfl)
                    have hn1 := (hN5.new HC.out).at_ (by omega)
                    obtain ⟨b3, o3, e3, _, hn1⟩ := hn1
                    injection e3 with e3; injection e3 with e31 e32
                    subst e31; subst e32
                    have hnh := hn1 k (N.getD k default) (by rw [List.getD_eq_getElem?_getD, List.getElem?_eq_getElem (by have := HNL.out; omega)]; rfl)
                    obtain ⟨c0, c1, c2, c3x, c4, c5x, c6⟩ := hmh
                    obtain ⟨d0, d1, d2, d3, d4, d5, d6⟩ := hnh
                    simp only [Nat.zero_add] at c0 c1 c2 c3x c4 c5x c6 d0 d1 d2 d3 d4 d5 d6
                    have hq := fun w0 => run_eqH (M.getD k default) (N.getD k default) w0
                    unfold Ht.v at hq
                    have HI := Lib.hid (Ht.eqb_iff (M.getD k default) (N.getD k default))
                    have hkd0 := Lib.hid (fun h => HPD.out k (by have := HNL.out; omega) (.inr h))
                    generalize M.getD k default = y at *
                    generalize N.getD k default = z at *
                    generalize y.eqb z = r at *
                    clear hm1 hn1
                    cases r with
                    | true =>
                      go_wp2_with fail
                      go_quiet (fail)
                      go_wp2_with fail
                      go_roundg (s - (k + 1))
                      case measure => omega
                      case rel => exact ⟨k + 1, by omega, by omega, by go_num, HC.out.drewN nq⟩
                    | false =>
                      have hkd := Lib.hid (hkd0.out (fun e => by have := HI.out.2 e; cases this))
                      go_wp2_with fail
                      go_quiet (fail)
                      have HC := Lib.hid (HC.out.drewN nq)
                      clear c0 c1 c2 c3x c4 c5x c6 d0 d1 d2 d3 d4 d5 d6
                      generalize wr.drewN nq = wr at *
                      go_wp2_with fail
                      obtain ⟨Aa, hAa, hsA⟩ : ∃ Aa : Addr, (if c5 = k then some (⟨g5, 0, none⟩ : Addr) else some ⟨g5, k * 7, none⟩) = some Aa ∧ Hid (SlH w5 (some Aa) (s - k) (M.drop k)) := by
                        by_cases e : c5 = k
                        · exact ⟨⟨g5, 0, none⟩, by simp [e], hs5.drop (by omega) (.inl (by omega))⟩
                        · exact ⟨⟨g5, k * 7, none⟩, by simp [e], hs5.drop (by omega) (.inr (by simp))⟩
                      have hk5 : k ≤ c5 := by omega
                      have hne5 : ¬ c5 = k := by omega
                      rw [if_neg hne5] at hAa
                      injection hAa with hAa
                      subst hAa
                      obtain ⟨Ab, hAb, hsB⟩ : ∃ Ab : Addr, (if c3 = k + 1 then some (⟨g3, 0, none⟩ : Addr) else some ⟨g3, (k + 1) * 7, none⟩) = some Ab ∧ Hid (SlH w5 (some Ab) (s - k) (N.drop (k + 1))) := by
                        rw [← Nat.add_sub_add_right s 1 k]
                        by_cases e : c3 = k + 1
                        · exact ⟨⟨g3, 0, none⟩, by simp [e], hN5.drop (by omega) (.inl (by omega))⟩
                        · exact ⟨⟨g3, (k + 1) * 7, none⟩, by simp [e], hN5.drop (by omega) (.inr (by simp))⟩
                      have hk3 : k + 1 ≤ c3 := by omega
                      have hk3s : k + 1 ≤ s + 1 := by omega
                      have hp2 : ((k : Int) + 1).toNat = k + 1 := by omega
                      have hSm := fun nq : Cls wr => TSame_at (some ⟨g5, k * 7, none⟩) (some Ab) (s - k) (s - k) (c5 - k) (c3 - (k + 1)) (M.drop k) (N.drop (k + 1)) nq.val (hsA.out.new (HC.out.trans nq.ok (by simp))) (hsB.out.new (HC.out.trans nq.ok (by simp)))
                      simp only [show eqHs (M.drop k) (N.drop (k + 1)) = true by rw [hkd.out]; exact eqHs_self _] at hSm
                      have hTr := hT5.new HC.out
                      refine wp_region_cls (by kernel_rfl) (by kernel_rfl) ?_
                      repeat (go_big_quiet_step (first | (go_at_call 25; with_reducible exact Calls.cls (hSm _))))
                      refine wpQuiet_nil ?_
                      rintro _ ⟨nq2, rfl⟩
                      go_wp2_with fail
                      go_roundg (ln - (j + 1))
                      case measure => omega
                      case rel => exact ⟨j + 1, M, by omega, by omega, by go_num, hTr.new nq2.ok⟩
                  · have hkz : ¬ (k : Int) < (s : Int) := by omega
                    have hkd := Lib.hid (HPD.out k (by have := HNL.out; omega) (.inl (by have := HNL.out; omega)))
                    go_wp2_with fail
                    go_quiet (fail)
                    have HC := Lib.hid (HC.out.drewN nq)
                    generalize wr.drewN nq = wr at *
                    go_wp2_with fail
                    obtain ⟨Aa, hAa, hsA⟩ : ∃ Aa : Addr, (if c5 = k then some (⟨g5, 0, none⟩ : Addr) else some ⟨g5, k * 7, none⟩) = some Aa ∧ Hid (SlH w5 (some Aa) (s - k) (M.drop k)) := by
                      by_cases e : c5 = k
                      · exact ⟨⟨g5, 0, none⟩, by simp [e], hs5.drop (by omega) (.inl (by omega))⟩
                      · exact ⟨⟨g5, k * 7, none⟩, by simp [e], hs5.drop (by omega) (.inr (by simp))⟩
                    have hk5 : k ≤ c5 := by omega
                    obtain ⟨Ab, hAb, hsB⟩ : ∃ Ab : Addr, (if c3 = k + 1 then some (⟨g3, 0, none⟩ : Addr) else some ⟨g3, (k + 1) * 7, none⟩) = some Ab ∧ Hid (SlH w5 (some Ab) (s - k) (N.drop (k + 1))) := by
                      rw [← Nat.add_sub_add_right s 1 k]
                      by_cases e : c3 = k + 1
                      · exact ⟨⟨g3, 0, none⟩, by simp [e], hN5.drop (by omega) (.inl (by omega))⟩
                      · exact ⟨⟨g3, (k + 1) * 7, none⟩, by simp [e], hN5.drop (by omega) (.inr (by simp))⟩
                    have hk3 : k + 1 ≤ c3 := by omega
                    have hk3s : k + 1 ≤ s + 1 := by omega
                    have hp2 : ((k : Int) + 1).toNat = k + 1 := by omega
                    have hSm := fun nq : Cls wr => TSame_at (some Aa) (some Ab) (s - k) (s - k) (c5 - k) (c3 - (k + 1)) (M.drop k) (N.drop (k + 1)) nq.val (hsA.out.new (HC.out.trans nq.ok (by simp))) (hsB.out.new (HC.out.trans nq.ok (by simp)))
                    simp only [show eqHs (M.drop k) (N.drop (k + 1)) = true by rw [hkd.out]; exact eqHs_self _] at hSm
                    have hTr := hT5.new HC.out
                    refine wp_region_cls (by kernel_rfl) (by kernel_rfl) ?_
                    repeat (go_big_quiet_step (first | (go_at_call 25; with_reducible exact Calls.cls (hSm _))))
                    refine wpQuiet_nil ?_
                    rintro _ ⟨nq2, rfl⟩
                    go_wp2_with fail
                    go_roundg (ln - (j + 1))
                    case measure => omega
                    case rel => exact ⟨j + 1, M, by omega, by omega, by go_num, hTr.new nq2.ok⟩

          · have hltz : ¬ (j : Int) < (ln : Int) := by omega
            clear hlt hx
            go_wp2_with fail
            go_ret
            exact ⟨rfl, HT.out.chg0⟩

end Go.Proofs.Ytikdoldmhlbklaa
