/-
  TlbMost: the walk.
-/
import Derived.Test.YtikdoldmhlbklaaTlbO
namespace Go.Proofs.Ytikdoldmhlbklaa
open Go.RowKit Go.Shelf

theorem key_ne {L : List Ht} (h : KeyN L) {a b : Nat} (hb : b < a) (ha : a < L.length) : ¬ ((L.getD a default).a = (L.getD b default).a ∧ (L.getD a default).p = (L.getD b default).p) := by
  have := List.pairwise_iff_getElem.1 h b a (by omega) ha hb
  rw [Bool.eq_false_iff, Ne, isK_iff] at this
  rw [getD_lt ha, getD_lt (show b < L.length by omega)]
  exact this

set_option maxRecDepth 100000 in
set_option maxHeartbeats 40000000 in
theorem TlbMost_walk (most : Int) (A : Option Addr) (len c : Nat) (l : List Ht) (w0 : World) (hm : 0 ≤ most ∧ most ≤ 255) (hl : SlH w0 A len l) :
    Calls Try.prog 5 #[.int .u8 most, .slice A len c] w0 fun e w' => e = .returned (.bool true) ∧ Chg [] w0 w' := by
  have hle := hl.le
  obtain ⟨m, rfl⟩ := Int.eq_ofNat_of_zero_le hm.1
  have hq : (m : Int) % 64 = ((m % 64 : Nat) : Int) := by omega
  have hq64 : m % 64 < 64 := Nat.mod_lt _ (by decide)
  generalize m % 64 = q at *
  obtain ⟨n, hn⟩ : ∃ n : Nat, 1 + (q : Int) = (n : Int) := ⟨q + 1, by omega⟩
  have hn1 : 1 ≤ n ∧ n ≤ 64 := by omega
  by_cases hbig : 300 < len
  · go_enter Try.func5, Try.ntmps5
    go_wp2_with fail
    refine (Thead_any _).mono ?_; rintro e w1 ⟨rfl, hc1⟩
    go_wp2_with fail
    refine (TNew_b w0 n _ (by omega) (by omega) hc1).mono ?_; rintro e w2 ⟨rfl, h2, _⟩
    go_wp2_with fail
    go_ret
    exact ⟨rfl, h2.chg0⟩
  · go_enter Try.func5, Try.ntmps5
    go_wp2_with fail
    refine (Thead_any _).mono ?_; rintro e w1 ⟨rfl, hc1⟩
    go_wp2_with fail
    refine (TNew_b w0 n _ (by omega) (by omega) hc1).mono ?_; rintro e w2 ⟨rfl, h2, _⟩
    generalize w1.heap.size = p at *
    clear hc1
    go_wp2_with fail
    have HLEN := Lib.hid hl.len
    clear hq hn
    go_loopg [8] len (fun gg s8 wr => ∃ k : Nat, k ≤ len ∧ len - k ≤ gg ∧ s8 = .int .i64 k ∧ Aside (TB w0 [] wr p n (putsT n l k)))
    case atStart => exact ⟨0, by omega, by omega, rfl, by rw [putsT_zero]; exact h2⟩
    case round =>
      obtain ⟨k, hk, hg, rfl, HT⟩ := hrel
      clear h2
      by_cases hlt : k < len
      · have hltz : (k : Int) < (len : Int) := by omega
        obtain ⟨b, off, rfl, hb, hc⟩ := (hl.new HT.out.chg0).get hlt
        obtain ⟨c0, c1, c2, c3, c4, c5, c6⟩ := hc
        have hP := TPut_b (l.getD k default) HT.out
        unfold Ht.v at hP
        have HS := Lib.hid (putsT_succ n l (k := k) (by rw [HLEN.out]; exact hlt))
        rw [← HS.out] at hP
        have HHAS := Lib.hid (fun j h1 h2 => puts_has (n := n) l hn1.1 (i := k + 1) (by rw [HLEN.out]; omega) (k := j) h1 h2)
        obtain ⟨M, hM⟩ : ∃ M, putsT n l (k + 1) = M ++ [l.getD k default] := ⟨_, HS.out⟩
        have HM := Lib.hid hM
        rw [hM] at hP HHAS
        clear hM
        generalize hy : l.getD k default = y at *
        have HY := Lib.hid hy
        clear hy
        go_wp2_with fail
        refine hP.mono ?_; rintro e w3 ⟨rfl, h3, _⟩
        clear c0 c1 c2 c3 c4 c5 c6 hP
        go_wp2_with fail
        refine (TList_b h3).mono ?_; rintro e w4 ⟨A4, c4v, G, rfl, h4, _, ho4, hG4, _⟩
        have hT4 := h4.less (G := []) (by simp)
        have hs4 := ho4.slh
        have hnd := hT4.nd
        have hle4 := hT4.le
        have hlen4 : (M ++ [y]).length = M.length + 1 := by simp
        rw [hlen4] at hs4 hle4 ⊢
        obtain ⟨bA, oA, rfl, hbA, hrA⟩ := hs4.at_ (by omega)
        have hlast := hrA M.length y (by simp)
        obtain ⟨b', off', e', hb', hc⟩ := (hl.new hT4.chg0).get hlt
        injection e' with e'; injection e' with e1 e2
        subst e1; subst e2
        rw [HY.out] at hc
        obtain ⟨c0, c1, c2, c3, c4, c5, c6⟩ := hc
        obtain ⟨d0, d1, d2, d3, d4, d5, d6⟩ := hlast
        have hq := fun w => run_neH y y w
        simp only [Ht.v, Ht.eqb_self, Bool.not_true] at hq
        have hMany := fun nq : Cls w4 => (TMany_b (hT4.new nq.ok)).mono (fun e w' (h : e = .returned (.int .i64 (M ++ [y]).length) ∧ _ ∧ _) => (⟨h.1, h.2.2⟩ : e = .returned (.int .i64 (M ++ [y]).length) ∧ Chg [] nq.val w'))
        rw [hlen4] at hMany
        clear h3 h4 ho4 hlen4 HS
        generalize hML : M.length = s at *
        have HML := Lib.hid hML
        clear hML
        have x0 := fun nq : Cls w4 => nq.cell c0; have x1 := fun nq : Cls w4 => nq.cell c1; have x2 := fun nq : Cls w4 => nq.cell c2; have x3 := fun nq : Cls w4 => nq.cell c3; have x4 := fun nq : Cls w4 => nq.cell c4; have x5 := fun nq : Cls w4 => nq.cell c5; have x6 := fun nq : Cls w4 => nq.cell c6
        have y0 := fun nq : Cls w4 => nq.cell d0; have y1 := fun nq : Cls w4 => nq.cell d1; have y2 := fun nq : Cls w4 => nq.cell d2; have y3 := fun nq : Cls w4 => nq.cell d3; have y4 := fun nq : Cls w4 => nq.cell d4; have y5 := fun nq : Cls w4 => nq.cell d5; have y6 := fun nq : Cls w4 => nq.cell d6
        clear c0 c1 c2 c3 c4 c5 c6 d0 d1 d2 d3 d4 d5 d6
        have z0 : ((s : Int) + 1 == 0) = false := by rw [beq_eq_false_iff_ne]; omega
        have z1 : ¬ ((s : Int) + 1 > (n : Int)) := by omega
        have z1' : decide ((n : Int) < (s : Int) + 1) = false := by simp; omega
        have z2 : ((s : Int) + 1 != (s : Int) + 1) = false := by simp
        go_wp2_with fail
        refine wp_region_cls (by kernel_rfl) (by kernel_rfl) ?_
        repeat (go_big_quiet_step (first | (go_at_call 28; with_reducible exact Calls.cls (hMany _))))
        refine wpQuiet_nil ?_
        rintro _ ⟨nq, rfl⟩
        have hT5 := hT4.new nq.ok
        have hs5 := hs4.new nq.ok
        clear x0 x1 x2 x3 x4 x5 x6 y0 y1 y2 y3 y4 y5 y6 hMany hrA hT4 hs4 hq z0 z1 z1' z2
        generalize nq.val = w5 at *
        go_wp2_with fail
        have hne0 := fun a b (h1 : b < a) (h2 : a < (M ++ [y]).length) => key_ne hnd h1 h2
        have HNE := Lib.hid hne0
        clear hne0
        have HLL := Lib.hid (show (M ++ [y]).length = s + 1 by simp [HML.out])
        go_loopg [10, 11] (s + 1) (fun gg s10 _ wr => ∃ a : Nat, a ≤ s + 1 ∧ s + 1 - a ≤ gg ∧ s10 = .int .i64 a ∧ Aside (Chg [] w5 wr))
        case atStart => exact ⟨0, by omega, by omega, rfl, Chg.refl _ _⟩
        case round =>
          obtain ⟨a, ha, hga, rfl, HC⟩ := hrel
          by_cases hlta : a < s + 1
          · have haz : (a : Int) < (s : Int) + 1 := by omega
            go_wp2_with fail
            go_loopg [11] a (fun gg s11 wr => ∃ b : Nat, b ≤ a ∧ a - b ≤ gg ∧ s11 = .int .i64 b ∧ Aside (Chg [] w5 wr))
            case atStart => exact ⟨0, by omega, by omega, rfl, HC.out⟩
            case round =>
              clear HC
              obtain ⟨b2, hb2, hgb, rfl, HC⟩ := hrel
              by_cases hltb : b2 < a
              · have hbz : (b2 : Int) < (a : Int) := by omega
                have hbz1 : (b2 : Int) < (s : Int) + 1 := by omega
                obtain ⟨bb, oo, ee, _, hrB⟩ := (hs5.new HC.out).at_ (by omega)
                injection ee with ee; injection ee with e1 e2
                subst e1; subst e2
                have hA := hrB a ((M ++ [y]).getD a default) (by rw [List.getD_eq_getElem?_getD, List.getElem?_eq_getElem (by have := HLL.out; omega)]; rfl)
                have hB := hrB b2 ((M ++ [y]).getD b2 default) (by rw [List.getD_eq_getElem?_getD, List.getElem?_eq_getElem (by have := HLL.out; omega)]; rfl)
                have hne := HNE.out a b2 hltb (by have := HLL.out; omega)
                have ca := hA.c0; have cp := hA.c1; have da := hB.c0; have dp := hB.c1
                clear hA hB hrB
                generalize ((M ++ [y]).getD a default).a = aa at *
                generalize ((M ++ [y]).getD a default).p = ap at *
                generalize ((M ++ [y]).getD b2 default).a = ba at *
                generalize ((M ++ [y]).getD b2 default).p = bp at *
                by_cases hx : ba = aa
                · subst hx
                  have f2 : (ap == bp) = false := by simp; exact fun e => hne ⟨rfl, e⟩
                  clear hne
                  go_wp2_with fail
                  go_quiet (fail)
                  go_wp2_with fail
                  go_roundg (a - (b2 + 1))
                  case measure => omega
                  case rel => exact ⟨b2 + 1, by omega, by omega, by go_num, HC.out.drewN _⟩
                · have f1 : (aa == ba) = false := by simp; exact fun e => hx e.symm
                  clear hne hx
                  go_wp2_with fail
                  go_quiet (fail)
                  go_wp2_with fail
                  go_roundg (a - (b2 + 1))
                  case measure => omega
                  case rel => exact ⟨b2 + 1, by omega, by omega, by go_num, HC.out.drewN _⟩
              · have hbz : ¬ (b2 : Int) < (a : Int) := by omega
                go_wp2_with fail
                go_roundg (s + 1 - (a + 1))
                case measure => omega
                case rel => exact ⟨a + 1, by omega, by omega, by go_num, HC.out⟩
          · have haz : ¬ (a : Int) < (s : Int) + 1 := by omega
            have hT6 := hT5.new HC.out
            clear HNE hs5 hT5 hnd hlta HC
            have hkn0 : -9223372036854775808 ≤ (k : Int) - n + 1 := by omega
            obtain ⟨j0, hj0⟩ : ∃ j0 : Nat, (if 0 < (k : Int) - n + 1 then (k : Int) - n + 1 else 0) = (j0 : Int) := ⟨k + 1 - n, by split <;> omega⟩
            have HJ0 : Hid (j0 = k + 1 - n) := by show j0 = _; split at hj0 <;> omega
            go_wp2_with fail
            clear hj0 hkn0
            generalize wr = wA at *
            have hlw := hl.new hT6.chg0
            go_loopg [12] (k + 1) (fun gg s12 wr2 => ∃ j : Nat, j0 ≤ j ∧ j ≤ k + 1 ∧ k + 1 - j ≤ gg ∧ s12 = .int .i64 j ∧ Aside (Chg [] wA wr2))
            case atStart => exact ⟨j0, by omega, by have := HJ0.out; omega, by omega, rfl, Chg.refl _ _⟩
            case round =>
              obtain ⟨j, hj1, hj2, hgj, rfl, HC⟩ := hrel
              by_cases hjk : j ≤ k
              · have hjz : (j : Int) ≤ (k : Int) := by omega
                have hjz2 : (j : Int) < (len : Int) := by omega
                have hh := HHAS.out j (by omega) (by have := HJ0.out; omega)
                obtain ⟨bl, ol, el, hbl, hcl⟩ := (hlw.new HC.out).get (show j < len by omega)
                injection el with el; injection el with e1 e2
                subst e1; subst e2
                have hG := fun W (hW : Chg [] wA W) => TGet_b (l.getD j default).a (l.getD j default).p (hT6.new hW)
                rw [hh] at hG
                have ca := hcl.c0; have cp := hcl.c1
                have hcw := HC.out
                have HCC := HC
                have hcd := HC.out.drew
                generalize l.getD j default = z at *
                clear hcl hh HC HHAS
                obtain ⟨gh, hgh⟩ : ∃ gh, gh = getT (M ++ [y]) z.a z.p := ⟨_, rfl⟩
                rw [← hgh] at hG
                clear hgh
                go_wp2_with fail
                refine wp_region_noPanic ?_
                refine wp_region_held_drew (S := (fun w' => w'.cell? ⟨b, off + j * 7, none⟩ = some (.int .i64 z.a) ∧ w'.cell? ⟨b, off + j * 7 + 1, none⟩ = some (.int .i64 z.p))) (by kernel_rfl) ?_ (fun hHeld => ?_)
                · exact ⟨ca, cp⟩
                (refine take_on 0 (some 123) (v := ?_) rfl rfl (by kernel_rfl) (by kernel_rfl) (by kernel_rfl) (fun _ _ _ h => h) (by rfl) (by assumption) ?_ ?_; rotate_left; · (intro w hSw; (try dsimp only at hSw); go_simp; (try with_reducible rfl)))
                (try simp only [Act.put, List.setIfInBounds_toArray, List.set_cons_zero, List.set_cons_succ])
                (refine take_on 1 (some 124) (v := ?_) rfl rfl (by kernel_rfl) (by kernel_rfl) (by kernel_rfl) (fun _ _ _ h => h) (by rfl) (by assumption) ?_ ?_; rotate_left; · (intro w hSw; (try dsimp only at hSw); go_simp; (try with_reducible rfl)))
                (try simp only [Act.put, List.setIfInBounds_toArray, List.set_cons_zero, List.set_cons_succ])
                (refine take_on 2 (some 125) (v := ?_) rfl rfl (by kernel_rfl) (by kernel_rfl) (by kernel_rfl) (fun _ _ _ h => h) (by rfl) (by assumption) ?_ ?_; rotate_left; · (intro w hSw; (try dsimp only at hSw); go_simp; (try with_reducible rfl)))
                (try simp only [Act.put, List.setIfInBounds_toArray, List.set_cons_zero, List.set_cons_succ])
                (refine take_on 3 (some 126) (v := ?_) rfl rfl (by kernel_rfl) (by kernel_rfl) (by kernel_rfl) (fun _ _ _ h => h) (by rfl) (by assumption) ?_ ?_; rotate_left; · (intro w hSw; (try dsimp only at hSw); go_simp; (try with_reducible rfl)))
                (try simp only [Act.put, List.setIfInBounds_toArray, List.set_cons_zero, List.set_cons_succ])
                (refine take_on 4 (some 127) (v := ?_) rfl rfl (by kernel_rfl) (by kernel_rfl) (by kernel_rfl) (fun _ _ _ h => h) (by rfl) (by assumption) ?_ ?_; rotate_left; · (intro w hSw; (try dsimp only at hSw); go_simp; (try with_reducible rfl)))
                (try simp only [Act.put, List.setIfInBounds_toArray, List.set_cons_zero, List.set_cons_succ])
                (refine take_on 5 (some 128) (v := ?_) rfl rfl (by kernel_rfl) (by kernel_rfl) (by kernel_rfl) (fun _ _ _ h => h) (by rfl) (by assumption) ?_ ?_; rotate_left; · (intro w hSw; (try dsimp only at hSw); go_simp; (try with_reducible rfl)))
                (try simp only [Act.put, List.setIfInBounds_toArray, List.set_cons_zero, List.set_cons_succ])
                (refine take_on 6 (some 129) (v := ?_) rfl rfl (by kernel_rfl) (by kernel_rfl) (by kernel_rfl) (fun _ _ _ h => h) (by rfl) (by assumption) ?_ ?_; rotate_left; · (intro w hSw; (try dsimp only at hSw); go_simp; (try with_reducible rfl)))
                (try simp only [Act.put, List.setIfInBounds_toArray, List.set_cons_zero, List.set_cons_succ])
                (refine take_on 7 (some 130) (v := ?_) rfl rfl (by kernel_rfl) (by kernel_rfl) (by kernel_rfl) (fun _ _ _ h => h) (by rfl) (by assumption) ?_ ?_; rotate_left; · (intro w hSw; (try dsimp only at hSw); go_simp; (try with_reducible rfl)))
                (try simp only [Act.put, List.setIfInBounds_toArray, List.set_cons_zero, List.set_cons_succ])
                (refine take_on 8 (some 131) (v := ?_) rfl rfl (by kernel_rfl) (by kernel_rfl) (by kernel_rfl) (fun _ _ _ h => h) (by rfl) (by assumption) ?_ ?_; rotate_left; · (intro w hSw; (try dsimp only at hSw); go_simp; (try with_reducible rfl)))
                (try simp only [Act.put, List.setIfInBounds_toArray, List.set_cons_zero, List.set_cons_succ])
                (refine take_on 9 (some 132) (v := ?_) rfl rfl (by kernel_rfl) (by kernel_rfl) (by kernel_rfl) (fun _ _ _ h => h) (by rfl) (by assumption) ?_ ?_; rotate_left; · (intro w hSw; (try dsimp only at hSw); go_simp; (try with_reducible rfl)))
                (try simp only [Act.put, List.setIfInBounds_toArray, List.set_cons_zero, List.set_cons_succ])
                (refine take_on 10 (some 133) (v := ?_) rfl rfl (by kernel_rfl) (by kernel_rfl) (by kernel_rfl) (fun _ _ _ h => h) (by rfl) (by assumption) ?_ ?_; rotate_left; · (intro w hSw; (try dsimp only at hSw); go_simp; (try with_reducible rfl)))
                (try simp only [Act.put, List.setIfInBounds_toArray, List.set_cons_zero, List.set_cons_succ])
                have hbw : b < wr.drew.heap.size := hbl
                refine wpAnyH_ready (rs := [11, 15]) (by kernel_rfl) (by simp) ?_; refine AllReadyH.cons (o := _) rfl (fun K hK => ?_) (AllReadyH.cons (o := _) rfl (fun K hK => ?_) AllReadyH.nil)
                · have ca0 : wr.drew.cell? ⟨b, off + j * 7, none⟩ = some (.int .i64 z.a) := ca
                  have cp0 : wr.drew.cell? ⟨b, off + j * 7 + 1, none⟩ = some (.int .i64 z.p) := cp
                  have hb0 := hbw
                  go_simp
                  go_at_call 23; refine (hG _ hcd).mono ?_; rintro e w6 ⟨rfl, _, hc6⟩
                  have ca1 := (hc6.cell (p := ⟨b, off + j * 7, none⟩) hb0 (by simp)).trans ca0; have cp1 := (hc6.cell (p := ⟨b, off + j * 7 + 1, none⟩) hb0 (by simp)).trans cp0; have hb1 := Nat.lt_of_lt_of_le hb0 hc6.size
                  refine hK.out _ _ (by (try dsimp only); exact ⟨ca1, cp1⟩) (fun hHeld => ?_)
                  clear hK K
                  (try simp only [Act.put, List.setIfInBounds_toArray, List.set_cons_zero, List.set_cons_succ])
                  unfold Ht.v
                  (refine take_on 12 (some 122) (v := ?_) rfl rfl (by kernel_rfl) (by kernel_rfl) (by kernel_rfl) (fun _ _ _ h => h) (by rfl) (by assumption) ?_ ?_; rotate_left; · (intro w hSw; (try dsimp only at hSw); go_simp; (try with_reducible rfl)))
                  (try simp only [Act.put, List.setIfInBounds_toArray, List.set_cons_zero, List.set_cons_succ])
                  (refine take_on 13 (some 135) (v := ?_) rfl rfl (by kernel_rfl) (by kernel_rfl) (by kernel_rfl) (fun _ _ _ h => h) (by rfl) (by assumption) ?_ ?_; rotate_left; · (intro w hSw; (try dsimp only at hSw); go_simp; (try with_reducible rfl)))
                  (try simp only [Act.put, List.setIfInBounds_toArray, List.set_cons_zero, List.set_cons_succ])
                  (refine take_on 14 (some 136) (v := ?_) rfl rfl (by kernel_rfl) (by kernel_rfl) (by kernel_rfl) (fun _ _ _ h => h) (by rfl) (by assumption) ?_ ?_; rotate_left; · (intro w hSw; (try dsimp only at hSw); go_simp; (try with_reducible rfl)))
                  (try simp only [Act.put, List.setIfInBounds_toArray, List.set_cons_zero, List.set_cons_succ])
                  refine wpAnyH_ready (rs := [15]) (by kernel_rfl) (by simp) ?_; refine AllReadyH.cons (o := _) rfl (fun K hK => ?_) AllReadyH.nil
                  have hk7 := (Chg.refl [] w6).alloc (.cells #[.int .i64 0, .int .i64 0, .int .i64 0, .bool false, .bool false, .bool false, .bool false] 31)
                  have ca2 := (hk7.cell (p := ⟨b, off + j * 7, none⟩) hb1 (by simp)).trans ca1; have cp2 := (hk7.cell (p := ⟨b, off + j * 7 + 1, none⟩) hb1 (by simp)).trans cp1; have hb2 := Nat.lt_of_lt_of_le hb1 hk7.size
                  have hz2 := BlkH.new w6 Ht.zero
                  simp only [Ht.zero] at hz2
                  go_simp
                  refine hK.out _ _ (by (try dsimp only); exact ⟨ca2, cp2⟩) (fun hHeld => ?_)
                  clear hK K
                  (try simp only [Act.put, List.setIfInBounds_toArray, List.set_cons_zero, List.set_cons_succ])
                  obtain ⟨zb, hzb⟩ : ∃ zb, zb = w6.heap.size := ⟨_, rfl⟩
                  rw [← hzb] at hz2 ⊢
                  have hzlt : w6.heap.size ≤ zb := by omega
                  clear hzb
                  generalize hww : w6.alloc (.cells #[.int .i64 0, .int .i64 0, .int .i64 0, .bool false, .bool false, .bool false, .bool false] 31) = w7 at *
                  obtain ⟨v0, v1, v2, v3, v4, v5, v6⟩ := BlkH.cells (h := Ht.zero) hz2
                  obtain ⟨f0, f1, f2, f3, f4, f5, f6⟩ := BlkH.frozens (h := Ht.zero) hz2
                  simp only [Ht.zero] at v0 v1 v2 v3 v4 v5 v6
                  have hst := Chg.setCells (S := []) (a := w6) (g := zb) (fun h => by omega) (Ht.cl gh) 0 w7 hk7
                  simp only [Ht.cl, World.setCells, Nat.zero_add, Nat.reduceAdd] at hst
                  have HTOT := Lib.hid ((hcd.trans hc6 (by simp)).trans hst (by simp))
                  have ca9 := (hst.cell (p := ⟨b, off + j * 7, none⟩) hb1 (by simp)).trans ca1; have cp9 := (hst.cell (p := ⟨b, off + j * 7 + 1, none⟩) hb1 (by simp)).trans cp1; have hb9 := Nat.lt_of_lt_of_le hb1 hst.size
                  refine wpAnyH_ready (rs := [16]) (by kernel_rfl) (by simp) ?_; refine AllReadyH.cons (o := _) rfl (fun K hK => ?_) AllReadyH.nil
                  go_simp
                  refine hK.out _ _ (by (try dsimp only); exact ⟨ca9, cp9⟩) (fun hHeld => ?_)
                  clear hK K
                  (try simp only [Act.put, List.setIfInBounds_toArray, List.set_cons_zero, List.set_cons_succ])
                  (refine take_on 17 (some 14) (v := ?_) rfl rfl (by kernel_rfl) (by kernel_rfl) (by kernel_rfl) (fun _ _ _ h => h) (by rfl) (by assumption) ?_ ?_; rotate_left; · (intro w hSw; (try dsimp only at hSw); go_simp; (try with_reducible rfl)))
                  (try simp only [Act.put, List.setIfInBounds_toArray, List.set_cons_zero, List.set_cons_succ])
                  refine wpAnyH_done (by kernel_rfl) ?_ _
                  refine NoPanic.normal ?_
                  clear v0 v1 v2 v3 v4 v5 v6 f0 f1 f2 f3 f4 f5 f6 hst ca9 cp9 hb9 hHeld
                  go_wp2_with fail
                  go_roundg (k + 1 - (j + 1))
                  case measure => omega
                  case rel => exact ⟨j + 1, by omega, by omega, by omega, by go_num, HTOT.out⟩
                · have ca0 : wr.drew.cell? ⟨b, off + j * 7, none⟩ = some (.int .i64 z.a) := ca
                  have cp0 : wr.drew.cell? ⟨b, off + j * 7 + 1, none⟩ = some (.int .i64 z.p) := cp
                  have hb0 := hbw
                  have hk1 := (Chg.refl [] wr.drew).alloc (.cells #[.int .i64 0, .int .i64 0, .int .i64 0, .bool false, .bool false, .bool false, .bool false] 31)
                  have hz1 : BlkH (World.alloc wr.drew (.cells #[.int .i64 0, .int .i64 0, .int .i64 0, .bool false, .bool false, .bool false, .bool false] 31)) wr.heap.size Ht.zero := BlkH.new wr.drew Ht.zero
                  simp only [Ht.zero] at hz1
                  have ca1 := (hk1.cell (p := ⟨b, off + j * 7, none⟩) hb0 (by simp)).trans ca0; have cp1 := (hk1.cell (p := ⟨b, off + j * 7 + 1, none⟩) hb0 (by simp)).trans cp0; have hb1 := Nat.lt_of_lt_of_le hb0 hk1.size
                  have eW : World.alloc wr.drew (.cells #[.int .i64 0, .int .i64 0, .int .i64 0, .bool false, .bool false, .bool false, .bool false] 31) = World.drew (World.alloc wr (.cells #[.int .i64 0, .int .i64 0, .int .i64 0, .bool false, .bool false, .bool false, .bool false] 31)) := rfl
                  simp only [eW] at hk1 hz1 ca1 cp1 hb1
                  obtain ⟨zb, hzb⟩ : ∃ zb, zb = wr.heap.size := ⟨_, rfl⟩
                  have hzlt : wr.drew.heap.size ≤ zb := by rw [hzb]; exact Nat.le_refl _
                  go_simp
                  refine hK.out _ _ (by (try dsimp only); exact ⟨ca1, cp1⟩) (fun hHeld => ?_)
                  clear hK K
                  (try simp only [Act.put, List.setIfInBounds_toArray, List.set_cons_zero, List.set_cons_succ])
                  rw [← hzb] at hz1 ⊢
                  clear hzb
                  generalize hww : World.drew (World.alloc wr (.cells #[.int .i64 0, .int .i64 0, .int .i64 0, .bool false, .bool false, .bool false, .bool false] 31)) = w5 at *
                  clear hww eW
                  refine wpAnyH_ready (rs := [11]) (by kernel_rfl) (by simp) ?_; refine AllReadyH.cons (o := _) rfl (fun K hK => ?_) AllReadyH.nil
                  go_simp
                  go_at_call 23; refine (hG _ (hcd.trans hk1 (by simp))).mono ?_; rintro e w6 ⟨rfl, _, hc6⟩
                  have ca2 := (hc6.cell (p := ⟨b, off + j * 7, none⟩) hb1 (by simp)).trans ca1; have cp2 := (hc6.cell (p := ⟨b, off + j * 7 + 1, none⟩) hb1 (by simp)).trans cp1; have hb2 := Nat.lt_of_lt_of_le hb1 hc6.size
                  have hz2 := hz1.chg hc6 (by simp)
                  refine hK.out _ _ (by (try dsimp only); exact ⟨ca2, cp2⟩) (fun hHeld => ?_)
                  clear hK K
                  (try simp only [Act.put, List.setIfInBounds_toArray, List.set_cons_zero, List.set_cons_succ])
                  unfold Ht.v
                  (refine take_on 12 (some 122) (v := ?_) rfl rfl (by kernel_rfl) (by kernel_rfl) (by kernel_rfl) (fun _ _ _ h => h) (by rfl) (by assumption) ?_ ?_; rotate_left; · (intro w hSw; (try dsimp only at hSw); go_simp; (try with_reducible rfl)))
                  (try simp only [Act.put, List.setIfInBounds_toArray, List.set_cons_zero, List.set_cons_succ])
                  (refine take_on 13 (some 135) (v := ?_) rfl rfl (by kernel_rfl) (by kernel_rfl) (by kernel_rfl) (fun _ _ _ h => h) (by rfl) (by assumption) ?_ ?_; rotate_left; · (intro w hSw; (try dsimp only at hSw); go_simp; (try with_reducible rfl)))
                  (try simp only [Act.put, List.setIfInBounds_toArray, List.set_cons_zero, List.set_cons_succ])
                  (refine take_on 14 (some 136) (v := ?_) rfl rfl (by kernel_rfl) (by kernel_rfl) (by kernel_rfl) (fun _ _ _ h => h) (by rfl) (by assumption) ?_ ?_; rotate_left; · (intro w hSw; (try dsimp only at hSw); go_simp; (try with_reducible rfl)))
                  (try simp only [Act.put, List.setIfInBounds_toArray, List.set_cons_zero, List.set_cons_succ])
                  have hk16 := hk1.trans hc6 (by simp)
                  obtain ⟨v0, v1, v2, v3, v4, v5, v6⟩ := BlkH.cells (h := Ht.zero) hz2
                  obtain ⟨f0, f1, f2, f3, f4, f5, f6⟩ := BlkH.frozens (h := Ht.zero) hz2
                  simp only [Ht.zero] at v0 v1 v2 v3 v4 v5 v6
                  have hst := Chg.setCells (S := []) (a := wr.drew) (g := zb) (fun h => by omega) (Ht.cl gh) 0 w6 hk16
                  simp only [Ht.cl, World.setCells, Nat.zero_add, Nat.reduceAdd] at hst
                  have HTOT := Lib.hid (hcd.trans hst (by simp))
                  have ca9 := (hst.cell (p := ⟨b, off + j * 7, none⟩) hb0 (by simp)).trans ca0; have cp9 := (hst.cell (p := ⟨b, off + j * 7 + 1, none⟩) hb0 (by simp)).trans cp0; have hb9 := Nat.lt_of_lt_of_le hb0 hst.size
                  refine wpAnyH_ready (rs := [16]) (by kernel_rfl) (by simp) ?_; refine AllReadyH.cons (o := _) rfl (fun K hK => ?_) AllReadyH.nil
                  go_simp
                  refine hK.out _ _ (by (try dsimp only); exact ⟨ca9, cp9⟩) (fun hHeld => ?_)
                  clear hK K
                  (try simp only [Act.put, List.setIfInBounds_toArray, List.set_cons_zero, List.set_cons_succ])
                  (refine take_on 17 (some 14) (v := ?_) rfl rfl (by kernel_rfl) (by kernel_rfl) (by kernel_rfl) (fun _ _ _ h => h) (by rfl) (by assumption) ?_ ?_; rotate_left; · (intro w hSw; (try dsimp only at hSw); go_simp; (try with_reducible rfl)))
                  (try simp only [Act.put, List.setIfInBounds_toArray, List.set_cons_zero, List.set_cons_succ])
                  refine wpAnyH_done (by kernel_rfl) ?_ _
                  refine NoPanic.normal ?_
                  clear v0 v1 v2 v3 v4 v5 v6 f0 f1 f2 f3 f4 f5 f6 hst ca9 cp9 hb9 hHeld
                  go_wp2_with fail
                  go_roundg (k + 1 - (j + 1))
                  case measure => omega
                  case rel => exact ⟨j + 1, by omega, by omega, by omega, by go_num, HTOT.out⟩
              · have hjz : ¬ (j : Int) ≤ (k : Int) := by omega
                go_wp2_with fail
                go_roundg (len - (k + 1))
                case measure => omega
                case rel => exact ⟨k + 1, by omega, by omega, by go_num, by rw [HM.out]; exact hT6.new HC.out⟩
      · have hltz : ¬ (k : Int) < (len : Int) := by omega
        clear hl hlt
        go_wp2_with fail
        go_ret
        exact ⟨rfl, HT.out.chg0⟩

end Go.Proofs.Ytikdoldmhlbklaa
