/-
  TlbAgain: the walk.
-/
import Derived.Test.YtikdoldmhlbklaaTlbM
namespace Go.Proofs.Ytikdoldmhlbklaa
open Go.RowKit Go.Shelf

/-- one that is there, put once more, is the last one; none goes for it -/
theorem put_again {most : Nat} {L : List Ht} (h : KeyN L) (hl : L.length ≤ most) {k : Nat} (hk : k < L.length) : putT most L (L.getD k default) = L.eraseIdx k ++ [L.getD k default] := by
  unfold putT
  rw [← erase_key h hk (isK_self _)]
  unfold cutT
  rw [if_neg (by rw [List.length_eraseIdx_of_lt hk]; omega)]
/-- all of a list but the one at k, of the first j -/
def butT (L : List Ht) (k j : Nat) : List Ht := (L.take j).eraseIdx k
theorem butT_skip {L : List Ht} {k : Nat} (hk : k < L.length) : butT L k (k + 1) = butT L k k := by
  unfold butT
  have l1 : (L.take k).length = k := by simp; omega
  rw [List.take_succ_eq_append_getElem hk, List.eraseIdx_append_of_length_le (by omega), l1, Nat.sub_self, List.eraseIdx_of_length_le (l := L.take k) (by omega)]
  simp
theorem butT_keep {L : List Ht} {k j : Nat} (hj : j < L.length) (hne : j ≠ k) : butT L k (j + 1) = butT L k j ++ [L.getD j default] := by
  unfold butT
  rw [List.take_succ_eq_append_getElem hj, getD_lt hj]
  rcases Nat.lt_or_ge j k with h | h
  · rw [List.eraseIdx_of_length_le (by simp; omega), List.eraseIdx_of_length_le (by simp; omega)]
  · rw [List.eraseIdx_append_of_lt_length (by simp; omega)]
theorem butT_all (L : List Ht) (k : Nat) : butT L k L.length = L.eraseIdx k := by unfold butT; rw [List.take_length]
theorem tmod_nat (m n : Nat) : Int.tmod (m : Int) n = ((m % n : Nat) : Int) := by
  rw [Int.tmod_eq_emod_of_nonneg (by omega)]; rfl

set_option maxRecDepth 100000 in
set_option maxHeartbeats 8000000 in
theorem TlbAgain_walk (most : Int) (A : Option Addr) (len c : Nat) (l : List Ht) (at_ : Int) (w0 : World) (hm : 0 ≤ most ∧ most ≤ 255) (hl : SlH w0 A len l) (ha : 0 ≤ at_ ∧ at_ ≤ 255) :
    Calls Try.prog 8 #[.int .u8 most, .slice A len c, .int .u8 at_] w0 fun e w' => e = .returned (.bool true) ∧ Chg [] w0 w' := by
  have hle := hl.le
  obtain ⟨m, rfl⟩ := Int.eq_ofNat_of_zero_le hm.1
  obtain ⟨at', rfl⟩ := Int.eq_ofNat_of_zero_le ha.1
  have hq : (m : Int) % 64 = ((m % 64 : Nat) : Int) := by omega
  have hq64 : m % 64 < 64 := Nat.mod_lt _ (by decide)
  generalize m % 64 = q at *
  obtain ⟨n, hn⟩ : ∃ n : Nat, 1 + (q : Int) = (n : Int) := ⟨q + 1, by omega⟩
  have hn1 : 1 ≤ n ∧ n ≤ 64 := by omega
  by_cases hbig : 300 < len
  · go_enter Try.func8, Try.ntmps8
    go_wp2_with fail
    refine (Thead_any _).mono ?_; rintro e w1 ⟨rfl, hc1⟩
    go_wp2_with fail
    refine (TNew_b w0 n _ (by omega) (by omega) hc1).mono ?_; rintro e w2 ⟨rfl, h2, _⟩
    go_wp2_with fail
    go_ret
    exact ⟨rfl, h2.chg0⟩
  · go_enter Try.func8, Try.ntmps8
    go_wp2_with fail
    refine (Thead_any _).mono ?_; rintro e w1 ⟨rfl, hc1⟩
    go_wp2_with fail
    refine (TNew_b w0 n _ (by omega) (by omega) hc1).mono ?_; rintro e w2 ⟨rfl, h2, _⟩
    generalize w1.heap.size = p at *
    clear hc1
    go_wp2_with fail
    have HLEN := Lib.hid hl.len
    clear hq hn
    go_loopg [9] len (fun gg s9 wr => ∃ k : Nat, k ≤ len ∧ len - k ≤ gg ∧ s9 = .int .i64 k ∧ Aside (TB w0 [] wr p n (putsT n l k)))
    case atStart => exact ⟨0, by omega, by omega, rfl, by rw [putsT_zero]; exact h2⟩
    case round =>
      obtain ⟨k, hk, hg, rfl, HT⟩ := hrel
      clear h2
      by_cases hlt : k < len
      · have hltz : (k : Int) < (len : Int) := by omega
        obtain ⟨b, off, rfl, hb, hc⟩ := (hl.new HT.out.chg0).get hlt
        obtain ⟨c0, c1, c2, c3, c4, c5, c6⟩ := hc
        have hP := TPut_b (l.getD k default) HT.out
        unfold Ht.v at hP
        rw [← putsT_succ n l (by rw [HLEN.out]; exact hlt)] at hP
        generalize l.getD k default = y at *
        go_wp2_with fail
        refine hP.mono ?_; rintro e w3 ⟨rfl, h3, _⟩
        go_wp2_with fail
        go_roundg (len - (k + 1))
        case measure => omega
        case rel => exact ⟨k + 1, by omega, by omega, by go_num, h3⟩
      · have hltz : ¬ (k : Int) < (len : Int) := by omega
        have hkl : k = len := by omega
        have HKL := Lib.hid hkl
        have HPE := Lib.hid (puts_ne n l k)
        clear hl hlt hkl
        have hT := HT.out
        clear HT hg
        generalize putsT n l k = N at *
        go_wp2_with fail
        refine (TList_b hT).mono ?_; rintro e w3 ⟨A3, c3, G, rfl, h3, hc3, ho3, hG3, _⟩
        rw [List.append_nil] at h3
        have hs3 := ho3.slh
        have hle3 := hs3.le
        clear hT hc3 ho3
        by_cases h0 : N.length = 0
        · have hl0 : len = 0 := by
            have := HPE.out (by have := HLEN.out; have := HKL.out; omega)
            have := HLEN.out; have := HKL.out
            rcases Nat.eq_zero_or_pos len with h | h
            · exact h
            · exact absurd h0 (by omega)
          have e1 : ((len : Int) == 0) = true := by simp [hl0]
          have e2 : ((N.length : Int) == 0) = true := by simp [h0]
          clear h0 hl0
          go_wp2_with fail
          go_ret
          exact ⟨rfl, h3.chg0⟩
        · have e2 : ((N.length : Int) == 0) = false := by rw [beq_eq_false_iff_ne]; omega
          have hNp : 0 < N.length := by omega
          have hle64 : N.length ≤ 64 := Nat.le_trans h3.le hn1.2
          have hkk := tmod_nat at' N.length
          have hkk2 : (at' : Int) % (N.length : Int) = ((at' % N.length : Nat) : Int) := rfl
          have hkl : at' % N.length < N.length := Nat.mod_lt _ hNp
          have h3z : ¬ ((N.length : Int) = 0) := by omega
          have hPA := put_again h3.nd h3.le hkl
          generalize at' % N.length = ix at *
          obtain ⟨b0, off0, rfl, hb, hc⟩ := hs3.get hkl
          obtain ⟨d0, d1, d2, d3, d4, d5, d6⟩ := hc
          have hP := TPut_b (N.getD ix default) h3
          rw [hPA] at hP
          unfold Ht.v at hP
          have HYY := Lib.hid (show N.getD ix default = N.getD ix default from rfl)
          generalize hyy : N.getD ix default = y at *
          have HY := Lib.hid hyy
          clear hyy HYY h0 hPA
          have hltz : (ix : Int) < (N.length : Int) := by omega
          go_wp2_with fail
          refine hP.mono ?_; rintro e w4 ⟨rfl, h4, hf4⟩
          have hs4 := hf4.slh hs3 hG3
          clear hP hf4 h3 hs3 d0 d1 d2 d3 d4 d5 d6
          have hb0 : b0 ∈ G := hG3 b0 off0 rfl
          clear hG3 hkk hkk2
          have HN := Lib.hid (show (N.eraseIdx ix ++ [y]).length = N.length by rw [List.length_append, List.length_eraseIdx_of_lt hkl]; simp; omega)
          go_wp2_with fail
          go_loopg [12, 13] N.length (fun gg v12 s13 wr => ∃ (j : Nat) (F : List Nat), j ≤ N.length ∧ N.length - j ≤ gg ∧ s13 = .int .i64 j ∧ Aside (TB w0 F wr p n (N.eraseIdx ix ++ [y])) ∧ Aside (LB w0 F wr v12 (butT N ix j)) ∧ Aside (SlH wr (some ⟨b0, off0, none⟩) N.length N) ∧ Aside (b0 ∈ F ∧ b0 ∉ v12.ownBlock.toList))
          case atStart => exact ⟨0, G, by omega, by omega, rfl, h4, LB.nil _ _ _, hs4, hb0, by simp [Value.ownBlock]⟩
          case round =>
            obtain ⟨j, F, hj, hgj, rfl, HT, HL, HS, HA⟩ := hrel
            clear h4 hs4 hb0
            by_cases hlt : j < N.length
            · have hltz : (j : Int) < (N.length : Int) := by omega
              by_cases hji : j = ix
              · have e1 : ((j : Int) != ix) = false := by simp [hji]
                have HJI := Lib.hid hji
                have HBT := Lib.hid (butT_skip hkl)
                clear hji
                go_wp2_with fail
                go_roundg (N.length - (j + 1))
                case measure => omega
                case rel => exact ⟨j + 1, F, by omega, by omega, by go_num, HT, (show LB w0 F wr _ _ by rw [show butT N ix (j + 1) = butT N ix j by rw [HJI.out]; exact HBT.out]; exact HL.out), HS, HA⟩
              · have e1 : ((j : Int) != ix) = true := by simp; omega
                obtain ⟨b1, off1, hbe, hb, hc⟩ := HS.out.get hlt
                injection hbe with hbe; injection hbe with hb1 ho1
                subst hb1; subst ho1
                obtain ⟨c0, c1, c2, c3', c4, c5, c6⟩ := hc
                have HBT := Lib.hid (butT_keep hlt hji)
                clear hji
                generalize N.getD j default = z at *
                have hfl : (butT N ix j).length ≤ 64 := Nat.le_trans (Nat.le_trans (by unfold butT; exact List.length_eraseIdx_le _ _) (List.length_take_le' _ _)) hle64
                have hnb := BlkH.new wr z
                have hL4 := HL.out.alloc (.cells #[.int .i64 z.a, .int .i64 z.p, .int .i64 z.f, .bool z.w, .bool z.u, .bool z.x, .bool z.d] 31)
                have hT4 := HT.out.alloc (.cells #[.int .i64 z.a, .int .i64 z.p, .int .i64 z.f, .bool z.w, .bool z.u, .bool z.x, .bool z.d] 31)
                have hS4 := HS.out.new ((Chg.refl [] wr).alloc (.cells #[.int .i64 z.a, .int .i64 z.p, .int .i64 z.f, .bool z.w, .bool z.u, .bool z.x, .bool z.d] 31))
                clear HL HT HS
                obtain ⟨A4, c4v, rfl, _, _⟩ := hL4.1.form
                have hsrc := hnb.src
                have HLL := Lib.hid hL4
                clear hL4
                generalize hM : butT N ix j = M at *
                clear hM
                go_wp2_with (at_builtin; refine wpList_append_own_H rfl _ _ rfl _ M rfl HLL.out.1 (some ⟨wr.heap.size, 0, none⟩) 1 1 [z] rfl hsrc rfl (by omega) ?_)
                intro v5 w5 ho5 hc5 hb5
                obtain ⟨k1, k2⟩ := hT4.app HLL.out ho5 hc5 (by rw [World.size_alloc]; exact hb5)
                have hS5 := hS4.chg hc5 (fun b off e hm => by injection e with e; injection e with e _; subst e; exact HA.out.2 hm)
                have hA5 : b0 ∈ v5.ownBlock.toList ++ F ∧ b0 ∉ v5.ownBlock.toList := by
                  obtain ⟨m1, m2⟩ := HA.out
                  refine ⟨List.mem_append.2 (.inr m1), fun hm => ?_⟩
                  rcases hb5 with e5 | e5
                  · rw [e5] at hm; exact m2 hm
                  · rw [e5] at hm; simp at hm; omega
                obtain ⟨A5, c5v, rfl, _, _⟩ := ho5.form
                clear hT4 hS4
                go_wp2_with fail
                go_roundg (N.length - (j + 1))
                case measure => omega
                case rel => exact ⟨j + 1, _, by omega, by omega, by go_num, k1, (show LB w0 _ w5 _ _ by rw [HBT.out]; exact k2), hS5, hA5⟩
            · have hltz : ¬ (j : Int) < (N.length : Int) := by omega
              have hjn : j = N.length := by omega
              have hX : butT N ix j ++ [y] = N.eraseIdx ix ++ [y] := by rw [hjn, butT_all]
              have hfl : (butT N ix j).length ≤ 64 := Nat.le_trans (Nat.le_trans (by unfold butT; exact List.length_eraseIdx_le _ _) (List.length_take_le' _ _)) hle64
              have HX := Lib.hid hX
              clear hX hjn hlt
              generalize butT N ix j = X at *
              have hT0 := HT.out; have hL0 := HL.out; have hS0 := HS.out
              generalize N.eraseIdx ix ++ [y] = Y at *
              obtain ⟨A4, c4v, rfl, _, _⟩ := hL0.1.form
              have HA0 := HA
              clear HT HL HS HA
              obtain ⟨b1, off1, hbe, hb, hc⟩ := hS0.get hkl
              injection hbe with hbe; injection hbe with hb1 ho1
              subst hb1; subst ho1
              rw [HY.out] at hc
              have hH := hc
              have hbm := HA0.out.1
              have hbv := HA0.out.2
              obtain ⟨d0, d1, d2, d3, d4, d5, d6⟩ := hc
              go_wp2_with fail
              refine wp_region_noPanic ?_
              refine wp_region_held_drew (S := (fun w' => w'.cell? ⟨b0, off0 + ix * 7, none⟩ = some (.int .i64 y.a) ∧ w'.cell? ⟨b0, off0 + ix * 7 + 1, none⟩ = some (.int .i64 y.p) ∧ w'.cell? ⟨b0, off0 + ix * 7 + 2, none⟩ = some (.int .i64 y.f) ∧ w'.cell? ⟨b0, off0 + ix * 7 + 3, none⟩ = some (.bool y.w) ∧ w'.cell? ⟨b0, off0 + ix * 7 + 4, none⟩ = some (.bool y.u) ∧ w'.cell? ⟨b0, off0 + ix * 7 + 5, none⟩ = some (.bool y.x) ∧ w'.cell? ⟨b0, off0 + ix * 7 + 6, none⟩ = some (.bool y.d))) (by kernel_rfl) ?_ (fun hHeld => ?_)
              · exact ⟨d0, d1, d2, d3, d4, d5, d6⟩
              (refine take_on 0 (some 82) (v := ?_) rfl rfl (by kernel_rfl) (by kernel_rfl) (by kernel_rfl) (fun _ _ _ h => h) (by rfl) (by assumption) ?_ ?_; rotate_left; · (intro w hSw; (try dsimp only at hSw); go_simp; (try with_reducible rfl)))
              (try simp only [Act.put, List.setIfInBounds_toArray, List.set_cons_zero, List.set_cons_succ])
              (refine take_on 1 (some 83) (v := ?_) rfl rfl (by kernel_rfl) (by kernel_rfl) (by kernel_rfl) (fun _ _ _ h => h) (by rfl) (by assumption) ?_ ?_; rotate_left; · (intro w hSw; (try dsimp only at hSw); go_simp; (try with_reducible rfl)))
              (try simp only [Act.put, List.setIfInBounds_toArray, List.set_cons_zero, List.set_cons_succ])
              (refine take_on 2 (some 84) (v := ?_) rfl rfl (by kernel_rfl) (by kernel_rfl) (by kernel_rfl) (fun _ _ _ h => h) (by rfl) (by assumption) ?_ ?_; rotate_left; · (intro w hSw; (try dsimp only at hSw); go_simp; (try with_reducible rfl)))
              (try simp only [Act.put, List.setIfInBounds_toArray, List.set_cons_zero, List.set_cons_succ])
              (refine take_on 4 (some 86) (v := ?_) rfl rfl (by kernel_rfl) (by kernel_rfl) (by kernel_rfl) (fun _ _ _ h => h) (by rfl) (by assumption) ?_ ?_; rotate_left; · (intro w hSw; (try dsimp only at hSw); go_simp; (try with_reducible rfl)))
              (try simp only [Act.put, List.setIfInBounds_toArray, List.set_cons_zero, List.set_cons_succ])
              (refine take_on 5 (some 87) (v := ?_) rfl rfl (by kernel_rfl) (by kernel_rfl) (by kernel_rfl) (fun _ _ _ h => h) (by rfl) (by assumption) ?_ ?_; rotate_left; · (intro w hSw; (try dsimp only at hSw); go_simp; (try with_reducible rfl)))
              (try simp only [Act.put, List.setIfInBounds_toArray, List.set_cons_zero, List.set_cons_succ])
              (refine take_on 6 (some 88) (v := ?_) rfl rfl (by kernel_rfl) (by kernel_rfl) (by kernel_rfl) (fun _ _ _ h => h) (by rfl) (by assumption) ?_ ?_; rotate_left; · (intro w hSw; (try dsimp only at hSw); go_simp; (try with_reducible rfl)))
              (try simp only [Act.put, List.setIfInBounds_toArray, List.set_cons_zero, List.set_cons_succ])
              (refine take_on 7 (some 89) (v := ?_) rfl rfl (by kernel_rfl) (by kernel_rfl) (by kernel_rfl) (fun _ _ _ h => h) (by rfl) (by assumption) ?_ ?_; rotate_left; · (intro w hSw; (try dsimp only at hSw); go_simp; (try with_reducible rfl)))
              (try simp only [Act.put, List.setIfInBounds_toArray, List.set_cons_zero, List.set_cons_succ])
              (refine take_on 8 (some 90) (v := ?_) rfl rfl (by kernel_rfl) (by kernel_rfl) (by kernel_rfl) (fun _ _ _ h => h) (by rfl) (by assumption) ?_ ?_; rotate_left; · (intro w hSw; (try dsimp only at hSw); go_simp; (try with_reducible rfl)))
              (try simp only [Act.put, List.setIfInBounds_toArray, List.set_cons_zero, List.set_cons_succ])
              have hT0 := hT0.new (Chg.refl [] wr).drew
              have hL0 := hL0.new (Chg.refl [] wr).drew
              have hH0 := hH.chg (Chg.refl [] wr).drew hb (by simp)
              have hb0 : b0 < wr.drew.heap.size := hb
              refine wpAnyH_ready (rs := [3, 9]) (by kernel_rfl) (by simp) ?_; refine AllReadyH.cons (o := _) rfl (fun K hK => ?_) (AllReadyH.cons (o := _) rfl (fun K hK => ?_) AllReadyH.nil)
              · have heq : eqHs Y (X ++ [y]) = true := by rw [HX.out]; exact eqHs_self _
                go_simp
                go_at_call 26
                refine (TList_b hT0).mono ?_
                rintro e W1 ⟨A5, c5, G5, rfl, hT1, hk1, ho5, hG5, hF5⟩
                have hs1 := ho5.slh
                have hL1 := LB.more (G := G5) (hL0.new hk1)
                have hH1 := hH0.chg hk1 hb0 (by simp)
                have hb1 := Nat.lt_of_lt_of_le hb0 hk1.size
                have hlt5 := hL0.1.lt
                have hbm := List.mem_append.2 (Or.inr (a := b0 ∈ G5) hbm)
                refine hK.out _ _ (by (try dsimp only); exact ⟨hH1.c0, hH1.c1, hH1.c2, hH1.c3, hH1.c4, hH1.c5, hH1.c6⟩) (fun hHeld => ?_)
                clear hK K
                (try simp only [Act.put, List.setIfInBounds_toArray, List.set_cons_zero, List.set_cons_succ])
                refine wpAnyH_ready (rs := [9]) (by kernel_rfl) (by simp) ?_; refine AllReadyH.cons (o := _) rfl (fun K hK => ?_) AllReadyH.nil
                have hk2 := (Chg.refl [] W1).alloc (.cells #[.int .i64 y.a, .int .i64 y.p, .int .i64 y.f, .bool y.w, .bool y.u, .bool y.x, .bool y.d] 31)
                have hT2 := hT1.alloc (.cells #[.int .i64 y.a, .int .i64 y.p, .int .i64 y.f, .bool y.w, .bool y.u, .bool y.x, .bool y.d] 31)
                have hL2 := hL1.alloc (.cells #[.int .i64 y.a, .int .i64 y.p, .int .i64 y.f, .bool y.w, .bool y.u, .bool y.x, .bool y.d] 31)
                have hH2 := hH1.chg hk2 hb1 (by simp)
                have hb2 := Nat.lt_of_lt_of_le hb1 hk2.size
                have hnb2 := BlkH.new W1 y
                have hs2 := hs1.new hk2
                go_simp
                refine hK.out _ _ (by (try dsimp only); exact ⟨hH2.c0, hH2.c1, hH2.c2, hH2.c3, hH2.c4, hH2.c5, hH2.c6⟩) (fun hHeld => ?_)
                clear hK K
                (try simp only [Act.put, List.setIfInBounds_toArray, List.set_cons_zero, List.set_cons_succ])
                generalize hWW : World.alloc W1 (.cells #[.int .i64 y.a, .int .i64 y.p, .int .i64 y.f, .bool y.w, .bool y.u, .bool y.x, .bool y.d] 31) = W2 at *
                clear hWW
                skip
                refine wpAnyH_ready (rs := [10]) (by kernel_rfl) (by simp) ?_; refine AllReadyH.cons (o := _) rfl (fun K hK => ?_) AllReadyH.nil
                (refine step_append_Hw (some 92) rfl (by rfl) (.tmp 86) (.tmp 91) rfl (.slice A4 X.length c4v) X (by simp [Act.eval]) hL2.1 (some ⟨_, 0, none⟩) 1 1 [y] (by simp [Act.eval]) hnb2.src rfl (by omega) ?_; intro v5 W3 ho6 hk3 hb6; have hap := hT2.app hL2 ho6 hk3 hb6; have hT3 := hap.1; have hL3 := hap.2; have hH3 := hH2.chg hk3 hb2 hbv; have hb3 := Nat.lt_of_lt_of_le hb2 hk3.size; have hbm := List.mem_append.2 (Or.inr (a := b0 ∈ v5.ownBlock.toList) hbm); obtain ⟨A6, c6v, rfl, _, _⟩ := ho6.form; have hv3 : SlH W3 A6 (X.length + 1) (X ++ [y]) := (by have h := ho6.slh; rw [show (X ++ [y]).length = X.length + 1 by simp] at h; exact h); have hs3 := hs2.chg hk3 (fun b off e hm => absurd (hF5 b (hG5 b off e)) (by have := hlt5 b hm; omega)))
                refine hK.out _ _ (by (try dsimp only); exact ⟨hH3.c0, hH3.c1, hH3.c2, hH3.c3, hH3.c4, hH3.c5, hH3.c6⟩) (fun hHeld => ?_)
                clear hK K
                (try dsimp only)
                (try simp only [Act.put, List.setIfInBounds_toArray, List.set_cons_zero, List.set_cons_succ])
                refine wpAnyH_ready (rs := [11]) (by kernel_rfl) (by simp) ?_; refine AllReadyH.cons (o := _) rfl (fun K hK => ?_) AllReadyH.nil
                go_simp
                go_at_call 25
                refine (TSame_at A5 A6 Y.length (X.length + 1) c5 c6v Y (X ++ [y]) W3 hs3 hv3).mono ?_
                rintro e W4 ⟨rfl, hk4⟩
                rw [heq]
                have hT4 := hT3.new hk4
                have hH4 := hH3.chg hk4 hb3 (by simp)
                refine hK.out _ _ (by (try dsimp only); exact ⟨hH4.c0, hH4.c1, hH4.c2, hH4.c3, hH4.c4, hH4.c5, hH4.c6⟩) (fun hHeld => ?_)
                clear hK K
                (try simp only [Act.put, List.setIfInBounds_toArray, List.set_cons_zero, List.set_cons_succ])
                (refine take_on 12 (some 94) (v := ?_) rfl rfl (by kernel_rfl) (by kernel_rfl) (by kernel_rfl) (fun _ _ _ h => h) (by rfl) (by assumption) ?_ ?_; rotate_left; · (intro w hSw; (try dsimp only at hSw); go_simp; (try with_reducible rfl)))
                (try simp only [Act.put, List.setIfInBounds_toArray, List.set_cons_zero, List.set_cons_succ])
                (refine take_on 13 (some 6) (v := ?_) rfl rfl (by kernel_rfl) (by kernel_rfl) (by kernel_rfl) (fun _ _ _ h => h) (by rfl) (by assumption) ?_ ?_; rotate_left; · (intro w hSw; (try dsimp only at hSw); go_simp; (try with_reducible rfl)))
                (try simp only [Act.put, List.setIfInBounds_toArray, List.set_cons_zero, List.set_cons_succ])
                refine wpAnyH_done (by kernel_rfl) ?_ _
                refine NoPanic.normal ?_
                go_wp2_with fail
                go_ret
                exact ⟨rfl, hT4.chg0⟩
              · have heq : eqHs Y (X ++ [y]) = true := by rw [HX.out]; exact eqHs_self _
                have hk1 := (Chg.refl [] wr.drew).alloc (.cells #[.int .i64 y.a, .int .i64 y.p, .int .i64 y.f, .bool y.w, .bool y.u, .bool y.x, .bool y.d] 31)
                have hT1 := hT0.alloc (.cells #[.int .i64 y.a, .int .i64 y.p, .int .i64 y.f, .bool y.w, .bool y.u, .bool y.x, .bool y.d] 31)
                have hL1 := hL0.alloc (.cells #[.int .i64 y.a, .int .i64 y.p, .int .i64 y.f, .bool y.w, .bool y.u, .bool y.x, .bool y.d] 31)
                have hH1 := hH0.chg hk1 hb0 (by simp)
                have hb1 := Nat.lt_of_lt_of_le hb0 hk1.size
                have hnb1 := BlkH.new wr.drew y
                have eW : World.alloc wr.drew (.cells #[.int .i64 y.a, .int .i64 y.p, .int .i64 y.f, .bool y.w, .bool y.u, .bool y.x, .bool y.d] 31) = World.drew (World.alloc wr (.cells #[.int .i64 y.a, .int .i64 y.p, .int .i64 y.f, .bool y.w, .bool y.u, .bool y.x, .bool y.d] 31)) := rfl
                simp only [eW] at hT1 hL1 hH1 hb1 hnb1
                go_simp
                refine hK.out _ _ (by (try dsimp only); exact ⟨hH1.c0, hH1.c1, hH1.c2, hH1.c3, hH1.c4, hH1.c5, hH1.c6⟩) (fun hHeld => ?_)
                clear hK K
                (try simp only [Act.put, List.setIfInBounds_toArray, List.set_cons_zero, List.set_cons_succ])
                generalize hWW : World.drew (World.alloc wr (.cells #[.int .i64 y.a, .int .i64 y.p, .int .i64 y.f, .bool y.w, .bool y.u, .bool y.x, .bool y.d] 31)) = W1 at *
                clear hWW eW
                skip
                refine wpAnyH_ready (rs := [3]) (by kernel_rfl) (by simp) ?_; refine AllReadyH.cons (o := _) rfl (fun K hK => ?_) AllReadyH.nil
                go_simp
                go_at_call 26
                refine (TList_b hT1).mono ?_
                rintro e W2 ⟨A5, c5, G5, rfl, hT2, hk2, ho5, hG5, hF5⟩
                have hs2 := ho5.slh
                have hL2 := LB.more (G := G5) (hL1.new hk2)
                have hH2 := hH1.chg hk2 hb1 (by simp)
                have hb2 := Nat.lt_of_lt_of_le hb1 hk2.size
                have hlt5 := hL1.1.lt
                have hbm := List.mem_append.2 (Or.inr (a := b0 ∈ G5) hbm)
                have hnb2 := hnb1.chg hk2 (by simp)
                refine hK.out _ _ (by (try dsimp only); exact ⟨hH2.c0, hH2.c1, hH2.c2, hH2.c3, hH2.c4, hH2.c5, hH2.c6⟩) (fun hHeld => ?_)
                clear hK K
                (try simp only [Act.put, List.setIfInBounds_toArray, List.set_cons_zero, List.set_cons_succ])
                refine wpAnyH_ready (rs := [10]) (by kernel_rfl) (by simp) ?_; refine AllReadyH.cons (o := _) rfl (fun K hK => ?_) AllReadyH.nil
                (refine step_append_Hw (some 92) rfl (by rfl) (.tmp 86) (.tmp 91) rfl (.slice A4 X.length c4v) X (by simp [Act.eval]) hL2.1 (some ⟨_, 0, none⟩) 1 1 [y] (by simp [Act.eval]) hnb2.src rfl (by omega) ?_; intro v5 W3 ho6 hk3 hb6; have hap := hT2.app hL2 ho6 hk3 hb6; have hT3 := hap.1; have hL3 := hap.2; have hH3 := hH2.chg hk3 hb2 hbv; have hb3 := Nat.lt_of_lt_of_le hb2 hk3.size; have hbm := List.mem_append.2 (Or.inr (a := b0 ∈ v5.ownBlock.toList) hbm); obtain ⟨A6, c6v, rfl, _, _⟩ := ho6.form; have hv3 : SlH W3 A6 (X.length + 1) (X ++ [y]) := (by have h := ho6.slh; rw [show (X ++ [y]).length = X.length + 1 by simp] at h; exact h); have hs3 := hs2.chg hk3 (fun b off e hm => absurd (hF5 b (hG5 b off e)) (by have := hlt5 b hm; omega)))
                refine hK.out _ _ (by (try dsimp only); exact ⟨hH3.c0, hH3.c1, hH3.c2, hH3.c3, hH3.c4, hH3.c5, hH3.c6⟩) (fun hHeld => ?_)
                clear hK K
                (try dsimp only)
                (try simp only [Act.put, List.setIfInBounds_toArray, List.set_cons_zero, List.set_cons_succ])
                refine wpAnyH_ready (rs := [11]) (by kernel_rfl) (by simp) ?_; refine AllReadyH.cons (o := _) rfl (fun K hK => ?_) AllReadyH.nil
                go_simp
                go_at_call 25
                refine (TSame_at A5 A6 Y.length (X.length + 1) c5 c6v Y (X ++ [y]) W3 hs3 hv3).mono ?_
                rintro e W4 ⟨rfl, hk4⟩
                rw [heq]
                have hT4 := hT3.new hk4
                have hH4 := hH3.chg hk4 hb3 (by simp)
                refine hK.out _ _ (by (try dsimp only); exact ⟨hH4.c0, hH4.c1, hH4.c2, hH4.c3, hH4.c4, hH4.c5, hH4.c6⟩) (fun hHeld => ?_)
                clear hK K
                (try simp only [Act.put, List.setIfInBounds_toArray, List.set_cons_zero, List.set_cons_succ])
                (refine take_on 12 (some 94) (v := ?_) rfl rfl (by kernel_rfl) (by kernel_rfl) (by kernel_rfl) (fun _ _ _ h => h) (by rfl) (by assumption) ?_ ?_; rotate_left; · (intro w hSw; (try dsimp only at hSw); go_simp; (try with_reducible rfl)))
                (try simp only [Act.put, List.setIfInBounds_toArray, List.set_cons_zero, List.set_cons_succ])
                (refine take_on 13 (some 6) (v := ?_) rfl rfl (by kernel_rfl) (by kernel_rfl) (by kernel_rfl) (fun _ _ _ h => h) (by rfl) (by assumption) ?_ ?_; rotate_left; · (intro w hSw; (try dsimp only at hSw); go_simp; (try with_reducible rfl)))
                (try simp only [Act.put, List.setIfInBounds_toArray, List.set_cons_zero, List.set_cons_succ])
                refine wpAnyH_done (by kernel_rfl) ?_ _
                refine NoPanic.normal ?_
                go_wp2_with fail
                go_ret
                exact ⟨rfl, hT4.chg0⟩

end Go.Proofs.Ytikdoldmhlbklaa
