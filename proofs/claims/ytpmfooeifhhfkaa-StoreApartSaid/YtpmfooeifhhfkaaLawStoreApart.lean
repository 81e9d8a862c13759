/-
  StoreApart: the law, walked from contracts.
-/
import Derived.Test.YtpmfooeifhhfkaaStoreU
import Derived.Deep.CutRange
namespace Go.Proofs.Ytpmfooeifhhfkaa
open Go.RowKit Go.Maps

set_option maxRecDepth 100000 in
set_option maxHeartbeats 20000000 in
/-- pages are apart, within the frames that they may have, of unlike, right keys, by which each is found; as many are free as are no pages -/
theorem lawStoreApart_any (many : Nat) (A : Option Addr) (n c : Nat) (L : List Ost) (w : World) (hmn : many ≤ 255) (hl : OpsIn w A n L) :
    Calls Try.prog 6 #[.int .u8 many, .slice A n c] w fun e w' => e = .returned (.bool true) ∧ Chg [] w w' := by
  have hm18 : many % 19 ≤ 18 := by omega
  have hNew := fun w' => New_at 24 w' (by omega) (by omega)
  have hHd := fun w' => SThead_any w'
  have hn9 := hl.sl.le
  have hnn := hl.sl.len
  replace hnn := Lib.hid hnn
  have H0 := SepC.nil w
  by_cases h200 : (200 : Int) < n
  · have hgt : decide ((n : Int) > 200) = true := by simpa using h200
    go_enter Try.func6, Try.ntmps6
    go_wp2_with fail
    refine (hHd _).mono ?_; rintro e z1 ⟨rfl, y1⟩
    have H1 := H0.new y1
    clear H0 y1 hHd
    go_wp2_with fail
    refine (hNew _).mono ?_; rintro e z2 ⟨hp, hb, rfl, y2, hm, hg1, hg2⟩
    have H2 := H1.new y2
    clear hm hg1 hg2 H1 hNew
    go_wp2_with fail
    go_ret
    exact ⟨rfl, H2.1⟩
  have hgt : decide ((n : Int) > 200) = false := by simpa using h200
  go_enter Try.func6, Try.ntmps6
  go_wp2_with fail
  refine (hHd _).mono ?_; rintro e z1 ⟨rfl, y1⟩
  have H1 := H0.new y1
  clear H0 y1 hHd
  go_wp2_with fail
  refine (hNew _).mono ?_; rintro e z2 ⟨hp, hb, rfl, y2, hm, hg1, hg2⟩
  have H2 := H1.lay (P := hoT hp hb 24 (zeros 192)) (S := [hb, hp]) y2 ⟨rfl, hm⟩ (by intro i hi; simp only [List.mem_cons, List.not_mem_nil, or_false] at hi; rcases hi with rfl | rfl <;> assumption)
  clear hm hg1 hg2 H1 hNew
  have hn200 : n ≤ 200 := by omega
  change SepC w z2 (hoT hp hb 24 (zeros 192) :: []) at H2
  obtain ⟨M, hM⟩ : ∃ M, many % 19 = M := ⟨_, rfl⟩
  go_wp2_with fail
  rw [hM] at hm18
  have hM2 : ((many : Nat) : Int) % 19 = (M : Int) := by omega
  rw [hM2]
  clear hM hM2
  refine (H2.sNew (a := 6) (m := M) (by omega)).mono ?_; rintro e z3 ⟨q, rfl, H3⟩
  change SepC w z3 (stT q hp hb 24 6 M (st0 M) :: []) at H3
  clear H2
  have hw6 : wrap64 (6 + (M : Int)) = 6 + (M : Int) := by unfold wrap64; omega
  have hgm : decide ((M : Int) > 18) = false := by simp; omega
  go_wp2_with fail
  go_loopw [9] (fun s_ wr => ∃ k : Nat, k ≤ n ∧ s_ = .int .i64 k ∧ SepC w wr (stT q hp hb 24 6 M (runP 24 (st0 M) (L.take k)) :: [])) (fun s_ _ => n - (intOf s_).toNat)
  case atStart => exact ⟨0, Nat.zero_le _, rfl, by simpa [runP] using H3⟩
  case round =>
    obtain ⟨k, hk, rfl, H⟩ := hrel
    clear H3
    by_cases hlt : k < n
    · have hltz : (k : Int) < (n : Int) := by omega
      obtain ⟨b, off, o, rfl, ho, c0, c1, c2, c3, c4, c5, c6, c7, c8, c9, c10⟩ := opE_cells (hl.new H.1).sl hlt
      have hP := H.sPlay o (hl.at_ ho)
      rw [← runP_take ho] at hP
      simp only [Ost.cs] at hP
      clear H
      go_wp2_with fail
      refine (hP).mono ?_; rintro e w2 ⟨rfl, H2⟩
      clear hP c0 c1 c2 c3 c4 c5 c6 c7 c8 c9 c10
      obtain ⟨s, hs⟩ : ∃ s, runP 24 (st0 M) (L.take (k + 1)) = s := ⟨_, rfl⟩
      rw [hs] at H2
      have hok := H2.sok
      replace hs := Lib.hid hs
      have hN := hok.le256
      have hcnt := hok.cnt
      have hpl := fun j (hj : j < s.L.length) => hok.place hj
      have hrg := hok.right
      have hfd := fun q_ hq_ => findV_of hok (q := q_) hq_
      have hmi := fun q_ (hq_ : q_ ∈ s.L) => hok.own1 hq_
      have hol := fun g => ofP_len s.L g
      have hin := fun q_ (hq_ : q_ ∈ s.L) => hok.inL hq_
      have cA := H2.sAll
      rw [List.length_map] at cA
      obtain ⟨F7, hF7⟩ : ∃ F7, s.L.map Pg.f = F7 := ⟨_, rfl⟩
      rw [hF7] at cA hpl
      clear hF7
      obtain ⟨N7, hN7⟩ : ∃ N7, s.L.length = N7 := ⟨_, rfl⟩
      rw [hN7] at cA hpl hN hcnt
      simp only [hN7] at hol
      clear hN7
      go_wp2_with fail
      refine (cA).mono ?_; rintro e w3 ⟨A7, c7, rfl, H7⟩
      have H8 := H7.swap
      clear H2 H7 cA
      obtain ⟨R7, hR7⟩ : ∃ R7, s.fr.length = R7 := ⟨_, rfl⟩
      have cL := H8.sLeft
      rw [hR7] at cL hcnt
      clear hR7
      have hsum : wrap64 ((R7 : Int) + (N7 : Int)) = (M : Int) := by unfold wrap64; omega
      have hsum2 : IntKind.i64.wrap ((R7 : Int) + (N7 : Int)) = (M : Int) := by rw [IntWalk.i64_in _ (by omega)]; omega
      replace hcnt := Lib.hid hcnt
      go_wp2_with fail
      refine (cL).mono ?_; rintro e w4 ⟨rfl, y4⟩
      have H9 := H8.new y4
      clear H8 y4 cL
      go_wp2_with fail
      go_loopw [11] (fun s11 wr => ∃ j : Nat, j ≤ N7 ∧ s11 = .int .i64 j ∧ SepC w wr (stT q hp hb 24 6 M s :: ownT (numE .i64) 3 (.slice A7 N7 c7) F7 :: [])) (fun s11 _ => N7 - (intOf s11).toNat)
      case atStart => exact ⟨0, Nat.zero_le _, rfl, H9⟩
      case round =>
        obtain ⟨j, hj, rfl, H⟩ := hrel
        clear H9
        by_cases hjl : j < N7
        · have hjz : (j : Int) < (N7 : Int) := by omega
          obtain ⟨qj, hq0, hqm, hqa, hqk, hqr, hqF⟩ := hpl j hjl
          obtain ⟨ab, aoff, ax, rfl, _, hax, hac⟩ := SlN.get (H.pick 1 rfl).own.slg hjl
          rw [hqF] at hax; cases hax
          have hpr : -9223372036854775808 ≤ qj.f ∧ qj.f ≤ 9223372036854775807 := by omega
          have cK := H.sKey qj.f hpr
          rw [hqa, hqk] at cK
          simp only [Option.isSome_some, Ky.cs] at cK
          have hkr : 1 ≤ qj.k.lev ∧ qj.k.lev ≤ 3 ∧ (qj.k.role ≠ 0 → qj.k.lev = 1) := by have := hrg qj hqm; unfold Ky.right at this; rw [decide_eq_true_eq] at this; omega
          obtain ⟨hf1, hf2⟩ := hfd qj hqm
          have hmj := hmi qj hqm
          have hij := hin qj hqm
          have hacO : ∀ w', OwnG (numE .i64) w' 3 (.slice (some ⟨ab, aoff, none⟩) N7 c7) F7 → w'.cell? ⟨ab, aoff + j, none⟩ = some (.int .i64 qj.f) := fun w' ho => by
            obtain ⟨b_, o_, x_, hb_, _, hx_, hc_⟩ := SlN.get ho.slg hjl
            cases hb_
            rw [hqF] at hx_; cases hx_
            exact hc_
          clear hq0 hqk hqF hqa
          generalize qj.f = fj at *
          generalize qj.k = kj at *
          obtain ⟨kg, kl, kr⟩ := kj
          simp only at cK hkr hmj hf1 hf2
          go_wp2_with fail
          refine (cK).mono ?_; rintro e w5 ⟨rfl, y5⟩
          clear cK hac
          have H10 := (H.new y5).alloc #[.int .i64 kg, .int .i64 kl, .int .i64 kr] 24
          clear H y5
          have bk := H10.blk
          have x0 := bk.cell 0; have x1 := bk.cell 1; have x2 := bk.cell 2
          simp only [List.getElem?_toArray, List.getElem?_cons_zero, List.getElem?_cons_succ] at x0 x1 x2
          have H11 : SepC w (w5.alloc (.cells #[.int .i64 kg, .int .i64 kl, .int .i64 kr] 24)) (stT q hp hb 24 6 M s :: blkT w5.heap.size 24 #[.int .i64 kg, .int .i64 kl, .int .i64 kr] :: ownT (numE .i64) 3 (.slice (some ⟨ab, aoff, none⟩) N7 c7) F7 :: []) := H10.swap
          clear H10
          have cF := H11.sFind ⟨kg, kl, kr⟩
          rw [hf1, hf2] at cF
          simp only [Ky.cs] at cF
          go_wp2_with fail
          refine (cF).mono ?_; rintro e w6 ⟨rfl, y6⟩
          generalize w5.alloc (.cells #[.int .i64 kg, .int .i64 kl, .int .i64 kr] 24) = w55 at *
          generalize w5.heap.size = kb at *
          clear cF bk x0 x1 x2 hf1 hf2
          have H12 := H11.new y6
          clear H11 y6
          have bk := (H12.pick 1 rfl).blk
          have x0 := bk.cell 0; have x1 := bk.cell 1; have x2 := bk.cell 2
          simp only [List.getElem?_toArray, List.getElem?_cons_zero, List.getElem?_cons_succ] at x0 x1 x2
          have hac := hacO _ (H12.pick 2 rfl).own
          have g1 : decide (fj < 6) = false := decide_eq_false (by clear hsum hsum2 hw6; omega)
          have g2 : decide (fj ≥ 6 + (M : Int)) = false := decide_eq_false (by clear hsum hsum2 hw6; omega)
          have g3 : decide (kl < 1) = false := decide_eq_false (by clear hsum hsum2 hw6; omega)
          have g4 : decide (kl > 3) = false := decide_eq_false (by clear hsum hsum2 hw6; omega)
          have g5 : (fj != fj) = false := by simp
          have cO := H12.sOf kg
          have hol2 := hol kg
          obtain ⟨T, hT⟩ : ∃ T, ofP s.L kg = T := ⟨_, rfl⟩
          rw [hT] at cO hmj hol2
          clear hT
          by_cases hr0 : kr = 0
          · subst hr0
            have hc1 : T.count fj = 1 := by rw [hmj]; rfl
            have g6 : ((0 : Int) != 0) = false := rfl
            clear hmj hkr
            replace hc1 := Lib.hid hc1
            go_wp2_with fail
            refine (cO).mono ?_; rintro e w7 ⟨A8, c8, rfl, H13⟩
            clear cO hac bk x0 x1 x2
            obtain ⟨N8, hN8⟩ : ∃ N8, T.length = N8 := ⟨_, rfl⟩
            rw [hN8] at H13 hol2
            go_wp2_with fail
            skip
            replace hN8 := Lib.hid hN8
            go_loopw [17, 18] (fun s17 s18 wr => ∃ b : Nat, b ≤ N8 ∧ s18 = .int .i64 b ∧ s17 = .int .i64 ((T.take b).count fj : Nat) ∧ SepC w wr (ownT (numE .i64) 3 (.slice A8 N8 c8) T :: stT q hp hb 24 6 M s :: blkT kb 24 #[.int .i64 kg, .int .i64 kl, .int .i64 0] :: ownT (numE .i64) 3 (.slice (some ⟨ab, aoff, none⟩) N7 c7) F7 :: [])) (fun _ s18 _ => N8 - (intOf s18).toNat)
            case atStart => exact ⟨0, Nat.zero_le _, rfl, by simp, H13⟩
            case round =>
              obtain ⟨b, hb8, rfl, rfl, H14⟩ := hrel
              clear H13
              have hcb : (T.take b).count fj ≤ 256 := Nat.le_trans List.count_le_length (by rw [List.length_take]; omega)
              by_cases hbl : b < N8
              · have hbz : (b : Int) < (N8 : Int) := by omega
                obtain ⟨b8, o8, x8, rfl, _, hx8, hc8⟩ := SlN.get (H14.pick 0 rfl).own.slg hbl
                have hst := count_step (f := fj) hx8
                clear hx8
                generalize hcc : (T.take b).count fj = C at *
                replace hcc := Lib.hid hcc
                by_cases hxf : x8 = fj
                · subst hxf
                  rw [if_pos rfl] at hst
                  replace hst := Lib.hid hst
                  go_wp2_with fail
                  go_roundw
                  case rel => exact ⟨b + 1, by omega, by go_num, by rw [hst.out]; go_num, H14⟩
                  case measure => simp [intOf]; omega
                · have hxf2 : (x8 == fj) = false := by simpa using hxf
                  rw [if_neg hxf] at hst
                  replace hst := Lib.hid hst
                  replace hxf := Lib.hid hxf
                  go_wp2_with fail
                  go_roundw
                  case rel => exact ⟨b + 1, by omega, by go_num, by rw [hst.out]; rfl, H14⟩
                  case measure => simp [intOf]; omega
              · obtain rfl : b = N8 := by omega
                have hbz : ¬ (b : Int) < (b : Int) := by omega
                have hcC : (T.take b).count fj = 1 := by rw [List.take_of_length_le (Nat.le_of_eq hN8.out)]; exact hc1.out
                have bk := (H14.pick 2 rfl).blk
                have x2 := bk.cell 2
                simp only [List.getElem?_toArray, List.getElem?_cons_zero, List.getElem?_cons_succ] at x2
                replace H14 : SepC w wr (stT q hp hb 24 6 M s :: ownT (numE .i64) 3 (.slice (some ⟨ab, aoff, none⟩) N7 c7) F7 :: []) := ((H14.tail.pick 1 rfl).tail)
                go_wp2_with fail
                go_roundw
                case rel => exact ⟨j + 1, by omega, by go_num, H14⟩
                case measure => simp [intOf]; omega
          · have hc1 : T.count fj = 0 := by rw [hmj, if_neg hr0]
            have g6 : (kr != 0) = true := by simpa using hr0
            have hl1 : kl = 1 := hkr.2.2 hr0
            subst hl1
            have g7 : (kr == 0) = false := by simpa using hr0
            clear hmj hkr
            replace hc1 := Lib.hid hc1
            replace hr0 := Lib.hid hr0
            go_wp2_with fail
            refine (cO).mono ?_; rintro e w7 ⟨A8, c8, rfl, H13⟩
            clear cO hac bk x0 x1 x2
            obtain ⟨N8, hN8⟩ : ∃ N8, T.length = N8 := ⟨_, rfl⟩
            rw [hN8] at H13 hol2
            go_wp2_with fail
            skip
            replace hN8 := Lib.hid hN8
            go_loopw [17, 18] (fun s17 s18 wr => ∃ b : Nat, b ≤ N8 ∧ s18 = .int .i64 b ∧ s17 = .int .i64 ((T.take b).count fj : Nat) ∧ SepC w wr (ownT (numE .i64) 3 (.slice A8 N8 c8) T :: stT q hp hb 24 6 M s :: blkT kb 24 #[.int .i64 kg, .int .i64 1, .int .i64 kr] :: ownT (numE .i64) 3 (.slice (some ⟨ab, aoff, none⟩) N7 c7) F7 :: [])) (fun _ s18 _ => N8 - (intOf s18).toNat)
            case atStart => exact ⟨0, Nat.zero_le _, rfl, by simp, H13⟩
            case round =>
              obtain ⟨b, hb8, rfl, rfl, H14⟩ := hrel
              clear H13
              have hcb : (T.take b).count fj ≤ 256 := Nat.le_trans List.count_le_length (by rw [List.length_take]; omega)
              by_cases hbl : b < N8
              · have hbz : (b : Int) < (N8 : Int) := by omega
                obtain ⟨b8, o8, x8, rfl, _, hx8, hc8⟩ := SlN.get (H14.pick 0 rfl).own.slg hbl
                have hst := count_step (f := fj) hx8
                clear hx8
                generalize hcc : (T.take b).count fj = C at *
                replace hcc := Lib.hid hcc
                by_cases hxf : x8 = fj
                · subst hxf
                  rw [if_pos rfl] at hst
                  replace hst := Lib.hid hst
                  go_wp2_with fail
                  go_roundw
                  case rel => exact ⟨b + 1, by omega, by go_num, by rw [hst.out]; go_num, H14⟩
                  case measure => simp [intOf]; omega
                · have hxf2 : (x8 == fj) = false := by simpa using hxf
                  rw [if_neg hxf] at hst
                  replace hst := Lib.hid hst
                  replace hxf := Lib.hid hxf
                  go_wp2_with fail
                  go_roundw
                  case rel => exact ⟨b + 1, by omega, by go_num, by rw [hst.out]; rfl, H14⟩
                  case measure => simp [intOf]; omega
              · obtain rfl : b = N8 := by omega
                have hbz : ¬ (b : Int) < (b : Int) := by omega
                have hcC : (T.take b).count fj = 0 := by rw [List.take_of_length_le (Nat.le_of_eq hN8.out)]; exact hc1.out
                have bk := (H14.pick 2 rfl).blk
                have x2 := bk.cell 2
                simp only [List.getElem?_toArray, List.getElem?_cons_zero, List.getElem?_cons_succ] at x2
                replace H14 : SepC w wr (stT q hp hb 24 6 M s :: ownT (numE .i64) 3 (.slice (some ⟨ab, aoff, none⟩) N7 c7) F7 :: []) := ((H14.tail.pick 1 rfl).tail)
                go_wp2_with fail
                go_roundw
                case rel => exact ⟨j + 1, by omega, by go_num, H14⟩
                case measure => simp [intOf]; omega
        · obtain rfl : j = N7 := by omega
          have hjz : ¬ (j : Int) < (j : Int) := by omega
          skip
          replace H := ((H.pick 1 rfl).tail)
          rw [← hs.out] at H
          go_wp2_with fail
          go_roundw
          case rel => exact ⟨k + 1, by omega, by go_num, H⟩
          case measure => simp [intOf]; omega
    · obtain rfl : k = n := by omega
      have hltz : ¬ (k : Int) < (k : Int) := by omega
      go_wp2_with fail
      go_ret
      exact ⟨rfl, H.1⟩

theorem StoreApart_walk (many : Int) (A : Option Addr) (n c : Nat) (L : List Ost) (w : World) (hl : OpsIn w A n L) (hmn : 0 ≤ many ∧ many ≤ 255) :
    Calls Try.prog 6 #[.int .u8 many, .slice A n c] w fun e w' => e = .returned (.bool true) ∧ Chg [] w w' := by
  obtain ⟨k, rfl⟩ := Int.eq_ofNat_of_zero_le hmn.1
  exact lawStoreApart_any k A n c L w (by omega) hl

end Go.Proofs.Ytpmfooeifhhfkaa
