/-
  StoreMakes: the law, walked from contracts.
-/
import Derived.Test.YtpmfooeifhhfkaaStoreQ
import Derived.Deep.CutRange
namespace Go.Proofs.Ytpmfooeifhhfkaa
open Go.RowKit Go.Maps

set_option maxRecDepth 100000 in
set_option maxHeartbeats 20000000 in
/-- a page that is made is found, is the last one, and empty; with all frames taken none is made -/
theorem lawStoreMakes_any (A : Option Addr) (n c : Nat) (L : List Ost) (k0 : Ky) (w : World) (hl : OpsIn w A n L) :
    Calls Try.prog 9 #[.slice A n c, .agg k0.cs] w fun e w' => e = .returned (.bool true) ∧ Chg [] w w' := by
  obtain ⟨kg, kl, kr⟩ := k0
  simp only [Ky.cs]
  have hNew := fun w' => New_at 24 w' (by omega) (by omega)
  have hHd := fun w' => SThead_any w'
  have hn9 := hl.sl.le
  have hnn := hl.sl.len
  replace hnn := Lib.hid hnn
  have H0 := (SepC.nil w).alloc #[.int .i64 kg, .int .i64 kl, .int .i64 kr] 24
  by_cases h200 : (200 : Int) < n
  · have hgt : decide ((n : Int) > 200) = true := by simpa using h200
    go_enter Try.func9, Try.ntmps9
    go_wp2_with fail
    generalize (w.alloc (.cells #[.int .i64 kg, .int .i64 kl, .int .i64 kr] 24)) = z0 at *
    refine (hHd _).mono ?_; rintro e z1 ⟨rfl, y1⟩
    have H1 := H0.new y1
    clear H0 y1 hHd
    go_wp2_with fail
    refine (hNew _).mono ?_; rintro e z2 ⟨hp, hb, rfl, y2, hm, hg1, hg2⟩
    have H2 := H1.new y2
    clear hm hg1 hg2 H1 hNew
    go_wp2_with fail
    go_ret
    exact ⟨rfl, H2.1⟩
  have hgt : decide ((n : Int) > 200) = false := by simpa using h200
  go_enter Try.func9, Try.ntmps9
  go_wp2_with fail
  generalize (w.alloc (.cells #[.int .i64 kg, .int .i64 kl, .int .i64 kr] 24)) = z0 at *
  refine (hHd _).mono ?_; rintro e z1 ⟨rfl, y1⟩
  have H1 := H0.new y1
  clear H0 y1 hHd
  go_wp2_with fail
  refine (hNew _).mono ?_; rintro e z2 ⟨hp, hb, rfl, y2, hm, hg1, hg2⟩
  have H2 := H1.lay (P := hoT hp hb 24 (zeros 192)) (S := [hb, hp]) y2 ⟨rfl, hm⟩ (by intro i hi; simp only [List.mem_cons, List.not_mem_nil, or_false] at hi; rcases hi with rfl | rfl <;> assumption)
  clear hm hg1 hg2 H1 hNew
  have hn200 : n ≤ 200 := by omega
  change SepC w z2 (hoT hp hb 24 (zeros 192) :: blkT w.heap.size 24 #[.int .i64 kg, .int .i64 kl, .int .i64 kr] :: []) at H2
  go_wp2_with fail
  refine (H2.sNew (a := 6) (m := 9) (by omega)).mono ?_; rintro e z3 ⟨q, rfl, H3⟩
  change SepC w z3 (stT q hp hb 24 6 9 (st0 9) :: _) at H3
  clear H2
  go_wp2_with fail
  go_loopw [8] (fun s_ wr => ∃ k : Nat, k ≤ n ∧ s_ = .int .i64 k ∧ SepC w wr (stT q hp hb 24 6 9 (runP 24 (st0 9) (L.take k)) :: blkT w.heap.size 24 #[.int .i64 kg, .int .i64 kl, .int .i64 kr] :: [])) (fun s_ _ => n - (intOf s_).toNat)
  case atStart => exact ⟨0, Nat.zero_le _, rfl, by simpa [runP] using H3⟩
  case round =>
    obtain ⟨k, hk, rfl, H⟩ := hrel
    clear H3
    by_cases hlt : k < n
    · have hltz : (k : Int) < (n : Int) := by omega
      obtain ⟨b, off, o, rfl, ho, c0, c1, c2, c3, c4, c5, c6, c7, c8, c9, c10⟩ := opE_cells (hl.new H.1).sl hlt
      have hP := H.sPlay o (hl.at_ ho)
      rw [← runP_take ho] at hP
      simp only [Ost.cs] at hP
      clear H
      go_wp2_with fail
      refine hP.mono ?_; rintro e w2 ⟨rfl, H2⟩
      clear hP c0 c1 c2 c3 c4 c5 c6 c7 c8 c9 c10
      go_wp2_with fail
      go_roundw
      case rel => exact ⟨k + 1, by omega, by go_num, H2⟩
      case measure => simp [intOf]; omega
    · obtain rfl : k = n := by omega
      have hltz : ¬ (k : Int) < (k : Int) := by omega
      rw [List.take_of_length_le (Nat.le_of_eq hnn.out)] at H
      obtain ⟨s, hs⟩ : ∃ s, runP 24 (st0 9) L = s := ⟨_, rfl⟩
      rw [hs] at H
      have hok := H.sok
      clear hs hltz
      have hKy := (⟨kg, kl, kr⟩ : Ky).cs
      clear hKy
      have hbk := (H.pick 1 rfl).blk
      have x0 := hbk.cell 0; have x1 := hbk.cell 1; have x2 := hbk.cell 2
      simp only [List.getElem?_toArray, List.getElem?_cons_zero, List.getElem?_cons_succ] at x0 x1 x2
      have cF := H.sFind ⟨kg, kl, kr⟩
      simp only [Ky.cs] at cF
      go_wp2_with fail
      refine (cF).mono ?_; rintro e z4 ⟨rfl, y4⟩
      replace H := H.new y4
      clear cF y4 x0 x1 x2 hbk
      go_wp2_with fail
      refine (H.sLeft).mono ?_; rintro e z5 ⟨rfl, y5⟩
      replace H := H.new y5
      clear y5
      have hbk := (H.pick 1 rfl).blk
      have x0 := hbk.cell 0; have x1 := hbk.cell 1; have x2 := hbk.cell 2
      simp only [List.getElem?_toArray, List.getElem?_cons_zero, List.getElem?_cons_succ] at x0 x1 x2
      go_upto_region 14 with fail
      go_cut [12] from 61 to 88 (fun cv wx => cv = .bool (Ky.right ⟨kg, kl, kr⟩) ∧ wx = z5)
      case first =>
        cases hkr0 : (kr == 0)
        all_goals cases hkl1 : (kl == 1)
        all_goals go_wp2
        all_goals go_meet
        all_goals refine ⟨congrArg Value.bool ?_, rfl⟩
        all_goals (unfold Ky.right; simp only [beq_iff_eq, beq_eq_false_iff_ne, ne_eq] at *; rw [Bool.eq_iff_iff]; simp only [decide_eq_true_eq, Bool.false_eq_true, false_iff, true_iff]; omega)
      case rest =>
        obtain ⟨rfl, rfl⟩ := hcut
        have hmB : makeB s (⟨kg, kl, kr⟩ : Ky) = ((pgOf s.L (⟨kg, kl, kr⟩ : Ky)).isNone && Ky.right (⟨kg, kl, kr⟩ : Ky) && !s.fr.isEmpty) := rfl
        have cM := H.sMake (⟨kg, kl, kr⟩ : Ky)
        simp only [Ky.cs] at cM
        have hin : (pgOf s.L (⟨kg, kl, kr⟩ : Ky)).isNone = !(pgOf s.L (⟨kg, kl, kr⟩ : Ky)).isSome := by cases pgOf s.L (⟨kg, kl, kr⟩ : Ky) <;> rfl
        rw [hin] at hmB
        generalize hhad : (pgOf s.L (⟨kg, kl, kr⟩ : Ky)).isSome = had at *
        generalize hrt : Ky.right (⟨kg, kl, kr⟩ : Ky) = rt at *
        clear hin hhad hrt
        cases hB : makeB s (⟨kg, kl, kr⟩ : Ky) with
        | false =>
          have e1 := make_no (n := 24) hB
          rw [e1.1, e1.2] at cM
          clear e1
          rw [hB] at hmB cM
          replace hB := Lib.hid hB
          cases had with
          | true =>
            clear hmB
            go_wp2_with fail
            refine (cM).mono ?_; rintro e z6 ⟨rfl, H6⟩
            clear cM H x0 x1 x2 hbk
            go_wp2_with fail
            refine (H6.sAll).mono ?_; rintro e z7 ⟨A7, c7, rfl, H7⟩
            have H8 := H7.swap
            clear H6 H7
            go_wp2_with fail
            refine (H8.sLeft).mono ?_; rintro e z8 ⟨rfl, y8⟩
            have H9 := H8.new y8
            go_wp2_with fail
            go_ret
            exact ⟨rfl, H9.1⟩
          | false =>
            cases rt with
            | false =>
              clear hmB
              go_wp2_with fail
              refine (cM).mono ?_; rintro e z6 ⟨rfl, H6⟩
              clear cM H x0 x1 x2 hbk
              go_wp2_with fail
              refine (H6.sAll).mono ?_; rintro e z7 ⟨A7, c7, rfl, H7⟩
              have H8 := H7.swap
              clear H6 H7
              go_wp2_with fail
              refine (H8.sLeft).mono ?_; rintro e z8 ⟨rfl, y8⟩
              have H9 := H8.new y8
              go_wp2_with fail
              go_ret
              exact ⟨rfl, H9.1⟩
            | true =>
              have hfr0 : s.fr = [] := by simpa using hmB
              have hgt0 : (s.fr.length : Int) = 0 := by rw [hfr0]; rfl
              clear hmB
              generalize hfl : (s.fr.length : Int) = fl at *
              subst hgt0
              go_wp2_with fail
              refine (cM).mono ?_; rintro e z6 ⟨rfl, H6⟩
              clear cM H x0 x1 x2 hbk
              go_wp2_with fail
              refine (H6.sAll).mono ?_; rintro e z7 ⟨A7, c7, rfl, H7⟩
              have H8 := H7.swap
              clear H6 H7
              go_wp2_with fail
              refine (H8.sLeft).mono ?_; rintro e z8 ⟨rfl, y8⟩
              have H9 := H8.new y8
              go_wp2_with fail
              go_ret
              exact ⟨rfl, H9.1⟩
        | true =>
          have hok2 := hok.le256
          have hfr9 : s.fr.length ≤ 256 := by have := hok.cnt; omega
          have M := hok.made hB
          rw [hB] at hmB cM
          obtain rfl : had = false := by
            cases had
            · rfl
            · simp at hmB
          obtain rfl : rt = true := by
            cases rt
            · simp at hmB
            · rfl
          have hfp : 0 < s.fr.length := by have := M.left; omega
          have hgt0 : decide ((s.fr.length : Int) > 0) = true := by simpa using hfp
          have hgt1 : (s.fr.length : Int) > 0 := by omega
          clear hmB
          have hleft := M.left
          have hMf := M.f; have hMi := M.is; have hMs := M.sl; have hMw := M.wd; have hMa := M.all; have hMr := M.rg
          generalize makeS 24 s (⟨kg, kl, kr⟩ : Ky) = s6 at *
          generalize makeV s (⟨kg, kl, kr⟩ : Ky) = mv at *
          clear M hB hok
          replace hMa := Lib.hid hMa
          obtain ⟨N7, hN7⟩ : ∃ N7, s.L.length = N7 := ⟨_, rfl⟩
          have hN256 := hok2
          rw [hN7] at hN256
          replace hN7 := Lib.hid hN7
          go_wp2_with fail
          refine (cM).mono ?_; rintro e z6 ⟨rfl, H6⟩
          clear cM H x0 x1 x2 hbk
          have cA := H6.sAll
          rw [hMa.out] at cA
          have hl7 : (s.L.map Pg.f ++ [mv]).length = N7 + 1 := by rw [List.length_append, List.length_map, hN7.out]; rfl
          rw [hl7] at cA
          go_wp2_with fail
          refine (cA).mono ?_; rintro e z7 ⟨A7, c7, rfl, H7⟩
          have H8 := H7.swap
          clear H6 H7 cA
          go_wp2_with fail
          go_loopw [16] (fun s_ wr => ∃ i : Nat, i ≤ 8 ∧ s_ = .int .i64 i ∧ SepC w wr (stT q hp hb 24 6 9 s6 :: ownT (numE .i64) 3 (.slice A7 (N7 + 1) c7) (s.L.map Pg.f ++ [mv]) :: blkT w.heap.size 24 #[.int .i64 kg, .int .i64 kl, .int .i64 kr] :: [])) (fun s_ _ => 8 - (intOf s_).toNat)
          case atStart => exact ⟨0, by omega, rfl, H8⟩
          case round =>
            obtain ⟨i, hi, rfl, H9⟩ := hrel
            clear H8
            by_cases hlt8 : i < 8
            · have hz8 : (i : Int) < 8 := by omega
              have cS := H9.sSlot mv i (by omega)
              rw [slotV_at (hMs i hlt8), hMs i hlt8] at cS
              simp only [Option.isSome_some, Slt.cl, Slt.no] at cS
              have cG := fun w' (y : Chg [] wr w') => Get_at hp hb 24 s6.W mv i w' ((H9.new y).smem)
              rw [hMw i hlt8] at cG
              have hns := run_neSl Slt.no Slt.no
              rw [decide_eq_true (rfl : Slt.no = Slt.no)] at hns
              simp only [Slt.cl, Slt.no, Bool.not_true] at hns
              generalize hasW 24 mv (i : Int) = hwb at *
              go_wp2_with fail
              refine (cS).mono ?_; rintro e z9 ⟨rfl, y9⟩
              clear cS
              have ya := (y9.alloc (.cells #[.int .i64 0, .int .i64 0, .bool false, .bool false, .bool false] 45))
              have bs := Blk.new z9 45 #[.int .i64 0, .int .i64 0, .bool false, .bool false, .bool false]
              have e0 := bs.cell 0; have e1 := bs.cell 1; have e2 := bs.cell 2; have e3 := bs.cell 3; have e4 := bs.cell 4
              simp only [List.getElem?_toArray, List.getElem?_cons_zero, List.getElem?_cons_succ] at e0 e1 e2 e3 e4
              go_wp2_with fail
              refine (cG _ ya).mono ?_; rintro e z10 ⟨rfl, rfl⟩
              clear cG
              have H10 := H9.new ya
              clear H9 bs
              go_wp2_with fail
              go_roundw
              case rel => exact ⟨i + 1, by omega, by go_num, H10⟩
              case measure => simp [intOf]; omega
            · obtain rfl : i = 8 := by omega
              have hz8 : ¬ (8 : Int) < 8 := by omega
              have hbk := (H9.pick 2 rfl).blk
              have x0 := hbk.cell 0; have x1 := hbk.cell 1; have x2 := hbk.cell 2
              simp only [List.getElem?_toArray, List.getElem?_cons_zero, List.getElem?_cons_succ] at x0 x1 x2
              have cF := H9.sFind (⟨kg, kl, kr⟩ : Ky)
              rw [hMf, hMi] at cF
              simp only [Ky.cs] at cF
              go_wp2_with fail
              refine (cF).mono ?_; rintro e z11 ⟨rfl, y11⟩
              have H11 := H9.new y11
              clear H9 cF y11 x0 x1 x2 hbk
              obtain ⟨ab, aoff, ax, rfl, _, hax, hac⟩ := SlN.get (H11.pick 1 rfl).own.slg (show N7 < N7 + 1 by omega)
              have hmx : ax = mv := by rw [List.getElem?_append_right (by rw [List.length_map, hN7.out]; exact Nat.le_refl _), List.length_map, hN7.out, Nat.sub_self] at hax; simpa using hax.symm
              rw [hmx] at hac
              clear hax hmx
              have hlf : ((s6.fr.length : Nat) : Int) = (s.fr.length : Int) - 1 := by omega
              have hw1 : IntKind.i64.wrap ((s.fr.length : Int) - 1) = (s.fr.length : Int) - 1 := IntWalk.i64_in _ (by omega)
              have hw1' : wrap64 ((s.fr.length : Int) - 1) = (s.fr.length : Int) - 1 := by unfold wrap64; omega
              have hcl := H11.sLeft
              rw [hlf] at hcl
              clear hlf
              have hg7 : decide (((N7 : Int) + 1) > 0) = true := by simp
              have hw2 : wrap64 ((N7 : Int) + 1 - 1) = (N7 : Int) := by unfold wrap64; omega
              go_wp2_with fail
              refine hcl.mono ?_; rintro e z12 ⟨rfl, y12⟩
              have H12 := H11.new y12
              clear hcl hac
              go_wp2_with fail
              go_ret
              exact ⟨rfl, H12.1⟩

end Go.Proofs.Ytpmfooeifhhfkaa
