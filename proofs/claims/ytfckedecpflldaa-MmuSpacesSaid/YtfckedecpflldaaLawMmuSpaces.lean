/-
  MmuSpaces: the law, walked from contracts.
-/
import Derived.Test.YtfckedecpflldaaMmuC
import Derived.Deep.CutRange
namespace Go.Proofs.Ytfckedecpflldaa
open Go.RowKit

set_option maxRecDepth 100000 in
set_option maxHeartbeats 20000000 in
/-- what is known in one space serves in no other one; a Flush of it takes just that -/
theorem lawMmuSpaces_any (A : Option Addr) (n c : Nat) (L : List Pu) (sa sb : Int) (pg : Nat) (w : World) (hl : SlP w A n L) (hpg : pg ≤ 65535) :
    Calls Try.prog 7 #[.slice A n c, .int .i64 sa, .int .i64 sb, .int .u16 pg] w fun e w' => e = .returned (.bool true) ∧ Chg [] w w' := by
  obtain ⟨N, hN, hN5⟩ : ∃ N : Nat, pg % 512 = N ∧ N < 512 := ⟨_, rfl, by omega⟩
  have hNm : (N : Int) % 512 = (N : Int) := by omega
  have hWl := madeH_len L
  have hHd := fun w' => Mhead_any w'
  have hn9 := hl.le
  have hnn := hl.len
  replace hnn := Lib.hid hnn
  have hTn := fun {z : World} {l_ : List Th} (H : SepC w z l_) => H.tNew 8 (by omega) (by omega)
  have hW := madeH_wd hl.wf
  have H0 := SepC.nil w
  by_cases h600 : (600 : Int) < n
  · have hgt : decide ((n : Int) > 600) = true := by simpa using h600
    go_enter Try.func7, Try.ntmps7
    go_wp2_with fail
    refine (hHd _).mono ?_; rintro e z1 ⟨rfl, y1⟩
    have H1 := H0.new y1
    clear H0 y1 hHd
    go_wp2_with fail
    refine (Made15_at A n c L _ (hl.self H1.1)).mono ?_; rintro e z2 ⟨hp, hb, rfl, y2, hm, hg1, hg2⟩
    have H2 := H1.lay (P := hoT hp hb 16 (madeH L)) (S := [hb, hp]) y2 ⟨rfl, hm⟩ (by intro i_ hi_; simp only [List.mem_cons, List.not_mem_nil, or_false] at hi_; rcases hi_ with rfl | rfl <;> assumption)
    clear hm hg1 hg2 H1 y2
    go_wp2_with fail
    refine (hTn H2).mono ?_; rintro e z3 ⟨t, rfl, H3⟩
    clear hTn H2
    go_wp2_with fail
    go_ret
    exact ⟨rfl, H3.1⟩
  have hgt : decide ((n : Int) > 600) = false := by simpa using h600
  by_cases hmore : sa = sb
  · have hab : (sa == sb) = true := by simpa using hmore
    go_enter Try.func7, Try.ntmps7
    go_wp2_with fail
    refine (hHd _).mono ?_; rintro e z1 ⟨rfl, y1⟩
    have H1 := H0.new y1
    clear H0 y1 hHd
    go_wp2_with fail
    refine (Made15_at A n c L _ (hl.self H1.1)).mono ?_; rintro e z2 ⟨hp, hb, rfl, y2, hm, hg1, hg2⟩
    have H2 := H1.lay (P := hoT hp hb 16 (madeH L)) (S := [hb, hp]) y2 ⟨rfl, hm⟩ (by intro i_ hi_; simp only [List.mem_cons, List.not_mem_nil, or_false] at hi_; rcases hi_ with rfl | rfl <;> assumption)
    clear hm hg1 hg2 H1 y2
    go_wp2_with fail
    refine (hTn H2).mono ?_; rintro e z3 ⟨t, rfl, H3⟩
    clear hTn H2
    go_wp2_with fail
    go_ret
    exact ⟨rfl, H3.1⟩
  have hab : (sa == sb) = false := by simpa using hmore
  go_enter Try.func7, Try.ntmps7
  go_wp2_with fail
  refine (hHd _).mono ?_; rintro e z1 ⟨rfl, y1⟩
  have H1 := H0.new y1
  clear H0 y1 hHd
  go_wp2_with fail
  refine (Made15_at A n c L _ (hl.self H1.1)).mono ?_; rintro e z2 ⟨hp, hb, rfl, y2, hm, hg1, hg2⟩
  have H2 := H1.lay (P := hoT hp hb 16 (madeH L)) (S := [hb, hp]) y2 ⟨rfl, hm⟩ (by intro i_ hi_; simp only [List.mem_cons, List.not_mem_nil, or_false] at hi_; rcases hi_ with rfl | rfl <;> assumption)
  clear hm hg1 hg2 H1 y2
  go_wp2_with fail
  refine (hTn H2).mono ?_; rintro e z3 ⟨t, rfl, H3⟩
  clear hTn H2
  generalize madeH L = W at *
  go_wp2_with fail
  refine (H3.mNew hp t).mono ?_; rintro e z4 ⟨m, rfl, H4⟩
  clear H3
  replace H4 : SepC w z4 (tlbT t 8 ([]) :: hoT hp hb 16 (W) :: blkT m 85 (mmC t hp) :: []) := (H4.pick 2 rfl).pick 2 rfl
  have hW16 := fillN_wd hW hWl 16 (by omega)
  have hwe := fun page => walk_empty hWl 1 page
  have hmk : ∀ w : World, (Instr.makeSlice 55 (.int .i64 8) (.int .i64 8)).run Try.prog w = .ok (.slice (some ⟨w.heap.size, 0, none⟩) 8 8) (w.alloc (.cells (u64s (zeros 8)) 34)) := fun w => make_u64s 8 (by omega) w
  have hfl1 := fun {z : World} {l_ : List Th} {T : List Ht} (H : SepC w z (tlbT t 8 T :: l_)) => H.tFlush sa
  cases hw : walkH 16 W 1 N with
  | none =>
    obtain ⟨p1, p2⟩ := find_none (most := 8) (hasT_nil sa (N : Int)) hw
    obtain ⟨p3, p4⟩ := find_none (most := 8) (hasT_nil sb (N : Int)) hw
    have cF1 := fun {z : World} {l_ : List Th} (H : SepC w z (tlbT t 8 ([]) :: hoT hp hb 16 (W) :: blkT m 85 (mmC t hp) :: l_)) => H.mFind hW 1 sa N
    simp only [hNm, p1, p2] at cF1
    have cF2 := fun {z : World} {l_ : List Th} (H : SepC w z (tlbT t 8 ([]) :: hoT hp hb 16 (W) :: blkT m 85 (mmC t hp) :: l_)) => H.mFind hW 1 sb N
    simp only [hNm, p3, p4] at cF2
    obtain ⟨q1, q2, q3⟩ := acc_none (most := 8) (root := 1) (acc_unknown (kind := 0) (user := false) (.inl (hasT_nil sa (N : Int)))) (hwe N)
    obtain ⟨q4, q5, q6⟩ := acc_none (most := 8) (root := 1) (acc_unknown (kind := 0) (user := false) (.inl (hasT_nil sb (N : Int)))) (hwe N)
    have cA1 := fun {z : World} {l_ : List Th} (H : SepC w z (tlbT t 8 ([]) :: hoT hp hb 16 (fillN W 16) :: blkT m 85 (mmC t hp) :: l_)) => H.mAcc hW16 1 sa N 0 false
    simp only [hNm, q1, q2, q3] at cA1
    have cA2 := fun {z : World} {l_ : List Th} (H : SepC w z (tlbT t 8 ([]) :: hoT hp hb 16 (fillN W 16) :: blkT m 85 (mmC t hp) :: l_)) => H.mAcc hW16 1 sb N 0 false
    simp only [hNm, q4, q5, q6] at cA2
    have hft : flushT [] sa = [] := rfl
    clear p1 p2 p3 p4 q1 q2 q3 q4 q5 q6
    go_wp2_with fail
    have hM2 : ((pg : Nat) : Int) % 512 = (N : Int) := by omega
    rw [hM2]
    clear hM2
    refine (cF1 H4).mono ?_; rintro e z5 ⟨rfl, H5⟩
    clear cF1 H4
    go_wp2_with fail
    refine (cF2 H5).mono ?_; rintro e z6 ⟨rfl, H6⟩
    clear cF2 H5
    replace H6 : SepC w z6 (tlbT t 8 ([]) :: hoT hp hb 16 (fillN W 0) :: blkT m 85 (mmC t hp) :: []) := H6
    go_wp2_with fail
    go_loopw [16] (fun s16 wr => ∃ j : Nat, j ≤ 16 ∧ s16 = .int .i64 j ∧ SepC w wr (tlbT t 8 ([]) :: hoT hp hb 16 (fillN W j) :: blkT m 85 (mmC t hp) :: [])) (fun s16 _ => 16 - (intOf s16).toNat)
    case atStart => exact ⟨0, by omega, rfl, H6⟩
    case round =>
      obtain ⟨j, hj, rfl, H⟩ := hrel
      clear H6
      by_cases hlt : j < 16
      · have hjz : (j : Int) < 16 := by omega
        have bz := Blk.new wr 34 (u64s (zeros 8))
        have H2 := H.new ((Chg.refl [] wr).alloc (.cells (u64s (zeros 8)) 34))
        clear H
        have hfl := (H2.pick 1 rfl).hFill (j : Int) (some ⟨wr.heap.size, 0, none⟩) 8 8 (zeros 8) (SlU.of_blk bz rfl) (by decide)
        clear H2 bz
        go_wp2_with fail
        refine hfl.mono ?_; rintro e w7 ⟨rfl, H7⟩
        clear hfl
        go_wp2_with fail
        go_roundw
        case rel => exact ⟨j + 1, by omega, by go_num, H7.swap⟩
        case measure => simp [intOf]; omega
      · obtain rfl : j = 16 := by omega
        have hjz : ¬ ((16 : Nat) : Int) < 16 := by omega
        clear hmk
        go_wp2_with fail
        refine (hfl1 H).mono ?_; rintro e w8 ⟨rfl, H8⟩
        clear hfl1 H
        replace H8 : SepC w w8 (tlbT t 8 ([]) :: hoT hp hb 16 (fillN W 16) :: blkT m 85 (mmC t hp) :: []) := by rw [hft] at H8; exact H8
        go_wp2_with fail
        refine (cA1 H8).mono ?_; rintro e w9 ⟨rfl, H9⟩
        clear cA1 H8
        go_wp2_with fail
        refine (cA2 H9).mono ?_; rintro e w10 ⟨rfl, H10⟩
        go_wp2_with fail
        go_ret
        exact ⟨rfl, H10.1⟩
  | some fr =>
    obtain ⟨f, ⟨rw_, ru, rx⟩⟩ := fr
    have hne : ¬ sb = sa := fun e => hmore e.symm
    obtain ⟨p1, p2⟩ := find_yes (most := 8) (hasT_nil sa (N : Int)) hw
    rw [put_nil] at p2
    simp only [hitH] at p2
    have h1 : hasT [(⟨sa, (N : Int), f, rw_, ru, rx, false⟩ : Ht)] sb (N : Int) = false := by simp [hasT, Ht.isK, hmore]
    obtain ⟨p3, p4⟩ := find_yes (most := 8) h1 hw
    have hput : putT 8 [(⟨sa, (N : Int), f, rw_, ru, rx, false⟩ : Ht)] (hitH sb (N : Int) f ⟨rw_, ru, rx⟩) = [(⟨sa, (N : Int), f, rw_, ru, rx, false⟩ : Ht), (⟨sb, (N : Int), f, rw_, ru, rx, false⟩ : Ht)] := by simp [putT, cutT, dropT, Ht.isK, hitH, hmore]
    rw [hput] at p4
    have hft : flushT [(⟨sa, (N : Int), f, rw_, ru, rx, false⟩ : Ht), (⟨sb, (N : Int), f, rw_, ru, rx, false⟩ : Ht)] sa = [(⟨sb, (N : Int), f, rw_, ru, rx, false⟩ : Ht)] := by simp [flushT, hne]
    have h2 : hasT [(⟨sb, (N : Int), f, rw_, ru, rx, false⟩ : Ht)] sa (N : Int) = false := by simp [hasT, Ht.isK, hne]
    have h3 : hasT [(⟨sb, (N : Int), f, rw_, ru, rx, false⟩ : Ht)] sb (N : Int) = true := by simp [hasT, Ht.isK]
    have h4 : getT [(⟨sb, (N : Int), f, rw_, ru, rx, false⟩ : Ht)] sb (N : Int) = (⟨sb, (N : Int), f, rw_, ru, rx, false⟩ : Ht) := by simp [getT, Ht.isK]
    have h5 : dropT [(⟨sb, (N : Int), f, rw_, ru, rx, false⟩ : Ht)] sa (N : Int) = [(⟨sb, (N : Int), f, rw_, ru, rx, false⟩ : Ht)] := by simp [dropT, Ht.isK, hne]
    obtain ⟨q1, q2, q3⟩ := acc_none (most := 8) (root := 1) (acc_unknown (kind := 0) (user := false) (.inl h2)) (hwe N)
    rw [h5] at q3
    obtain ⟨q4, q5, q6⟩ := acc_known (n := 16) (W := fillN W 16) (most := 8) (root := 1) (kind := 0) (user := false) h3 (may_load _)
    have cF1 := fun {z : World} {l_ : List Th} (H : SepC w z (tlbT t 8 ([]) :: hoT hp hb 16 (W) :: blkT m 85 (mmC t hp) :: l_)) => H.mFind hW 1 sa N
    simp only [hNm, p1, p2] at cF1
    have cF2 := fun {z : World} {l_ : List Th} (H : SepC w z (tlbT t 8 ([(⟨sa, (N : Int), f, rw_, ru, rx, false⟩ : Ht)]) :: hoT hp hb 16 (W) :: blkT m 85 (mmC t hp) :: l_)) => H.mFind hW 1 sb N
    simp only [hNm, p3, p4] at cF2
    have cA1 := fun {z : World} {l_ : List Th} (H : SepC w z (tlbT t 8 ([(⟨sb, (N : Int), f, rw_, ru, rx, false⟩ : Ht)]) :: hoT hp hb 16 (fillN W 16) :: blkT m 85 (mmC t hp) :: l_)) => H.mAcc hW16 1 sa N 0 false
    simp only [hNm, q1, q2, q3] at cA1
    have cA2 := fun {z : World} {l_ : List Th} (H : SepC w z (tlbT t 8 ([(⟨sb, (N : Int), f, rw_, ru, rx, false⟩ : Ht)]) :: hoT hp hb 16 (fillN W 16) :: blkT m 85 (mmC t hp) :: l_)) => H.mAcc hW16 1 sb N 0 false
    simp only [hNm, q4, q5, q6] at cA2
    clear p1 p2 p3 p4 q1 q2 q3 q4 q5 q6 h1 h2 h3 h4 h5 hput
    go_wp2_with fail
    have hM2 : ((pg : Nat) : Int) % 512 = (N : Int) := by omega
    rw [hM2]
    clear hM2
    refine (cF1 H4).mono ?_; rintro e z5 ⟨rfl, H5⟩
    clear cF1 H4
    go_wp2_with fail
    refine (cF2 H5).mono ?_; rintro e z6 ⟨rfl, H6⟩
    clear cF2 H5
    replace H6 : SepC w z6 (tlbT t 8 ([(⟨sa, (N : Int), f, rw_, ru, rx, false⟩ : Ht), (⟨sb, (N : Int), f, rw_, ru, rx, false⟩ : Ht)]) :: hoT hp hb 16 (fillN W 0) :: blkT m 85 (mmC t hp) :: []) := H6
    go_wp2_with fail
    go_loopw [16] (fun s16 wr => ∃ j : Nat, j ≤ 16 ∧ s16 = .int .i64 j ∧ SepC w wr (tlbT t 8 ([(⟨sa, (N : Int), f, rw_, ru, rx, false⟩ : Ht), (⟨sb, (N : Int), f, rw_, ru, rx, false⟩ : Ht)]) :: hoT hp hb 16 (fillN W j) :: blkT m 85 (mmC t hp) :: [])) (fun s16 _ => 16 - (intOf s16).toNat)
    case atStart => exact ⟨0, by omega, rfl, H6⟩
    case round =>
      obtain ⟨j, hj, rfl, H⟩ := hrel
      clear H6
      by_cases hlt : j < 16
      · have hjz : (j : Int) < 16 := by omega
        have bz := Blk.new wr 34 (u64s (zeros 8))
        have H2 := H.new ((Chg.refl [] wr).alloc (.cells (u64s (zeros 8)) 34))
        clear H
        have hfl := (H2.pick 1 rfl).hFill (j : Int) (some ⟨wr.heap.size, 0, none⟩) 8 8 (zeros 8) (SlU.of_blk bz rfl) (by decide)
        clear H2 bz
        go_wp2_with fail
        refine hfl.mono ?_; rintro e w7 ⟨rfl, H7⟩
        clear hfl
        go_wp2_with fail
        go_roundw
        case rel => exact ⟨j + 1, by omega, by go_num, H7.swap⟩
        case measure => simp [intOf]; omega
      · obtain rfl : j = 16 := by omega
        have hjz : ¬ ((16 : Nat) : Int) < 16 := by omega
        clear hmk
        go_wp2_with fail
        refine (hfl1 H).mono ?_; rintro e w8 ⟨rfl, H8⟩
        clear hfl1 H
        replace H8 : SepC w w8 (tlbT t 8 ([(⟨sb, (N : Int), f, rw_, ru, rx, false⟩ : Ht)]) :: hoT hp hb 16 (fillN W 16) :: blkT m 85 (mmC t hp) :: []) := by rw [hft] at H8; exact H8
        go_wp2_with fail
        refine (cA1 H8).mono ?_; rintro e w9 ⟨rfl, H9⟩
        clear cA1 H8
        go_wp2_with fail
        refine (cA2 H9).mono ?_; rintro e w10 ⟨rfl, H10⟩
        go_wp2_with fail
        go_ret
        exact ⟨rfl, H10.1⟩

theorem MmuSpaces_walk (A0 : Option Addr) (n0 c0 : Nat) (L0 : List Pu) (sa : Int) (sb : Int) (pg : Int) (w : World) (h0 : SlP w A0 n0 L0) (hpg : 0 ≤ pg ∧ pg ≤ 65535) :
    Calls Try.prog 7 #[.slice A0 n0 c0, .int .i64 sa, .int .i64 sb, .int .u16 pg] w fun e w' => e = .returned (.bool true) ∧ Chg [] w w' := by
  obtain ⟨kpg, rfl⟩ := Int.eq_ofNat_of_zero_le hpg.1
  exact lawMmuSpaces_any A0 n0 c0 L0 sa sb kpg w h0 (by omega)

end Go.Proofs.Ytfckedecpflldaa
