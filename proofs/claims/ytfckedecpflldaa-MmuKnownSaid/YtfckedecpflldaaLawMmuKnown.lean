/-
  MmuKnown: the law, walked from contracts.
-/
import Derived.Test.YtfckedecpflldaaMmuC
import Derived.Deep.CutRange
namespace Go.Proofs.Ytfckedecpflldaa
open Go.RowKit

theorem acc_off {n most : Nat} {W : List Int} {root asid page kind : Int} {user : Bool} (h : accB n W [] root asid page kind user = false) : accH n W most [] root asid page kind user = [] := by
  have hk : knowB [] asid page kind user = false := rfl
  cases hw : walkH n W root page with
  | none => exact (acc_none hk hw).2.2
  | some fr =>
    obtain ⟨f, r⟩ := fr
    cases hm : mayB r kind user
    · exact (acc_bad hk hw hm).2.2
    · rw [(acc_good (most := most) hk hw hm).2.1] at h; cases h
theorem acc_on {n most : Nat} {W : List Int} {root asid page kind : Int} {user : Bool} (h : accB n W [] root asid page kind user = true) : ∃ f r, accH n W most [] root asid page kind user = [hitH asid page f r] ∧ accV n W [] root asid page kind user = f ∧ mayB r kind user = true := by
  have hk : knowB [] asid page kind user = false := rfl
  cases hw : walkH n W root page with
  | none => rw [(acc_none (most := most) hk hw).2.1] at h; cases h
  | some fr =>
    obtain ⟨f, r⟩ := fr
    cases hm : mayB r kind user
    · rw [(acc_bad (most := most) hk hw hm).2.1] at h; cases h
    · obtain ⟨h1, _, h3⟩ := acc_good (most := most) hk hw hm
      exact ⟨f, r, h3.trans (put_nil _), h1, hm⟩

set_option maxRecDepth 100000 in
set_option maxHeartbeats 20000000 in
/-- what is known serves, whatever the tables say since, in its own space alone, until it is dropped; then the tables tell -/
theorem lawMmuKnown_any (A : Option Addr) (n c : Nat) (L : List Pu) (B : Option Addr) (n2 c2 : Nat) (L2 : List Pu) (pg kd : Nat) (user : Bool) (w : World) (hl : SlP w A n L) (hl2 : SlP w B n2 L2) (hpg : pg ≤ 65535) (hkd : kd ≤ 255) :
    Calls Try.prog 5 #[.slice A n c, .slice B n2 c2, .int .u16 pg, .int .u8 kd, .bool user] w fun e w' => e = .returned (.bool true) ∧ Chg [] w w' := by
  obtain ⟨N, hN, hN5⟩ : ∃ N : Nat, pg % 512 = N ∧ N < 512 := ⟨_, rfl, by omega⟩
  have hNm : (N : Int) % 512 = (N : Int) := by omega
  obtain ⟨k3, hk3, hk35⟩ : ∃ k3 : Nat, kd % 3 = k3 ∧ k3 < 3 := ⟨_, rfl, by omega⟩
  have hK2 : ((kd : Nat) : Int) % 3 = (k3 : Int) := by omega
  clear hk3
  have hn29 := hl2.le
  have hn2n := hl2.len
  replace hn2n := Lib.hid hn2n
  have hHd := fun w' => Mhead_any w'
  have hn9 := hl.le
  have hnn := hl.len
  replace hnn := Lib.hid hnn
  have hTn := fun {z : World} {l_ : List Th} (H : SepC w z l_) => H.tNew 8 (by omega) (by omega)
  have hW := madeH_wd hl.wf
  have H0 := SepC.nil w
  by_cases h600 : (600 : Int) < n
  · have hgt : decide ((n : Int) > 600) = true := by simpa using h600
    go_enter Try.func5, Try.ntmps5
    go_wp2_with fail
    refine (hHd _).mono ?_; rintro e z1 ⟨rfl, y1⟩
    have H1 := H0.new y1
    clear H0 y1 hHd
    go_wp2_with fail
    refine (Made15_at A n c L _ (hl.self H1.1)).mono ?_; rintro e z2 ⟨hp, hb, rfl, y2, hm, hg1, hg2⟩
    have H2 := H1.lay (P := hoT hp hb 16 (madeH L)) (S := [hb, hp]) y2 ⟨rfl, hm⟩ (by intro i_ hi_; simp only [List.mem_cons, List.not_mem_nil, or_false] at hi_; rcases hi_ with rfl | rfl <;> assumption)
    clear hm hg1 hg2 H1 y2
    go_wp2_with fail
    refine (hTn H2).mono ?_; rintro e z3 ⟨t, rfl, H3⟩
    clear hTn H2
    go_wp2_with fail
    go_ret
    exact ⟨rfl, H3.1⟩
  have hgt : decide ((n : Int) > 600) = false := by simpa using h600
  by_cases hmore : (600 : Int) < n2
  · have hgt2 : decide ((n2 : Int) > 600) = true := by simpa using hmore
    go_enter Try.func5, Try.ntmps5
    go_wp2_with fail
    refine (hHd _).mono ?_; rintro e z1 ⟨rfl, y1⟩
    have H1 := H0.new y1
    clear H0 y1 hHd
    go_wp2_with fail
    refine (Made15_at A n c L _ (hl.self H1.1)).mono ?_; rintro e z2 ⟨hp, hb, rfl, y2, hm, hg1, hg2⟩
    have H2 := H1.lay (P := hoT hp hb 16 (madeH L)) (S := [hb, hp]) y2 ⟨rfl, hm⟩ (by intro i_ hi_; simp only [List.mem_cons, List.not_mem_nil, or_false] at hi_; rcases hi_ with rfl | rfl <;> assumption)
    clear hm hg1 hg2 H1 y2
    go_wp2_with fail
    refine (hTn H2).mono ?_; rintro e z3 ⟨t, rfl, H3⟩
    clear hTn H2
    go_wp2_with fail
    go_ret
    exact ⟨rfl, H3.1⟩
  have hgt2 : decide ((n2 : Int) > 600) = false := by simpa using hmore
  go_enter Try.func5, Try.ntmps5
  go_wp2_with fail
  refine (hHd _).mono ?_; rintro e z1 ⟨rfl, y1⟩
  have H1 := H0.new y1
  clear H0 y1 hHd
  go_wp2_with fail
  refine (Made15_at A n c L _ (hl.self H1.1)).mono ?_; rintro e z2 ⟨hp, hb, rfl, y2, hm, hg1, hg2⟩
  have H2 := H1.lay (P := hoT hp hb 16 (madeH L)) (S := [hb, hp]) y2 ⟨rfl, hm⟩ (by intro i_ hi_; simp only [List.mem_cons, List.not_mem_nil, or_false] at hi_; rcases hi_ with rfl | rfl <;> assumption)
  clear hm hg1 hg2 H1 y2
  go_wp2_with fail
  refine (hTn H2).mono ?_; rintro e z3 ⟨t, rfl, H3⟩
  clear hTn H2
  generalize madeH L = W at *
  go_wp2_with fail
  refine (H3.mNew hp t).mono ?_; rintro e z4 ⟨m, rfl, H4⟩
  clear H3
  replace H4 : SepC w z4 (tlbT t 8 ([]) :: hoT hp hb 16 (W) :: blkT m 85 (mmC t hp) :: []) := (H4.pick 2 rfl).pick 2 rfl
  have hW2 : WdW (setsW 16 W L2) := sets_wd L2 hl2.wf hW
  cases hk : accB 16 W [] 1 0 N k3 user
  · have hT : accH 16 W 8 [] 1 0 N k3 user = [] := acc_off hk
    have cA1 := fun {z : World} {l_ : List Th} (H : SepC w z (tlbT t 8 ([]) :: hoT hp hb 16 (W) :: blkT m 85 (mmC t hp) :: l_)) => H.mAcc hW 1 0 N k3 user
    simp only [hNm, hk, hT] at cA1
    generalize accV 16 W [] 1 0 N k3 user = a1 at *
    clear hk hT
    go_wp2_with fail
    have hM2 : ((pg : Nat) : Int) % 512 = (N : Int) := by omega
    rw [hM2]
    clear hM2
    rw [hK2]
    clear hK2
    refine (cA1 H4).mono ?_; rintro e z5 ⟨rfl, H5⟩
    clear cA1 H4
    go_wp2_with fail
    replace H5 : SepC w z5 (tlbT t 8 ([]) :: hoT hp hb 16 (setsW 16 W (L2.take 0)) :: blkT m 85 (mmC t hp) :: []) := H5
    go_loopw [19] (fun s19 wr => ∃ k : Nat, k ≤ n2 ∧ s19 = .int .i64 k ∧ SepC w wr (tlbT t 8 ([]) :: hoT hp hb 16 (setsW 16 W (L2.take k)) :: blkT m 85 (mmC t hp) :: [])) (fun s19 _ => n2 - (intOf s19).toNat)
    case atStart => exact ⟨0, by omega, rfl, H5⟩
    case round =>
      obtain ⟨k, hk, rfl, H⟩ := hrel
      clear H5
      by_cases hlt : k < n2
      · have hltz : (k : Int) < (n2 : Int) := by omega
        obtain ⟨b, off, x, rfl, _, hx, c0, c1, c2_⟩ := (hl2.self H.1).get hlt
        have hset := ((H.new (Chg.refl [] wr).drew).pick 1 rfl).hSet x.g x.i x.v
        rw [← sets_snoc hx] at hset
        clear H
        go_upto_region 15 with fail
        refine wp_region_still_tail 16 (by kernel_rfl) (by kernel_rfl) ?_
        simp only [List.take_succ_cons, List.take_zero, List.drop_succ_cons, List.drop_zero]
        change wpStill _ _ (World.drew _) _ _ _
        iterate 16 still_step
        refine wpStill_nil ?_
        change wpList _ _ _ _ _ (World.drew wr)
        go_wp2_with fail
        refine hset.mono ?_; rintro e w3 ⟨rfl, H3⟩
        clear hset c0 c1 c2_
        go_wp2_with fail
        go_roundw
        case rel => exact ⟨k + 1, by omega, by go_num, H3.swap⟩
        case measure => simp [intOf]; omega
      · obtain rfl : k = n2 := by omega
        have hltz : ¬ (k : Int) < (k : Int) := by omega
        rw [List.take_of_length_le (Nat.le_of_eq hn2n.out)] at H
        go_wp2_with fail
        go_ret
        exact ⟨rfl, H.1⟩
  · obtain ⟨f, ⟨ra, rb, rc⟩, hT, hA, hm⟩ := acc_on (most := 8) hk
    simp only [hitH] at hT
    have hm0 := hm
    have h0 : hasT [(⟨0, (N : Int), f, ra, rb, rc, false⟩ : Ht)] 0 (N : Int) = true := by simp [hasT, Ht.isK]
    have h0g : getT [(⟨0, (N : Int), f, ra, rb, rc, false⟩ : Ht)] 0 (N : Int) = (⟨0, (N : Int), f, ra, rb, rc, false⟩ : Ht) := by simp [getT, Ht.isK]
    have h1 : hasT [(⟨0, (N : Int), f, ra, rb, rc, false⟩ : Ht)] 1 (N : Int) = false := by simp [hasT, Ht.isK]
    have h1d : dropT [(⟨0, (N : Int), f, ra, rb, rc, false⟩ : Ht)] 1 (N : Int) = [(⟨0, (N : Int), f, ra, rb, rc, false⟩ : Ht)] := by simp [dropT, Ht.isK]
    have h0d : dropT [(⟨0, (N : Int), f, ra, rb, rc, false⟩ : Ht)] 0 (N : Int) = [] := by simp [dropT, Ht.isK]
    have cA1 := fun {z : World} {l_ : List Th} (H : SepC w z (tlbT t 8 ([]) :: hoT hp hb 16 (W) :: blkT m 85 (mmC t hp) :: l_)) => H.mAcc hW 1 0 N k3 user
    simp only [hNm, hk, hA, hT] at cA1
    clear hk hA hT
    generalize hWN : setsW 16 W L2 = W2 at hW2
    obtain ⟨q1, q2, q3⟩ := acc_known (n := 16) (W := W2) (most := 8) (root := 1) (kind := (k3 : Int)) (user := user) h0 (by rw [h0g]; exact hm)
    rw [h0g] at q1
    have cA2 := fun {z : World} {l_ : List Th} (H : SepC w z (tlbT t 8 ([(⟨0, (N : Int), f, ra, rb, rc, false⟩ : Ht)]) :: hoT hp hb 16 (W2) :: blkT m 85 (mmC t hp) :: l_)) => H.mAcc hW2 1 0 N k3 user
    simp only [hNm, q1, q2, q3] at cA2
    clear q1 q2 q3 h0g hm hm0
    have cW := fun {z : World} {l_ : List Th} (H : SepC w z (tlbT t 8 ([(⟨0, (N : Int), f, ra, rb, rc, false⟩ : Ht)]) :: hoT hp hb 16 (W2) :: blkT m 85 (mmC t hp) :: l_)) => H.mWalk hW2 1 N
    have cA3 := fun {z : World} {l_ : List Th} (H : SepC w z (tlbT t 8 ([(⟨0, (N : Int), f, ra, rb, rc, false⟩ : Ht)]) :: hoT hp hb 16 (W2) :: blkT m 85 (mmC t hp) :: l_)) => H.mAcc hW2 1 1 N k3 user
    have k1 := acc_unknown (kind := (k3 : Int)) (user := user) (.inl h1)
    cases hw : walkH 16 W2 1 N with
    | none =>
      obtain ⟨v1, v2, v3⟩ := walk_not hw
      simp only [v1, v2, v3, Rg.cs] at cW
      obtain ⟨q1, q2, q3⟩ := acc_none (most := 8) k1 hw
      rw [h1d] at q3
      simp only [hNm, q1, q2, q3] at cA3
      obtain ⟨q4, q5, q6⟩ := acc_none (most := 8) (acc_unknown (T := []) (asid := 0) (kind := (k3 : Int)) (user := user) (.inl rfl)) hw
      have cA4 := fun {z : World} {l_ : List Th} (H : SepC w z (tlbT t 8 ([]) :: hoT hp hb 16 (W2) :: blkT m 85 (mmC t hp) :: l_)) => H.mAcc hW2 1 0 N k3 user
      simp only [hNm, q4, q5] at cA4
      have hdr := h0d
      clear v1 v2 v3 q1 q2 q3 q4 q5 q6 k1 h0 h1 h1d h0d hw
      have cD := fun {z : World} {l_ : List Th} (H : SepC w z (tlbT t 8 ([(⟨0, (N : Int), f, ra, rb, rc, false⟩ : Ht)]) :: l_)) => H.tDrop 0 N
      go_wp2_with fail
      have hM2 : ((pg : Nat) : Int) % 512 = (N : Int) := by omega
      rw [hM2]
      clear hM2
      rw [hK2]
      clear hK2
      refine (cA1 H4).mono ?_; rintro e z5 ⟨rfl, H5⟩
      clear cA1 H4
      go_wp2_with fail
      replace H5 : SepC w z5 (tlbT t 8 ([(⟨0, (N : Int), f, ra, rb, rc, false⟩ : Ht)]) :: hoT hp hb 16 (setsW 16 W (L2.take 0)) :: blkT m 85 (mmC t hp) :: []) := H5
      go_loopw [19] (fun s19 wr => ∃ k : Nat, k ≤ n2 ∧ s19 = .int .i64 k ∧ SepC w wr (tlbT t 8 ([(⟨0, (N : Int), f, ra, rb, rc, false⟩ : Ht)]) :: hoT hp hb 16 (setsW 16 W (L2.take k)) :: blkT m 85 (mmC t hp) :: [])) (fun s19 _ => n2 - (intOf s19).toNat)
      case atStart => exact ⟨0, by omega, rfl, H5⟩
      case round =>
        obtain ⟨k, hk, rfl, H⟩ := hrel
        clear H5
        by_cases hlt : k < n2
        · have hltz : (k : Int) < (n2 : Int) := by omega
          obtain ⟨b, off, x, rfl, _, hx, c0, c1, c2_⟩ := (hl2.self H.1).get hlt
          have hset := ((H.new (Chg.refl [] wr).drew).pick 1 rfl).hSet x.g x.i x.v
          rw [← sets_snoc hx] at hset
          clear H
          go_upto_region 15 with fail
          refine wp_region_still_tail 16 (by kernel_rfl) (by kernel_rfl) ?_
          simp only [List.take_succ_cons, List.take_zero, List.drop_succ_cons, List.drop_zero]
          change wpStill _ _ (World.drew _) _ _ _
          iterate 16 still_step
          refine wpStill_nil ?_
          change wpList _ _ _ _ _ (World.drew wr)
          go_wp2_with fail
          refine hset.mono ?_; rintro e w3 ⟨rfl, H3⟩
          clear hset c0 c1 c2_
          go_wp2_with fail
          go_roundw
          case rel => exact ⟨k + 1, by omega, by go_num, H3.swap⟩
          case measure => simp [intOf]; omega
        · obtain rfl : k = n2 := by omega
          have hltz : ¬ (k : Int) < (k : Int) := by omega
          rw [List.take_of_length_le (Nat.le_of_eq hn2n.out)] at H
          rw [hWN] at H
          clear hWN
          go_wp2_with fail
          refine (cA2 H).mono ?_; rintro e w6 ⟨rfl, H6⟩
          clear cA2 H
          go_wp2_with fail
          refine (cW H6).mono ?_; rintro e w7 ⟨rfl, y7⟩
          clear cW
          have H7 := (H6.new y7).alloc #[.bool false, .bool false, .bool false] 47
          clear H6 y7
          go_wp2_with fail
          generalize w7.alloc (.cells #[.bool false, .bool false, .bool false] 47) = w8 at *
          generalize w7.heap.size = gr at *
          replace H7 : SepC w w8 (tlbT t 8 ([(⟨0, (N : Int), f, ra, rb, rc, false⟩ : Ht)]) :: hoT hp hb 16 (W2) :: blkT m 85 (mmC t hp) :: blkT gr 47 #[.bool false, .bool false, .bool false] :: []) := ((H7.pick 3 rfl).pick 3 rfl).pick 3 rfl
          refine (cA3 H7).mono ?_; rintro e w9 ⟨rfl, H9⟩
          clear cA3 H7
          go_wp2_with fail
          refine (cD H9).mono ?_; rintro e w10 ⟨rfl, H10⟩
          clear cD H9
          rw [hdr] at H10
          go_wp2_with fail
          refine (cA4 H10).mono ?_; rintro e w11 ⟨rfl, H11⟩
          clear cA4 H10
          have br := (H11.pick 3 rfl).blk
          have r0 := br.cell 0; have r1 := br.cell 1; have r2 := br.cell 2
          simp only [List.getElem?_toArray, List.getElem?_cons_zero, List.getElem?_cons_succ] at r0 r1 r2
          go_wp2_with fail
          go_ret
          exact ⟨rfl, H11.1⟩
    | some fr =>
      obtain ⟨f2, ⟨sa, sb, sc⟩⟩ := fr
      have hMay := fun w' => RMay_any ⟨sa, sb, sc⟩ (k3 : Int) user w'
      simp only [Rg.cs] at hMay
      obtain ⟨v1, v2, v3⟩ := walk_is hw
      simp only [v1, v2, v3, Rg.cs] at cW
      clear v1 v2 v3
      cases hm : mayB ⟨sa, sb, sc⟩ k3 user
      · rw [hm] at hMay
        obtain ⟨q1, q2, q3⟩ := acc_bad (most := 8) k1 hw hm
        rw [h1d] at q3
        simp only [hNm, q1, q2, q3] at cA3
        obtain ⟨q4, q5, q6⟩ := acc_bad (most := 8) (acc_unknown (T := []) (asid := 0) (kind := (k3 : Int)) (user := user) (.inl rfl)) hw hm
        have cA4 := fun {z : World} {l_ : List Th} (H : SepC w z (tlbT t 8 ([]) :: hoT hp hb 16 (W2) :: blkT m 85 (mmC t hp) :: l_)) => H.mAcc hW2 1 0 N k3 user
        simp only [hNm, q4, q5] at cA4
        have hdr := h0d
        clear q1 q2 q3 q4 q5 q6 k1 h0 h1 h1d h0d hw hm
        have cD := fun {z : World} {l_ : List Th} (H : SepC w z (tlbT t 8 ([(⟨0, (N : Int), f, ra, rb, rc, false⟩ : Ht)]) :: l_)) => H.tDrop 0 N
        go_wp2_with fail
        have hM2 : ((pg : Nat) : Int) % 512 = (N : Int) := by omega
        rw [hM2]
        clear hM2
        rw [hK2]
        clear hK2
        refine (cA1 H4).mono ?_; rintro e z5 ⟨rfl, H5⟩
        clear cA1 H4
        go_wp2_with fail
        replace H5 : SepC w z5 (tlbT t 8 ([(⟨0, (N : Int), f, ra, rb, rc, false⟩ : Ht)]) :: hoT hp hb 16 (setsW 16 W (L2.take 0)) :: blkT m 85 (mmC t hp) :: []) := H5
        go_loopw [19] (fun s19 wr => ∃ k : Nat, k ≤ n2 ∧ s19 = .int .i64 k ∧ SepC w wr (tlbT t 8 ([(⟨0, (N : Int), f, ra, rb, rc, false⟩ : Ht)]) :: hoT hp hb 16 (setsW 16 W (L2.take k)) :: blkT m 85 (mmC t hp) :: [])) (fun s19 _ => n2 - (intOf s19).toNat)
        case atStart => exact ⟨0, by omega, rfl, H5⟩
        case round =>
          obtain ⟨k, hk, rfl, H⟩ := hrel
          clear H5
          by_cases hlt : k < n2
          · have hltz : (k : Int) < (n2 : Int) := by omega
            obtain ⟨b, off, x, rfl, _, hx, c0, c1, c2_⟩ := (hl2.self H.1).get hlt
            have hset := ((H.new (Chg.refl [] wr).drew).pick 1 rfl).hSet x.g x.i x.v
            rw [← sets_snoc hx] at hset
            clear H
            go_upto_region 15 with fail
            refine wp_region_still_tail 16 (by kernel_rfl) (by kernel_rfl) ?_
            simp only [List.take_succ_cons, List.take_zero, List.drop_succ_cons, List.drop_zero]
            change wpStill _ _ (World.drew _) _ _ _
            iterate 16 still_step
            refine wpStill_nil ?_
            change wpList _ _ _ _ _ (World.drew wr)
            go_wp2_with fail
            refine hset.mono ?_; rintro e w3 ⟨rfl, H3⟩
            clear hset c0 c1 c2_
            go_wp2_with fail
            go_roundw
            case rel => exact ⟨k + 1, by omega, by go_num, H3.swap⟩
            case measure => simp [intOf]; omega
          · obtain rfl : k = n2 := by omega
            have hltz : ¬ (k : Int) < (k : Int) := by omega
            rw [List.take_of_length_le (Nat.le_of_eq hn2n.out)] at H
            rw [hWN] at H
            clear hWN
            go_wp2_with fail
            refine (cA2 H).mono ?_; rintro e w6 ⟨rfl, H6⟩
            clear cA2 H
            go_wp2_with fail
            refine (cW H6).mono ?_; rintro e w7 ⟨rfl, y7⟩
            clear cW
            have H7 := (H6.new y7).alloc #[.bool sa, .bool sb, .bool sc] 47
            clear H6 y7
            go_wp2_with fail
            generalize w7.alloc (.cells #[.bool sa, .bool sb, .bool sc] 47) = w8 at *
            generalize w7.heap.size = gr at *
            replace H7 : SepC w w8 (tlbT t 8 ([(⟨0, (N : Int), f, ra, rb, rc, false⟩ : Ht)]) :: hoT hp hb 16 (W2) :: blkT m 85 (mmC t hp) :: blkT gr 47 #[.bool sa, .bool sb, .bool sc] :: []) := ((H7.pick 3 rfl).pick 3 rfl).pick 3 rfl
            refine (cA3 H7).mono ?_; rintro e w9 ⟨rfl, H9⟩
            clear cA3 H7
            go_wp2_with fail
            refine (cD H9).mono ?_; rintro e w10 ⟨rfl, H10⟩
            clear cD H9
            rw [hdr] at H10
            go_wp2_with fail
            refine (cA4 H10).mono ?_; rintro e w11 ⟨rfl, H11⟩
            clear cA4 H10
            have br := (H11.pick 3 rfl).blk
            have r0 := br.cell 0; have r1 := br.cell 1; have r2 := br.cell 2
            simp only [List.getElem?_toArray, List.getElem?_cons_zero, List.getElem?_cons_succ] at r0 r1 r2
            go_wp2_with fail
            refine (hMay _).mono ?_; rintro e w12 ⟨rfl, y12⟩
            have H12 := H11.new y12
            go_wp2_with fail
            go_ret
            exact ⟨rfl, H12.1⟩
      · rw [hm] at hMay
        obtain ⟨q1, q2, q3⟩ := acc_good (most := 8) k1 hw hm
        have hput : putT 8 (dropT [(⟨0, (N : Int), f, ra, rb, rc, false⟩ : Ht)] 1 (N : Int)) (hitH 1 (N : Int) f2 ⟨sa, sb, sc⟩) = [(⟨0, (N : Int), f, ra, rb, rc, false⟩ : Ht), (⟨1, (N : Int), f2, sa, sb, sc, false⟩ : Ht)] := by simp [putT, cutT, dropT, Ht.isK, hitH]
        rw [hput] at q3
        simp only [hNm, q1, q2, q3] at cA3
        have hdr : dropT [(⟨0, (N : Int), f, ra, rb, rc, false⟩ : Ht), (⟨1, (N : Int), f2, sa, sb, sc, false⟩ : Ht)] 0 (N : Int) = [(⟨1, (N : Int), f2, sa, sb, sc, false⟩ : Ht)] := by simp [dropT, Ht.isK]
        have hz : hasT [(⟨1, (N : Int), f2, sa, sb, sc, false⟩ : Ht)] 0 (N : Int) = false := by simp [hasT, Ht.isK]
        obtain ⟨q4, q5, q6⟩ := acc_good (most := 8) (acc_unknown (kind := (k3 : Int)) (user := user) (.inl hz)) hw hm
        have cA4 := fun {z : World} {l_ : List Th} (H : SepC w z (tlbT t 8 ([(⟨1, (N : Int), f2, sa, sb, sc, false⟩ : Ht)]) :: hoT hp hb 16 (W2) :: blkT m 85 (mmC t hp) :: l_)) => H.mAcc hW2 1 0 N k3 user
        simp only [hNm, q4, q5] at cA4
        clear q1 q2 q3 q4 q5 q6 k1 h0 h1 h1d h0d hw hm hput hz
        have cD := fun {z : World} {l_ : List Th} (H : SepC w z (tlbT t 8 ([(⟨0, (N : Int), f, ra, rb, rc, false⟩ : Ht), (⟨1, (N : Int), f2, sa, sb, sc, false⟩ : Ht)]) :: l_)) => H.tDrop 0 N
        go_wp2_with fail
        have hM2 : ((pg : Nat) : Int) % 512 = (N : Int) := by omega
        rw [hM2]
        clear hM2
        rw [hK2]
        clear hK2
        refine (cA1 H4).mono ?_; rintro e z5 ⟨rfl, H5⟩
        clear cA1 H4
        go_wp2_with fail
        replace H5 : SepC w z5 (tlbT t 8 ([(⟨0, (N : Int), f, ra, rb, rc, false⟩ : Ht)]) :: hoT hp hb 16 (setsW 16 W (L2.take 0)) :: blkT m 85 (mmC t hp) :: []) := H5
        go_loopw [19] (fun s19 wr => ∃ k : Nat, k ≤ n2 ∧ s19 = .int .i64 k ∧ SepC w wr (tlbT t 8 ([(⟨0, (N : Int), f, ra, rb, rc, false⟩ : Ht)]) :: hoT hp hb 16 (setsW 16 W (L2.take k)) :: blkT m 85 (mmC t hp) :: [])) (fun s19 _ => n2 - (intOf s19).toNat)
        case atStart => exact ⟨0, by omega, rfl, H5⟩
        case round =>
          obtain ⟨k, hk, rfl, H⟩ := hrel
          clear H5
          by_cases hlt : k < n2
          · have hltz : (k : Int) < (n2 : Int) := by omega
            obtain ⟨b, off, x, rfl, _, hx, c0, c1, c2_⟩ := (hl2.self H.1).get hlt
            have hset := ((H.new (Chg.refl [] wr).drew).pick 1 rfl).hSet x.g x.i x.v
            rw [← sets_snoc hx] at hset
            clear H
            go_upto_region 15 with fail
            refine wp_region_still_tail 16 (by kernel_rfl) (by kernel_rfl) ?_
            simp only [List.take_succ_cons, List.take_zero, List.drop_succ_cons, List.drop_zero]
            change wpStill _ _ (World.drew _) _ _ _
            iterate 16 still_step
            refine wpStill_nil ?_
            change wpList _ _ _ _ _ (World.drew wr)
            go_wp2_with fail
            refine hset.mono ?_; rintro e w3 ⟨rfl, H3⟩
            clear hset c0 c1 c2_
            go_wp2_with fail
            go_roundw
            case rel => exact ⟨k + 1, by omega, by go_num, H3.swap⟩
            case measure => simp [intOf]; omega
          · obtain rfl : k = n2 := by omega
            have hltz : ¬ (k : Int) < (k : Int) := by omega
            rw [List.take_of_length_le (Nat.le_of_eq hn2n.out)] at H
            rw [hWN] at H
            clear hWN
            go_wp2_with fail
            refine (cA2 H).mono ?_; rintro e w6 ⟨rfl, H6⟩
            clear cA2 H
            go_wp2_with fail
            refine (cW H6).mono ?_; rintro e w7 ⟨rfl, y7⟩
            clear cW
            have H7 := (H6.new y7).alloc #[.bool sa, .bool sb, .bool sc] 47
            clear H6 y7
            go_wp2_with fail
            generalize w7.alloc (.cells #[.bool sa, .bool sb, .bool sc] 47) = w8 at *
            generalize w7.heap.size = gr at *
            replace H7 : SepC w w8 (tlbT t 8 ([(⟨0, (N : Int), f, ra, rb, rc, false⟩ : Ht)]) :: hoT hp hb 16 (W2) :: blkT m 85 (mmC t hp) :: blkT gr 47 #[.bool sa, .bool sb, .bool sc] :: []) := ((H7.pick 3 rfl).pick 3 rfl).pick 3 rfl
            refine (cA3 H7).mono ?_; rintro e w9 ⟨rfl, H9⟩
            clear cA3 H7
            go_wp2_with fail
            refine (cD H9).mono ?_; rintro e w10 ⟨rfl, H10⟩
            clear cD H9
            rw [hdr] at H10
            go_wp2_with fail
            refine (cA4 H10).mono ?_; rintro e w11 ⟨rfl, H11⟩
            clear cA4 H10
            have br := (H11.pick 3 rfl).blk
            have r0 := br.cell 0; have r1 := br.cell 1; have r2 := br.cell 2
            simp only [List.getElem?_toArray, List.getElem?_cons_zero, List.getElem?_cons_succ] at r0 r1 r2
            go_wp2_with fail
            refine (hMay _).mono ?_; rintro e w12 ⟨rfl, y12⟩
            have H12 := H11.new y12
            go_wp2_with fail
            go_ret
            exact ⟨rfl, H12.1⟩

theorem MmuKnown_walk (A0 : Option Addr) (n0 c0 : Nat) (L0 : List Pu) (A1 : Option Addr) (n1 c1 : Nat) (L1 : List Pu) (pg : Int) (kd : Int) (user : Bool) (w : World) (h0 : SlP w A0 n0 L0) (h1 : SlP w A1 n1 L1) (hpg : 0 ≤ pg ∧ pg ≤ 65535) (hkd : 0 ≤ kd ∧ kd ≤ 255) :
    Calls Try.prog 5 #[.slice A0 n0 c0, .slice A1 n1 c1, .int .u16 pg, .int .u8 kd, .bool user] w fun e w' => e = .returned (.bool true) ∧ Chg [] w w' := by
  obtain ⟨kpg, rfl⟩ := Int.eq_ofNat_of_zero_le hpg.1
  obtain ⟨kkd, rfl⟩ := Int.eq_ofNat_of_zero_le hkd.1
  exact lawMmuKnown_any A0 n0 c0 L0 A1 n1 c1 L1 kpg kkd user w h0 h1 (by omega) (by omega)

end Go.Proofs.Ytfckedecpflldaa
