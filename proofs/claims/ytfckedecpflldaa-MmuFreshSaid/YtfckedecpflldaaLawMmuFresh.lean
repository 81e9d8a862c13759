/-
  MmuFresh: the law, walked from contracts.
-/
import Derived.Test.YtfckedecpflldaaMmuC
import Derived.Test.YtfckedecpflldaaRowsV
import Derived.Deep.CutRange
namespace Go.Proofs.Ytfckedecpflldaa
open Go.RowKit

set_option maxRecDepth 100000 in
set_option maxHeartbeats 20000000 in
/-- with nothing known, an access takes what a walk tells, just if that permits it; then that is known, and it alone; no word of the memory is changed -/
theorem lawMmuFresh_any (A : Option Addr) (n c : Nat) (L : List Pu) (root asid : Int) (pg : Nat) (kind : Int) (user : Bool) (w : World) (hl : SlP w A n L) (hpg : pg ≤ 65535) :
    Calls Try.prog 4 #[.slice A n c, .int .i64 root, .int .i64 asid, .int .u16 pg, .int .i64 kind, .bool user] w fun e w' => e = .returned (.bool true) ∧ Chg [] w w' := by
  obtain ⟨N, hN, hN5⟩ : ∃ N : Nat, pg % 512 = N ∧ N < 512 := ⟨_, rfl, by omega⟩
  have hNm : (N : Int) % 512 = (N : Int) := by omega
  have hWl := madeH_len L
  have hHd := fun w' => Mhead_any w'
  have hn9 := hl.le
  have hnn := hl.len
  replace hnn := Lib.hid hnn
  have hTn := fun {z : World} {l_ : List Th} (H : SepC w z l_) => H.tNew 8 (by omega) (by omega)
  have hW := madeH_wd hl.wf
  have H0 := SepC.nil w
  by_cases h600 : (600 : Int) < n
  · have hgt : decide ((n : Int) > 600) = true := by simpa using h600
    go_enter Try.func4, Try.ntmps4
    go_wp2_with fail
    refine (hHd _).mono ?_; rintro e z1 ⟨rfl, y1⟩
    have H1 := H0.new y1
    clear H0 y1 hHd
    go_wp2_with fail
    refine (Made15_at A n c L _ (hl.self H1.1)).mono ?_; rintro e z2 ⟨hp, hb, rfl, y2, hm, hg1, hg2⟩
    have H2 := H1.lay (P := hoT hp hb 16 (madeH L)) (S := [hb, hp]) y2 ⟨rfl, hm⟩ (by intro i_ hi_; simp only [List.mem_cons, List.not_mem_nil, or_false] at hi_; rcases hi_ with rfl | rfl <;> assumption)
    clear hm hg1 hg2 H1 y2
    go_wp2_with fail
    refine (hTn H2).mono ?_; rintro e z3 ⟨t, rfl, H3⟩
    clear hTn H2
    go_wp2_with fail
    go_ret
    exact ⟨rfl, H3.1⟩
  have hgt : decide ((n : Int) > 600) = false := by simpa using h600
  go_enter Try.func4, Try.ntmps4
  go_wp2_with fail
  refine (hHd _).mono ?_; rintro e z1 ⟨rfl, y1⟩
  have H1 := H0.new y1
  clear H0 y1 hHd
  go_wp2_with fail
  refine (Made15_at A n c L _ (hl.self H1.1)).mono ?_; rintro e z2 ⟨hp, hb, rfl, y2, hm, hg1, hg2⟩
  have H2 := H1.lay (P := hoT hp hb 16 (madeH L)) (S := [hb, hp]) y2 ⟨rfl, hm⟩ (by intro i_ hi_; simp only [List.mem_cons, List.not_mem_nil, or_false] at hi_; rcases hi_ with rfl | rfl <;> assumption)
  clear hm hg1 hg2 H1 y2
  go_wp2_with fail
  refine (hTn H2).mono ?_; rintro e z3 ⟨t, rfl, H3⟩
  clear hTn H2
  generalize madeH L = W at *
  go_wp2_with fail
  refine (H3.mNew hp t).mono ?_; rintro e z4 ⟨m, rfl, H4⟩
  clear H3
  replace H4 : SepC w z4 (tlbT t 8 ([]) :: hoT hp hb 16 (W) :: blkT m 85 (mmC t hp) :: []) := (H4.pick 2 rfl).pick 2 rfl
  have k1 := acc_unknown (T := []) (asid := asid) (page := (N : Int)) (kind := kind) (user := user) (.inl rfl)
  have k2 : dropT [] asid (N : Int) = [] := rfl
  cases hw : walkH 16 W root N with
  | none =>
    obtain ⟨v1, v2, v3⟩ := walk_not hw
    obtain ⟨q1, q2, q3⟩ := acc_none (most := 8) k1 hw
    rw [k2] at q3
    have cW1 := fun {z : World} {l_ : List Th} (H : SepC w z (tlbT t 8 ([]) :: hoT hp hb 16 (W) :: blkT m 85 (mmC t hp) :: l_)) => H.mWalk hW root N
    simp only [v1, v2, v3, Rg.cs] at cW1
    have cA1 := fun {z : World} {l_ : List Th} (H : SepC w z (tlbT t 8 ([]) :: hoT hp hb 16 (W) :: blkT m 85 (mmC t hp) :: l_)) => H.mAcc hW root asid N kind user
    simp only [hNm, q1, q2, q3] at cA1
    clear v1 v2 v3 q1 q2 q3 k1 k2 hw
    have hEq := run_eqR ⟨false, false, false⟩ ⟨false, false, false⟩
    simp only [Rg.eqb_self, Rg.cs] at hEq
    have H5 := (H4.alloc (Array.replicate 16 (.slice none 0 0)) 56).v0 (fun j => frameW 16 W (j : Int))
    rw [show (Array.replicate 16 (Value.slice none 0 0)) = #[.slice none 0 0, .slice none 0 0, .slice none 0 0, .slice none 0 0, .slice none 0 0, .slice none 0 0, .slice none 0 0, .slice none 0 0, .slice none 0 0, .slice none 0 0, .slice none 0 0, .slice none 0 0, .slice none 0 0, .slice none 0 0, .slice none 0 0, .slice none 0 0] from rfl] at H5
    go_wp2_with fail
    generalize hww : z4.alloc (.cells #[.slice none 0 0, .slice none 0 0, .slice none 0 0, .slice none 0 0, .slice none 0 0, .slice none 0 0, .slice none 0 0, .slice none 0 0, .slice none 0 0, .slice none 0 0, .slice none 0 0, .slice none 0 0, .slice none 0 0, .slice none 0 0, .slice none 0 0, .slice none 0 0] 56) = z5 at *
    generalize z4.heap.size = g8 at *
    clear hww H4
    go_loopw [18] (fun s18 wr => ∃ f_ : Nat, f_ ≤ 16 ∧ s18 = .int .i64 f_ ∧ SepC w wr (rowsV 16 g8 56 (fun j => frameW 16 W (j : Int)) f_ :: tlbT t 8 ([]) :: hoT hp hb 16 (W) :: blkT m 85 (mmC t hp) :: [])) (fun s18 _ => 16 - (intOf s18).toNat)
    case atStart => exact ⟨0, by omega, rfl, H5⟩
    case round =>
      obtain ⟨j, hj, rfl, H⟩ := hrel
      clear H5
      by_cases hlt : j < 16
      · have hjz : (j : Int) < 16 := by omega
        obtain ⟨_, hfl⟩ := frameW_take (n := 16) hWl hlt
        have cF := Frame_at hp hb 16 W (j : Int) wr (H.pick 2 rfl).hmem
        rw [hfl] at cF
        go_wp2_with fail
        refine cF.mono ?_; rintro e w5 ⟨A5, c5, rfl, y5, hu5, hA5, _⟩
        clear cF
        have H6 := H.new y5
        obtain ⟨⟨Ao, no, co, hco⟩, hfo⟩ := H6.vCell hlt
        have H7 := H.vPut (c := c5) y5 hlt hu5 hA5
        clear H H6 hu5 hA5 y5
        go_wp2_with fail
        go_roundw
        case rel => exact ⟨j + 1, by omega, by go_num, H7⟩
        case measure => simp [intOf]; omega
      · obtain rfl : j = 16 := by omega
        have hjz : ¬ ((16 : Nat) : Int) < 16 := by omega
        replace H : SepC w wr (tlbT t 8 ([]) :: hoT hp hb 16 (W) :: blkT m 85 (mmC t hp) :: rowsV 16 g8 56 (fun j => frameW 16 W (j : Int)) 16 :: []) := ((H.pick 3 rfl).pick 3 rfl).pick 3 rfl
        go_wp2_with fail
        have hM2 : ((pg : Nat) : Int) % 512 = (N : Int) := by omega
        rw [hM2]
        clear hM2
        refine (cW1 H).mono ?_; rintro e z6 ⟨rfl, y6⟩
        clear cW1
        have H6 := (H.new y6).alloc #[.bool false, .bool false, .bool false] 47
        clear H y6
        go_wp2_with fail
        generalize z6.alloc (.cells #[.bool false, .bool false, .bool false] 47) = z7 at *
        generalize z6.heap.size = gr at *
        replace H6 : SepC w z7 (tlbT t 8 ([]) :: hoT hp hb 16 (W) :: blkT m 85 (mmC t hp) :: blkT gr 47 #[.bool false, .bool false, .bool false] :: rowsV 16 g8 56 (fun j => frameW 16 W (j : Int)) 16 :: []) := ((H6.pick 3 rfl).pick 3 rfl).pick 3 rfl
        refine (cA1 H6).mono ?_; rintro e z8 ⟨rfl, H8⟩
        clear cA1 H6
        go_wp2_with fail
        refine (H8.tList).mono ?_; rintro e z9 ⟨v, rfl, H9⟩
        clear H8
        obtain ⟨Ak, ck, rfl⟩ := H9.hitsForm
        go_wp2_with fail
        have H10 := (H9.pick 5 rfl).pick 3 rfl
        clear H9
        go_loopw [26] (fun s26 wr => ∃ f_ : Nat, f_ ≤ 16 ∧ s26 = .int .i64 f_ ∧ SepC w wr (hoT hp hb 16 W :: rowsV 16 g8 56 (fun j => frameW 16 W (j : Int)) 16 :: hitsT (.slice Ak (List.length []) ck) [] :: tlbT t 8 [] :: blkT m 85 (mmC t hp) :: blkT gr 47 #[.bool false, .bool false, .bool false] :: [])) (fun s26 _ => 16 - (intOf s26).toNat)
        case atStart => exact ⟨0, by omega, rfl, H10⟩
        case round =>
          obtain ⟨j, hj, rfl, H⟩ := hrel
          clear H10
          by_cases hlt : j < 16
          · have hjz : (j : Int) < 16 := by omega
            have hm := H.hmem
            obtain ⟨Ar, cr, hrow, hur⟩ := (H.pick 1 rfl).vGet hlt
            have hg8 : g8 < wr.heap.size := World.block_lt_of_cell? _ _ hrow
            obtain ⟨_, hfl⟩ := frameW_take (n := 16) hWl hlt
            have hFr : ∀ w', Chg [] wr w' → Calls Try.prog 28 #[.pointer (some ⟨hp, 0, none⟩), .int .i64 j] w' fun e w'' => ∃ A c, e = .returned (.slice A 8 c) ∧ SlU w'' A 8 (frameW 16 W (j : Int)) ∧ Chg [] w' w'' := by
              intro w' hc
              have h1 := Frame_at hp hb 16 W (j : Int) w' (hm.chg hc (by simp) (by simp))
              rw [hfl] at h1
              exact h1.mono fun _ _ ⟨A, c, e, y, hu, _, _⟩ => ⟨A, c, e, hu, y⟩
            have hSm : ∀ (A1 : Option Addr) (c1 : Nat) w', SlU w' A1 8 (frameW 16 W (j : Int)) → Chg [] wr w' → Calls Try.prog 29 #[.slice A1 8 c1, .slice Ar 8 cr] w' fun e w'' => e = .returned (.bool true) ∧ Chg [] w' w'' := by
              intro A1 c1 w' hu hc
              have h1 := SameWords_any A1 Ar 8 8 c1 cr _ _ w' hu (hur.chg hc (by simp)) (by omega) (by omega)
              rw [eqL_self] at h1
              exact h1.mono fun _ _ ⟨e, qd, h2⟩ => ⟨e, by rw [h2]; exact (Chg.refl [] w').drewN qd⟩
            clear hfl hm hur
            go_upto_region 21 with fail
            refine wp_region_noPanic ?_
            refine wp_region_held_drew (S := (fun w' => Chg [] wr w')) (by kernel_rfl) ?_ (fun hHeld => ?_)
            · exact (Chg.refl [] wr).drew
            (refine take_on 0 (some 92) (v := ?_) rfl rfl (by kernel_rfl) (by kernel_rfl) (by kernel_rfl) (fun _ _ _ h => h) (by rfl) (by assumption) ?_ ?_; rotate_left; · (intro w hSw; go_simp; (try with_reducible rfl)))
            (try simp only [Act.put, List.setIfInBounds_toArray, List.set_cons_zero, List.set_cons_succ])
            (refine take_on 1 (some 93) (v := ?_) rfl rfl (by kernel_rfl) (by kernel_rfl) (by kernel_rfl) (fun _ _ _ h => h) (by rfl) (by assumption) ?_ ?_; rotate_left; · (intro w hSw; go_simp; (try with_reducible rfl)))
            (try simp only [Act.put, List.setIfInBounds_toArray, List.set_cons_zero, List.set_cons_succ])
            (refine take_on 3 (some 95) (v := ?_) rfl rfl (by kernel_rfl) (by kernel_rfl) (by kernel_rfl) (fun _ _ _ h => h) (by rfl) (by assumption) ?_ ?_; rotate_left; · (intro w hSw; go_simp; (try with_reducible rfl)))
            (try simp only [Act.put, List.setIfInBounds_toArray, List.set_cons_zero, List.set_cons_succ])
            (refine take_on 4 (some 96) (v := ?_) rfl rfl (by kernel_rfl) (by kernel_rfl) (by kernel_rfl) (fun _ _ _ h => h) (by rfl) (by assumption) ?_ ?_; rotate_left; · (intro w hSw; go_simp; (try with_reducible rfl)))
            (try simp only [Act.put, List.setIfInBounds_toArray, List.set_cons_zero, List.set_cons_succ])
            (refine take_on 5 (some 97) (v := ?_) rfl rfl (by kernel_rfl) (by kernel_rfl) (by kernel_rfl) (fun _ _ _ h => h) (by rfl) (by assumption) ?_ ?_; rotate_left; · (intro w hSw; (try dsimp only at hSw); have d0 := (hSw.cell (p := ⟨g8, j, none⟩) hg8 (by simp)).trans hrow; go_simp; (try with_reducible rfl)))
            (try simp only [Act.put, List.setIfInBounds_toArray, List.set_cons_zero, List.set_cons_succ])
            refine wpAnyH_ready (rs := [2]) (by kernel_rfl) (by simp) ?_; refine AllReadyH.cons (o := _) rfl (fun K hK => ?_) AllReadyH.nil
            go_simp
            go_at_call 28; refine (hFr _ hHeld).mono ?_; rintro e_0 w_0 ⟨A1, c1, rfl, hu1, y0⟩; first | exact hx_ | skip
            refine hK.out _ _ (by (try dsimp only); exact hHeld.trans y0 (by simp)) (fun hHeld => ?_)
            clear hK K
            (try simp only [Act.put, List.setIfInBounds_toArray, List.set_cons_zero, List.set_cons_succ])
            refine wpAnyH_ready (rs := [6]) (by kernel_rfl) (by simp) ?_; refine AllReadyH.cons (o := _) rfl (fun K hK => ?_) AllReadyH.nil
            go_simp
            go_at_call 29; refine (hSm A1 c1 _ hu1 hHeld).mono ?_; rintro e_1 w_1 ⟨rfl, y1⟩; first | exact hx_ | skip
            refine hK.out _ _ (by (try dsimp only); exact hHeld.trans y1 (by simp)) (fun hHeld => ?_)
            clear hK K
            (try simp only [Act.put, List.setIfInBounds_toArray, List.set_cons_zero, List.set_cons_succ])
            (refine take_on 7 (some 99) (v := ?_) rfl rfl (by kernel_rfl) (by kernel_rfl) (by kernel_rfl) (fun _ _ _ h => h) (by rfl) (by assumption) ?_ ?_; rotate_left; · (intro w hSw; go_simp; (try with_reducible rfl)))
            (try simp only [Act.put, List.setIfInBounds_toArray, List.set_cons_zero, List.set_cons_succ])
            refine wpAnyH_done (by kernel_rfl) ?_ _
            refine NoPanic.normal ?_
            replace H := H.new hHeld
            go_wp2_with fail
            go_roundw
            case rel => exact ⟨j + 1, by omega, by go_num, H⟩
            case measure => simp [intOf]; omega
          · obtain rfl : j = 16 := by omega
            have hjz : ¬ ((16 : Nat) : Int) < 16 := by omega
            have br := (H.pick 5 rfl).blk
            have r0 := br.cell 0; have r1 := br.cell 1; have r2 := br.cell 2
            simp only [List.getElem?_toArray, List.getElem?_cons_zero, List.getElem?_cons_succ] at r0 r1 r2
            go_wp2_with fail
            go_ret
            exact ⟨rfl, H.1⟩
  | some fr =>
    obtain ⟨f, ⟨ra, rb, rc⟩⟩ := fr
    have hMay := fun w' => RMay_any ⟨ra, rb, rc⟩ kind user w'
    simp only [Rg.cs] at hMay
    obtain ⟨v1, v2, v3⟩ := walk_is hw
    have cW1 := fun {z : World} {l_ : List Th} (H : SepC w z (tlbT t 8 ([]) :: hoT hp hb 16 (W) :: blkT m 85 (mmC t hp) :: l_)) => H.mWalk hW root N
    simp only [v1, v2, v3, Rg.cs] at cW1
    clear v1 v2 v3
    cases hm0 : mayB ⟨ra, rb, rc⟩ kind user
    · rw [hm0] at hMay
      obtain ⟨q1, q2, q3⟩ := acc_bad (most := 8) k1 hw hm0
      rw [k2] at q3
      have cA1 := fun {z : World} {l_ : List Th} (H : SepC w z (tlbT t 8 ([]) :: hoT hp hb 16 (W) :: blkT m 85 (mmC t hp) :: l_)) => H.mAcc hW root asid N kind user
      simp only [hNm, q1, q2, q3] at cA1
      clear q1 q2 q3 k1 k2 hw hm0
      have H5 := (H4.alloc (Array.replicate 16 (.slice none 0 0)) 56).v0 (fun j => frameW 16 W (j : Int))
      rw [show (Array.replicate 16 (Value.slice none 0 0)) = #[.slice none 0 0, .slice none 0 0, .slice none 0 0, .slice none 0 0, .slice none 0 0, .slice none 0 0, .slice none 0 0, .slice none 0 0, .slice none 0 0, .slice none 0 0, .slice none 0 0, .slice none 0 0, .slice none 0 0, .slice none 0 0, .slice none 0 0, .slice none 0 0] from rfl] at H5
      go_wp2_with fail
      generalize hww : z4.alloc (.cells #[.slice none 0 0, .slice none 0 0, .slice none 0 0, .slice none 0 0, .slice none 0 0, .slice none 0 0, .slice none 0 0, .slice none 0 0, .slice none 0 0, .slice none 0 0, .slice none 0 0, .slice none 0 0, .slice none 0 0, .slice none 0 0, .slice none 0 0, .slice none 0 0] 56) = z5 at *
      generalize z4.heap.size = g8 at *
      clear hww H4
      go_loopw [18] (fun s18 wr => ∃ f_ : Nat, f_ ≤ 16 ∧ s18 = .int .i64 f_ ∧ SepC w wr (rowsV 16 g8 56 (fun j => frameW 16 W (j : Int)) f_ :: tlbT t 8 ([]) :: hoT hp hb 16 (W) :: blkT m 85 (mmC t hp) :: [])) (fun s18 _ => 16 - (intOf s18).toNat)
      case atStart => exact ⟨0, by omega, rfl, H5⟩
      case round =>
        obtain ⟨j, hj, rfl, H⟩ := hrel
        clear H5
        by_cases hlt : j < 16
        · have hjz : (j : Int) < 16 := by omega
          obtain ⟨_, hfl⟩ := frameW_take (n := 16) hWl hlt
          have cF := Frame_at hp hb 16 W (j : Int) wr (H.pick 2 rfl).hmem
          rw [hfl] at cF
          go_wp2_with fail
          refine cF.mono ?_; rintro e w5 ⟨A5, c5, rfl, y5, hu5, hA5, _⟩
          clear cF
          have H6 := H.new y5
          obtain ⟨⟨Ao, no, co, hco⟩, hfo⟩ := H6.vCell hlt
          have H7 := H.vPut (c := c5) y5 hlt hu5 hA5
          clear H H6 hu5 hA5 y5
          go_wp2_with fail
          go_roundw
          case rel => exact ⟨j + 1, by omega, by go_num, H7⟩
          case measure => simp [intOf]; omega
        · obtain rfl : j = 16 := by omega
          have hjz : ¬ ((16 : Nat) : Int) < 16 := by omega
          replace H : SepC w wr (tlbT t 8 ([]) :: hoT hp hb 16 (W) :: blkT m 85 (mmC t hp) :: rowsV 16 g8 56 (fun j => frameW 16 W (j : Int)) 16 :: []) := ((H.pick 3 rfl).pick 3 rfl).pick 3 rfl
          go_wp2_with fail
          have hM2 : ((pg : Nat) : Int) % 512 = (N : Int) := by omega
          rw [hM2]
          clear hM2
          refine (cW1 H).mono ?_; rintro e z6 ⟨rfl, y6⟩
          clear cW1
          have H6 := (H.new y6).alloc #[.bool ra, .bool rb, .bool rc] 47
          clear H y6
          go_wp2_with fail
          generalize z6.alloc (.cells #[.bool ra, .bool rb, .bool rc] 47) = z7 at *
          generalize z6.heap.size = gr at *
          replace H6 : SepC w z7 (tlbT t 8 ([]) :: hoT hp hb 16 (W) :: blkT m 85 (mmC t hp) :: blkT gr 47 #[.bool ra, .bool rb, .bool rc] :: rowsV 16 g8 56 (fun j => frameW 16 W (j : Int)) 16 :: []) := ((H6.pick 3 rfl).pick 3 rfl).pick 3 rfl
          refine (cA1 H6).mono ?_; rintro e z8 ⟨rfl, H8⟩
          clear cA1 H6
          go_wp2_with fail
          refine (H8.tList).mono ?_; rintro e z9 ⟨v, rfl, H9⟩
          clear H8
          obtain ⟨Ak, ck, rfl⟩ := H9.hitsForm
          go_wp2_with fail
          have H10 := (H9.pick 5 rfl).pick 3 rfl
          clear H9
          go_loopw [26] (fun s26 wr => ∃ f_ : Nat, f_ ≤ 16 ∧ s26 = .int .i64 f_ ∧ SepC w wr (hoT hp hb 16 W :: rowsV 16 g8 56 (fun j => frameW 16 W (j : Int)) 16 :: hitsT (.slice Ak (List.length []) ck) [] :: tlbT t 8 [] :: blkT m 85 (mmC t hp) :: blkT gr 47 #[.bool ra, .bool rb, .bool rc] :: [])) (fun s26 _ => 16 - (intOf s26).toNat)
          case atStart => exact ⟨0, by omega, rfl, H10⟩
          case round =>
            obtain ⟨j, hj, rfl, H⟩ := hrel
            clear H10
            by_cases hlt : j < 16
            · have hjz : (j : Int) < 16 := by omega
              have hm := H.hmem
              obtain ⟨Ar, cr, hrow, hur⟩ := (H.pick 1 rfl).vGet hlt
              have hg8 : g8 < wr.heap.size := World.block_lt_of_cell? _ _ hrow
              obtain ⟨_, hfl⟩ := frameW_take (n := 16) hWl hlt
              have hFr : ∀ w', Chg [] wr w' → Calls Try.prog 28 #[.pointer (some ⟨hp, 0, none⟩), .int .i64 j] w' fun e w'' => ∃ A c, e = .returned (.slice A 8 c) ∧ SlU w'' A 8 (frameW 16 W (j : Int)) ∧ Chg [] w' w'' := by
                intro w' hc
                have h1 := Frame_at hp hb 16 W (j : Int) w' (hm.chg hc (by simp) (by simp))
                rw [hfl] at h1
                exact h1.mono fun _ _ ⟨A, c, e, y, hu, _, _⟩ => ⟨A, c, e, hu, y⟩
              have hSm : ∀ (A1 : Option Addr) (c1 : Nat) w', SlU w' A1 8 (frameW 16 W (j : Int)) → Chg [] wr w' → Calls Try.prog 29 #[.slice A1 8 c1, .slice Ar 8 cr] w' fun e w'' => e = .returned (.bool true) ∧ Chg [] w' w'' := by
                intro A1 c1 w' hu hc
                have h1 := SameWords_any A1 Ar 8 8 c1 cr _ _ w' hu (hur.chg hc (by simp)) (by omega) (by omega)
                rw [eqL_self] at h1
                exact h1.mono fun _ _ ⟨e, qd, h2⟩ => ⟨e, by rw [h2]; exact (Chg.refl [] w').drewN qd⟩
              clear hfl hm hur
              go_upto_region 21 with fail
              refine wp_region_noPanic ?_
              refine wp_region_held_drew (S := (fun w' => Chg [] wr w')) (by kernel_rfl) ?_ (fun hHeld => ?_)
              · exact (Chg.refl [] wr).drew
              (refine take_on 0 (some 92) (v := ?_) rfl rfl (by kernel_rfl) (by kernel_rfl) (by kernel_rfl) (fun _ _ _ h => h) (by rfl) (by assumption) ?_ ?_; rotate_left; · (intro w hSw; go_simp; (try with_reducible rfl)))
              (try simp only [Act.put, List.setIfInBounds_toArray, List.set_cons_zero, List.set_cons_succ])
              (refine take_on 1 (some 93) (v := ?_) rfl rfl (by kernel_rfl) (by kernel_rfl) (by kernel_rfl) (fun _ _ _ h => h) (by rfl) (by assumption) ?_ ?_; rotate_left; · (intro w hSw; go_simp; (try with_reducible rfl)))
              (try simp only [Act.put, List.setIfInBounds_toArray, List.set_cons_zero, List.set_cons_succ])
              (refine take_on 3 (some 95) (v := ?_) rfl rfl (by kernel_rfl) (by kernel_rfl) (by kernel_rfl) (fun _ _ _ h => h) (by rfl) (by assumption) ?_ ?_; rotate_left; · (intro w hSw; go_simp; (try with_reducible rfl)))
              (try simp only [Act.put, List.setIfInBounds_toArray, List.set_cons_zero, List.set_cons_succ])
              (refine take_on 4 (some 96) (v := ?_) rfl rfl (by kernel_rfl) (by kernel_rfl) (by kernel_rfl) (fun _ _ _ h => h) (by rfl) (by assumption) ?_ ?_; rotate_left; · (intro w hSw; go_simp; (try with_reducible rfl)))
              (try simp only [Act.put, List.setIfInBounds_toArray, List.set_cons_zero, List.set_cons_succ])
              (refine take_on 5 (some 97) (v := ?_) rfl rfl (by kernel_rfl) (by kernel_rfl) (by kernel_rfl) (fun _ _ _ h => h) (by rfl) (by assumption) ?_ ?_; rotate_left; · (intro w hSw; (try dsimp only at hSw); have d0 := (hSw.cell (p := ⟨g8, j, none⟩) hg8 (by simp)).trans hrow; go_simp; (try with_reducible rfl)))
              (try simp only [Act.put, List.setIfInBounds_toArray, List.set_cons_zero, List.set_cons_succ])
              refine wpAnyH_ready (rs := [2]) (by kernel_rfl) (by simp) ?_; refine AllReadyH.cons (o := _) rfl (fun K hK => ?_) AllReadyH.nil
              go_simp
              go_at_call 28; refine (hFr _ hHeld).mono ?_; rintro e_0 w_0 ⟨A1, c1, rfl, hu1, y0⟩; first | exact hx_ | skip
              refine hK.out _ _ (by (try dsimp only); exact hHeld.trans y0 (by simp)) (fun hHeld => ?_)
              clear hK K
              (try simp only [Act.put, List.setIfInBounds_toArray, List.set_cons_zero, List.set_cons_succ])
              refine wpAnyH_ready (rs := [6]) (by kernel_rfl) (by simp) ?_; refine AllReadyH.cons (o := _) rfl (fun K hK => ?_) AllReadyH.nil
              go_simp
              go_at_call 29; refine (hSm A1 c1 _ hu1 hHeld).mono ?_; rintro e_1 w_1 ⟨rfl, y1⟩; first | exact hx_ | skip
              refine hK.out _ _ (by (try dsimp only); exact hHeld.trans y1 (by simp)) (fun hHeld => ?_)
              clear hK K
              (try simp only [Act.put, List.setIfInBounds_toArray, List.set_cons_zero, List.set_cons_succ])
              (refine take_on 7 (some 99) (v := ?_) rfl rfl (by kernel_rfl) (by kernel_rfl) (by kernel_rfl) (fun _ _ _ h => h) (by rfl) (by assumption) ?_ ?_; rotate_left; · (intro w hSw; go_simp; (try with_reducible rfl)))
              (try simp only [Act.put, List.setIfInBounds_toArray, List.set_cons_zero, List.set_cons_succ])
              refine wpAnyH_done (by kernel_rfl) ?_ _
              refine NoPanic.normal ?_
              replace H := H.new hHeld
              go_wp2_with fail
              go_roundw
              case rel => exact ⟨j + 1, by omega, by go_num, H⟩
              case measure => simp [intOf]; omega
            · obtain rfl : j = 16 := by omega
              have hjz : ¬ ((16 : Nat) : Int) < 16 := by omega
              have br := (H.pick 5 rfl).blk
              have r0 := br.cell 0; have r1 := br.cell 1; have r2 := br.cell 2
              simp only [List.getElem?_toArray, List.getElem?_cons_zero, List.getElem?_cons_succ] at r0 r1 r2
              go_wp2_with fail
              refine (hMay _).mono ?_; rintro e z12 ⟨rfl, y12⟩
              have H12 := H.new y12
              go_wp2_with fail
              go_ret
              exact ⟨rfl, H12.1⟩
    · rw [hm0] at hMay
      obtain ⟨q1, q2, q3⟩ := acc_good (most := 8) k1 hw hm0
      rw [k2, put_nil] at q3
      simp only [hitH] at q3
      have cA1 := fun {z : World} {l_ : List Th} (H : SepC w z (tlbT t 8 ([]) :: hoT hp hb 16 (W) :: blkT m 85 (mmC t hp) :: l_)) => H.mAcc hW root asid N kind user
      simp only [hNm, q1, q2, q3] at cA1
      clear q1 q2 q3 k1 k2 hw hm0
      have H5 := (H4.alloc (Array.replicate 16 (.slice none 0 0)) 56).v0 (fun j => frameW 16 W (j : Int))
      rw [show (Array.replicate 16 (Value.slice none 0 0)) = #[.slice none 0 0, .slice none 0 0, .slice none 0 0, .slice none 0 0, .slice none 0 0, .slice none 0 0, .slice none 0 0, .slice none 0 0, .slice none 0 0, .slice none 0 0, .slice none 0 0, .slice none 0 0, .slice none 0 0, .slice none 0 0, .slice none 0 0, .slice none 0 0] from rfl] at H5
      go_wp2_with fail
      generalize hww : z4.alloc (.cells #[.slice none 0 0, .slice none 0 0, .slice none 0 0, .slice none 0 0, .slice none 0 0, .slice none 0 0, .slice none 0 0, .slice none 0 0, .slice none 0 0, .slice none 0 0, .slice none 0 0, .slice none 0 0, .slice none 0 0, .slice none 0 0, .slice none 0 0, .slice none 0 0] 56) = z5 at *
      generalize z4.heap.size = g8 at *
      clear hww H4
      go_loopw [18] (fun s18 wr => ∃ f_ : Nat, f_ ≤ 16 ∧ s18 = .int .i64 f_ ∧ SepC w wr (rowsV 16 g8 56 (fun j => frameW 16 W (j : Int)) f_ :: tlbT t 8 ([]) :: hoT hp hb 16 (W) :: blkT m 85 (mmC t hp) :: [])) (fun s18 _ => 16 - (intOf s18).toNat)
      case atStart => exact ⟨0, by omega, rfl, H5⟩
      case round =>
        obtain ⟨j, hj, rfl, H⟩ := hrel
        clear H5
        by_cases hlt : j < 16
        · have hjz : (j : Int) < 16 := by omega
          obtain ⟨_, hfl⟩ := frameW_take (n := 16) hWl hlt
          have cF := Frame_at hp hb 16 W (j : Int) wr (H.pick 2 rfl).hmem
          rw [hfl] at cF
          go_wp2_with fail
          refine cF.mono ?_; rintro e w5 ⟨A5, c5, rfl, y5, hu5, hA5, _⟩
          clear cF
          have H6 := H.new y5
          obtain ⟨⟨Ao, no, co, hco⟩, hfo⟩ := H6.vCell hlt
          have H7 := H.vPut (c := c5) y5 hlt hu5 hA5
          clear H H6 hu5 hA5 y5
          go_wp2_with fail
          go_roundw
          case rel => exact ⟨j + 1, by omega, by go_num, H7⟩
          case measure => simp [intOf]; omega
        · obtain rfl : j = 16 := by omega
          have hjz : ¬ ((16 : Nat) : Int) < 16 := by omega
          replace H : SepC w wr (tlbT t 8 ([]) :: hoT hp hb 16 (W) :: blkT m 85 (mmC t hp) :: rowsV 16 g8 56 (fun j => frameW 16 W (j : Int)) 16 :: []) := ((H.pick 3 rfl).pick 3 rfl).pick 3 rfl
          go_wp2_with fail
          have hM2 : ((pg : Nat) : Int) % 512 = (N : Int) := by omega
          rw [hM2]
          clear hM2
          refine (cW1 H).mono ?_; rintro e z6 ⟨rfl, y6⟩
          clear cW1
          have H6 := (H.new y6).alloc #[.bool ra, .bool rb, .bool rc] 47
          clear H y6
          go_wp2_with fail
          generalize z6.alloc (.cells #[.bool ra, .bool rb, .bool rc] 47) = z7 at *
          generalize z6.heap.size = gr at *
          replace H6 : SepC w z7 (tlbT t 8 ([]) :: hoT hp hb 16 (W) :: blkT m 85 (mmC t hp) :: blkT gr 47 #[.bool ra, .bool rb, .bool rc] :: rowsV 16 g8 56 (fun j => frameW 16 W (j : Int)) 16 :: []) := ((H6.pick 3 rfl).pick 3 rfl).pick 3 rfl
          refine (cA1 H6).mono ?_; rintro e z8 ⟨rfl, H8⟩
          clear cA1 H6
          go_wp2_with fail
          refine (H8.tList).mono ?_; rintro e z9 ⟨v, rfl, H9⟩
          clear H8
          obtain ⟨Ak, ck, rfl⟩ := H9.hitsForm
          go_wp2_with fail
          have H10 := (H9.pick 5 rfl).pick 3 rfl
          clear H9
          go_loopw [26] (fun s26 wr => ∃ f_ : Nat, f_ ≤ 16 ∧ s26 = .int .i64 f_ ∧ SepC w wr (hoT hp hb 16 W :: rowsV 16 g8 56 (fun j => frameW 16 W (j : Int)) 16 :: hitsT (.slice Ak (List.length [(⟨asid, (N : Int), f, ra, rb, rc, false⟩ : Ht)]) ck) [(⟨asid, (N : Int), f, ra, rb, rc, false⟩ : Ht)] :: tlbT t 8 [(⟨asid, (N : Int), f, ra, rb, rc, false⟩ : Ht)] :: blkT m 85 (mmC t hp) :: blkT gr 47 #[.bool ra, .bool rb, .bool rc] :: [])) (fun s26 _ => 16 - (intOf s26).toNat)
          case atStart => exact ⟨0, by omega, rfl, H10⟩
          case round =>
            obtain ⟨j, hj, rfl, H⟩ := hrel
            clear H10
            by_cases hlt : j < 16
            · have hjz : (j : Int) < 16 := by omega
              have hm := H.hmem
              obtain ⟨Ar, cr, hrow, hur⟩ := (H.pick 1 rfl).vGet hlt
              have hg8 : g8 < wr.heap.size := World.block_lt_of_cell? _ _ hrow
              obtain ⟨_, hfl⟩ := frameW_take (n := 16) hWl hlt
              have hFr : ∀ w', Chg [] wr w' → Calls Try.prog 28 #[.pointer (some ⟨hp, 0, none⟩), .int .i64 j] w' fun e w'' => ∃ A c, e = .returned (.slice A 8 c) ∧ SlU w'' A 8 (frameW 16 W (j : Int)) ∧ Chg [] w' w'' := by
                intro w' hc
                have h1 := Frame_at hp hb 16 W (j : Int) w' (hm.chg hc (by simp) (by simp))
                rw [hfl] at h1
                exact h1.mono fun _ _ ⟨A, c, e, y, hu, _, _⟩ => ⟨A, c, e, hu, y⟩
              have hSm : ∀ (A1 : Option Addr) (c1 : Nat) w', SlU w' A1 8 (frameW 16 W (j : Int)) → Chg [] wr w' → Calls Try.prog 29 #[.slice A1 8 c1, .slice Ar 8 cr] w' fun e w'' => e = .returned (.bool true) ∧ Chg [] w' w'' := by
                intro A1 c1 w' hu hc
                have h1 := SameWords_any A1 Ar 8 8 c1 cr _ _ w' hu (hur.chg hc (by simp)) (by omega) (by omega)
                rw [eqL_self] at h1
                exact h1.mono fun _ _ ⟨e, qd, h2⟩ => ⟨e, by rw [h2]; exact (Chg.refl [] w').drewN qd⟩
              clear hfl hm hur
              go_upto_region 21 with fail
              refine wp_region_noPanic ?_
              refine wp_region_held_drew (S := (fun w' => Chg [] wr w')) (by kernel_rfl) ?_ (fun hHeld => ?_)
              · exact (Chg.refl [] wr).drew
              (refine take_on 0 (some 92) (v := ?_) rfl rfl (by kernel_rfl) (by kernel_rfl) (by kernel_rfl) (fun _ _ _ h => h) (by rfl) (by assumption) ?_ ?_; rotate_left; · (intro w hSw; go_simp; (try with_reducible rfl)))
              (try simp only [Act.put, List.setIfInBounds_toArray, List.set_cons_zero, List.set_cons_succ])
              (refine take_on 1 (some 93) (v := ?_) rfl rfl (by kernel_rfl) (by kernel_rfl) (by kernel_rfl) (fun _ _ _ h => h) (by rfl) (by assumption) ?_ ?_; rotate_left; · (intro w hSw; go_simp; (try with_reducible rfl)))
              (try simp only [Act.put, List.setIfInBounds_toArray, List.set_cons_zero, List.set_cons_succ])
              (refine take_on 3 (some 95) (v := ?_) rfl rfl (by kernel_rfl) (by kernel_rfl) (by kernel_rfl) (fun _ _ _ h => h) (by rfl) (by assumption) ?_ ?_; rotate_left; · (intro w hSw; go_simp; (try with_reducible rfl)))
              (try simp only [Act.put, List.setIfInBounds_toArray, List.set_cons_zero, List.set_cons_succ])
              (refine take_on 4 (some 96) (v := ?_) rfl rfl (by kernel_rfl) (by kernel_rfl) (by kernel_rfl) (fun _ _ _ h => h) (by rfl) (by assumption) ?_ ?_; rotate_left; · (intro w hSw; go_simp; (try with_reducible rfl)))
              (try simp only [Act.put, List.setIfInBounds_toArray, List.set_cons_zero, List.set_cons_succ])
              (refine take_on 5 (some 97) (v := ?_) rfl rfl (by kernel_rfl) (by kernel_rfl) (by kernel_rfl) (fun _ _ _ h => h) (by rfl) (by assumption) ?_ ?_; rotate_left; · (intro w hSw; (try dsimp only at hSw); have d0 := (hSw.cell (p := ⟨g8, j, none⟩) hg8 (by simp)).trans hrow; go_simp; (try with_reducible rfl)))
              (try simp only [Act.put, List.setIfInBounds_toArray, List.set_cons_zero, List.set_cons_succ])
              refine wpAnyH_ready (rs := [2]) (by kernel_rfl) (by simp) ?_; refine AllReadyH.cons (o := _) rfl (fun K hK => ?_) AllReadyH.nil
              go_simp
              go_at_call 28; refine (hFr _ hHeld).mono ?_; rintro e_0 w_0 ⟨A1, c1, rfl, hu1, y0⟩; first | exact hx_ | skip
              refine hK.out _ _ (by (try dsimp only); exact hHeld.trans y0 (by simp)) (fun hHeld => ?_)
              clear hK K
              (try simp only [Act.put, List.setIfInBounds_toArray, List.set_cons_zero, List.set_cons_succ])
              refine wpAnyH_ready (rs := [6]) (by kernel_rfl) (by simp) ?_; refine AllReadyH.cons (o := _) rfl (fun K hK => ?_) AllReadyH.nil
              go_simp
              go_at_call 29; refine (hSm A1 c1 _ hu1 hHeld).mono ?_; rintro e_1 w_1 ⟨rfl, y1⟩; first | exact hx_ | skip
              refine hK.out _ _ (by (try dsimp only); exact hHeld.trans y1 (by simp)) (fun hHeld => ?_)
              clear hK K
              (try simp only [Act.put, List.setIfInBounds_toArray, List.set_cons_zero, List.set_cons_succ])
              (refine take_on 7 (some 99) (v := ?_) rfl rfl (by kernel_rfl) (by kernel_rfl) (by kernel_rfl) (fun _ _ _ h => h) (by rfl) (by assumption) ?_ ?_; rotate_left; · (intro w hSw; go_simp; (try with_reducible rfl)))
              (try simp only [Act.put, List.setIfInBounds_toArray, List.set_cons_zero, List.set_cons_succ])
              refine wpAnyH_done (by kernel_rfl) ?_ _
              refine NoPanic.normal ?_
              replace H := H.new hHeld
              go_wp2_with fail
              go_roundw
              case rel => exact ⟨j + 1, by omega, by go_num, H⟩
              case measure => simp [intOf]; omega
            · obtain rfl : j = 16 := by omega
              have hjz : ¬ ((16 : Nat) : Int) < 16 := by omega
              have br := (H.pick 5 rfl).blk
              have r0 := br.cell 0; have r1 := br.cell 1; have r2 := br.cell 2
              simp only [List.getElem?_toArray, List.getElem?_cons_zero, List.getElem?_cons_succ] at r0 r1 r2
              go_wp2_with fail
              refine (hMay _).mono ?_; rintro e z12 ⟨rfl, y12⟩
              have H12 := H.new y12
              clear H br r0 r1 r2
              have br := (H12.pick 5 rfl).blk
              have r0 := br.cell 0; have r1 := br.cell 1; have r2 := br.cell 2
              simp only [List.getElem?_toArray, List.getElem?_cons_zero, List.getElem?_cons_succ] at r0 r1 r2
              go_wp2_with fail
              have H13 := (H12.pick 2 rfl).alloc #[.int .i64 asid, .int .i64 N, .int .i64 f, .bool ra, .bool rb, .bool rc, .bool false] 61
              generalize z12.alloc (.cells #[.int .i64 asid, .int .i64 N, .int .i64 f, .bool ra, .bool rb, .bool rc, .bool false] 61) = z13 at *
              generalize z12.heap.size = gh at *
              have sx := SlH.one (x := (⟨asid, (N : Int), f, ra, rb, rc, false⟩ : Ht)) H13.blk
              have sk := (H13.pick 1 rfl).hitsOwn.slh
              refine (TSame_at Ak (some ⟨gh, 0, none⟩) 1 1 ck 1 _ _ _ sk sx).mono ?_; rintro e z14 ⟨rfl, y14⟩
              rw [eqHs_self]
              have H14 := H13.new y14
              go_wp2_with fail
              go_ret
              exact ⟨rfl, H14.1⟩

theorem MmuFresh_walk (A0 : Option Addr) (n0 c0 : Nat) (L0 : List Pu) (root : Int) (asid : Int) (pg : Int) (kind : Int) (user : Bool) (w : World) (h0 : SlP w A0 n0 L0) (hpg : 0 ≤ pg ∧ pg ≤ 65535) :
    Calls Try.prog 4 #[.slice A0 n0 c0, .int .i64 root, .int .i64 asid, .int .u16 pg, .int .i64 kind, .bool user] w fun e w' => e = .returned (.bool true) ∧ Chg [] w w' := by
  obtain ⟨kpg, rfl⟩ := Int.eq_ofNat_of_zero_le hpg.1
  exact lawMmuFresh_any A0 n0 c0 L0 root asid kpg kind user w h0 (by omega)

end Go.Proofs.Ytfckedecpflldaa
