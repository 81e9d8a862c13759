/-
  MmuPlays: the law, walked from contracts.
-/
import Derived.Test.YtfckedecpflldaaMmuC
import Derived.Test.YtfckedecpflldaaMmuD
import Derived.Test.YtfckedecpflldaaRowsV
import Derived.Deep.CutRange
namespace Go.Proofs.Ytfckedecpflldaa
open Go.RowKit

set_option maxRecDepth 100000 in
set_option maxHeartbeats 20000000 in
/-- calls of a machine, with a TLB of any size, on any tables, answer as the document says; so do what is known, and walks -/
theorem lawMmuPlays_any (A : Option Addr) (n c : Nat) (L : List Pu) (most : Int) (B : Option Addr) (n2 c2 : Nat) (L2 : List OpX) (w : World) (hl : SlP w A n L) (hl2 : OpsX w B n2 L2) :
    Calls Try.prog 3 #[.slice A n c, .int .i64 most, .slice B n2 c2] w fun e w' => e = .returned (.bool true) ∧ Chg [] w w' := by
  have hHd := fun w' => Mhead_any w'
  have hn9 := hl.le
  have hnn := hl.len
  replace hnn := Lib.hid hnn
  have hn29 := hl2.sl.le
  have H0 := SepC.nil w
  have hW := madeH_wd hl.wf
  by_cases hv : 1 ≤ most ∧ most ≤ 512
  · obtain ⟨M, rfl⟩ := Int.eq_ofNat_of_zero_le (show 0 ≤ most by omega)
    have hM1 : 1 ≤ M := by omega
    have hM2 : M ≤ 512 := by omega
    clear hv
    by_cases h600 : (600 : Int) < n
    · have hgt : decide ((n : Int) > 600) = true := by simpa using h600
      go_enter Try.func3, Try.ntmps3
      go_wp2_with fail
      refine (hHd _).mono ?_; rintro e z1 ⟨rfl, y1⟩
      have H1 := H0.new y1
      clear H0 y1 hHd
      go_wp2_with fail
      refine (Made15_at A n c L _ (hl.self H1.1)).mono ?_; rintro e z2 ⟨hp, hb, rfl, y2, hm, hg1, hg2⟩
      have H2 := H1.lay (P := hoT hp hb 16 (madeH L)) (S := [hb, hp]) y2 ⟨rfl, hm⟩ (by intro i_ hi_; simp only [List.mem_cons, List.not_mem_nil, or_false] at hi_; rcases hi_ with rfl | rfl <;> assumption)
      clear hm hg1 hg2 H1 y2
      go_wp2_with fail
      refine (H2.tNew M (by omega) (by omega)).mono ?_; rintro e z3 ⟨t, rfl, H3⟩
      clear H2
      go_wp2_with fail
      refine (H3.rtNew M (by omega) (by omega)).mono ?_; rintro e z4 ⟨s, rfl, H4⟩
      clear H3
      go_wp2_with fail
      go_ret
      exact ⟨rfl, H4.1⟩
    have hgt : decide ((n : Int) > 600) = false := by simpa using h600
    by_cases h200 : (200 : Int) < n2
    · have hgt2 : decide ((n2 : Int) > 200) = true := by simpa using h200
      go_enter Try.func3, Try.ntmps3
      go_wp2_with fail
      refine (hHd _).mono ?_; rintro e z1 ⟨rfl, y1⟩
      have H1 := H0.new y1
      clear H0 y1 hHd
      go_wp2_with fail
      refine (Made15_at A n c L _ (hl.self H1.1)).mono ?_; rintro e z2 ⟨hp, hb, rfl, y2, hm, hg1, hg2⟩
      have H2 := H1.lay (P := hoT hp hb 16 (madeH L)) (S := [hb, hp]) y2 ⟨rfl, hm⟩ (by intro i_ hi_; simp only [List.mem_cons, List.not_mem_nil, or_false] at hi_; rcases hi_ with rfl | rfl <;> assumption)
      clear hm hg1 hg2 H1 y2
      go_wp2_with fail
      refine (H2.tNew M (by omega) (by omega)).mono ?_; rintro e z3 ⟨t, rfl, H3⟩
      clear H2
      go_wp2_with fail
      refine (H3.rtNew M (by omega) (by omega)).mono ?_; rintro e z4 ⟨s, rfl, H4⟩
      clear H3
      go_wp2_with fail
      go_ret
      exact ⟨rfl, H4.1⟩
    have hgt2 : decide ((n2 : Int) > 200) = false := by simpa using h200
    go_enter Try.func3, Try.ntmps3
    go_wp2_with fail
    refine (hHd _).mono ?_; rintro e z1 ⟨rfl, y1⟩
    have H1 := H0.new y1
    clear H0 y1 hHd
    go_wp2_with fail
    refine (Made15_at A n c L _ (hl.self H1.1)).mono ?_; rintro e z2 ⟨hp, hb, rfl, y2, hm, hg1, hg2⟩
    have H2 := H1.lay (P := hoT hp hb 16 (madeH L)) (S := [hb, hp]) y2 ⟨rfl, hm⟩ (by intro i_ hi_; simp only [List.mem_cons, List.not_mem_nil, or_false] at hi_; rcases hi_ with rfl | rfl <;> assumption)
    clear hm hg1 hg2 H1 y2
    go_wp2_with fail
    refine (H2.tNew M (by omega) (by omega)).mono ?_; rintro e z3 ⟨t, rfl, H3⟩
    clear H2
    go_wp2_with fail
    refine (H3.rtNew M (by omega) (by omega)).mono ?_; rintro e z4 ⟨s, rfl, H4⟩
    clear H3
    have hRNew := fun w' => RNew_at 16 w' (by omega) (by omega)
    go_wp2_with fail
    refine (hRNew _).mono ?_; rintro e z5 ⟨rp, rb, rfl, y5, hm, hg1, hg2⟩
    have H5 : SepC w z5 (rhoT rp rb 16 (setsW 16 (zeros (8 * 16)) (L.take 0)) :: rtlbT s M [] :: tlbT t M [] :: hoT hp hb 16 (madeH L) :: []) := H4.lay (P := rhoT rp rb 16 (zeros (8 * 16))) (S := [rb, rp]) y5 ⟨rfl, hm⟩ (by intro i_ hi_; simp only [List.mem_cons, List.not_mem_nil, or_false] at hi_; rcases hi_ with rfl | rfl <;> assumption)
    clear hm hg1 hg2 H4 y5 hRNew
    go_wp2_with fail
    go_loopw [12] (fun s12 wr => ∃ k : Nat, k ≤ n ∧ s12 = .int .i64 k ∧ SepC w wr (rhoT rp rb 16 (setsW 16 (zeros (8 * 16)) (L.take k)) :: rtlbT s M [] :: tlbT t M [] :: hoT hp hb 16 (madeH L) :: [])) (fun s12 _ => n - (intOf s12).toNat)
    case atStart => exact ⟨0, Nat.zero_le _, rfl, H5⟩
    case round =>
      obtain ⟨k, hk, rfl, H⟩ := hrel
      clear H5
      by_cases hlt : k < n
      · have hltz : (k : Int) < (n : Int) := by omega
        obtain ⟨b, off, x, rfl, _, hx, c0, c1, c2_⟩ := (hl.self H.1).get hlt
        have hset := (H.new (Chg.refl [] wr).drew).rhSet x.g x.i x.v
        rw [← sets_snoc hx] at hset
        clear H
        go_upto_region 11 with fail
        refine wp_region_still_tail 16 (by kernel_rfl) (by kernel_rfl) ?_
        simp only [List.take_succ_cons, List.take_zero, List.drop_succ_cons, List.drop_zero]
        change wpStill _ _ (World.drew _) _ _ _
        iterate 16 still_step
        refine wpStill_nil ?_
        change wpList _ _ _ _ _ (World.drew wr)
        go_wp2_with fail
        refine hset.mono ?_; rintro e w3 ⟨rfl, H3⟩
        clear hset c0 c1 c2_
        go_wp2_with fail
        go_roundw
        case rel => exact ⟨k + 1, by omega, by go_num, H3⟩
        case measure => simp [intOf]; omega
      · obtain rfl : k = n := by omega
        have hltz : ¬ (k : Int) < (k : Int) := by omega
        rw [List.take_of_length_le (Nat.le_of_eq hnn.out)] at H
        change SepC w wr (rhoT rp rb 16 (madeH L) :: _) at H
        generalize madeH L = W at *
        go_wp2_with fail
        refine (H.mNew hp t).mono ?_; rintro e z6 ⟨m, rfl, H6⟩
        clear H
        go_wp2_with fail
        refine (H6.rmNew rp s).mono ?_; rintro e z7 ⟨q, rfl, H7⟩
        clear H6
        replace H7 : SepC w z7 (tlbT t M ([]) :: hoT hp hb 16 (W) :: blkT m 85 (mmC t hp) :: rtlbT s M ([]) :: rhoT rp rb 16 (W) :: blkT q 87 #[.pointer (some ⟨rp, 0, none⟩), .pointer (some ⟨s, 0, none⟩)] :: []) := ((((((H7.pick 0 rfl).pick 2 rfl).pick 3 rfl).pick 3 rfl).pick 5 rfl).pick 5 rfl)
        go_wp2_with fail
        go_loopw [15] (fun s15 wr => ∃ (k : Nat) (W : List Int) (T : List Ht), k ≤ n2 ∧ s15 = .int .i64 k ∧ WdW W ∧ SepC w wr (tlbT t M (T) :: hoT hp hb 16 (W) :: blkT m 85 (mmC t hp) :: rtlbT s M (T) :: rhoT rp rb 16 (W) :: blkT q 87 #[.pointer (some ⟨rp, 0, none⟩), .pointer (some ⟨s, 0, none⟩)] :: [])) (fun s15 _ => n2 - (intOf s15).toNat)
        case atStart => exact ⟨0, W, [], Nat.zero_le _, rfl, hW, H7⟩
        case round =>
          clear H7 hW
          obtain ⟨k, W, T, hk, rfl, hW, H⟩ := hrel
          by_cases hlt : k < n2
          · have hltz : (k : Int) < (n2 : Int) := by omega
            obtain ⟨b, off, o, rfl, ho, c0, c1, c2_, c3, c4, c5, c6, c7, c8⟩ := opX_cells (hl2.new H.1).sl hlt
            have hwf := hl2.at_ ho
            clear ho
            obtain ⟨what, root, asid, page, kind, user, of_, oi, ov⟩ := o
            simp only [OpX.Wf] at hwf
            simp only at c0 c1 c2_ c3 c4 c5 c6 c7 c8
            by_cases hw3 : what = 3
            · subst hw3
              have H1 : SepC w _ (tlbT t M (T) :: hoT hp hb 16 (W) :: blkT m 85 (mmC t hp) :: rtlbT s M (T) :: rhoT rp rb 16 (W) :: blkT q 87 #[.pointer (some ⟨rp, 0, none⟩), .pointer (some ⟨s, 0, none⟩)] :: blkT wr.heap.size 42 #[.int .i64 3, .int .i64 root, .int .i64 asid, .int .i64 page, .int .i64 kind, .bool user, .int .i64 of_, .int .i64 oi, .int .u64 ov] :: []) := (((((((H.alloc #[.int .i64 3, .int .i64 root, .int .i64 asid, .int .i64 page, .int .i64 kind, .bool user, .int .i64 of_, .int .i64 oi, .int .u64 ov] 42).pick 6 rfl).pick 6 rfl).pick 6 rfl).pick 6 rfl).pick 6 rfl).pick 6 rfl)
              clear H
              have cP := fun {z : World} {l_ : List Th} (H : SepC w z (tlbT t M (T) :: hoT hp hb 16 (W) :: blkT m 85 (mmC t hp) :: l_)) => H.mFind hW root asid page
              have cQ := fun {z : World} {l_ : List Th} (H : SepC w z (rtlbT s M (T) :: rhoT rp rb 16 (W) :: blkT q 87 #[.pointer (some ⟨rp, 0, none⟩), .pointer (some ⟨s, 0, none⟩)] :: l_)) => H.rmFind hW root asid page
              generalize findH 16 W M T root asid (page % 512) = T1 at *
              generalize findHB 16 W T root asid (page % 512) = bv at *
              have hW1 := hW
              go_wp2_with fail
              generalize wr.alloc (.cells #[.int .i64 3, .int .i64 root, .int .i64 asid, .int .i64 page, .int .i64 kind, .bool user, .int .i64 of_, .int .i64 oi, .int .u64 ov] 42) = z1 at *
              generalize wr.heap.size = gb at *
              refine (cP H1).mono ?_; rintro e z2 ⟨rfl, H2⟩
              clear H1 cP
              have bb := (H2.pick 6 rfl).blk
              have c0 := bb.cell 0; have c1 := bb.cell 1; have c2_ := bb.cell 2; have c3 := bb.cell 3; have c4 := bb.cell 4; have c5 := bb.cell 5; have c6 := bb.cell 6; have c7 := bb.cell 7; have c8 := bb.cell 8
              simp only [List.getElem?_toArray, List.getElem?_cons_zero, List.getElem?_cons_succ] at c0 c1 c2_ c3 c4 c5 c6 c7 c8
              go_wp2_with fail
              clear bb c0 c1 c2_ c3 c4 c5 c6 c7 c8
              refine (cQ (((H2.pick 5 rfl).pick 5 rfl).pick 5 rfl)).mono ?_; rintro e z3 ⟨rfl, H3'⟩
              have H3 := ((H3'.pick 5 rfl).pick 5 rfl).pick 5 rfl
              clear H2 cQ H3'
              have cW := fun {z : World} {l_ : List Th} (H : SepC w z (tlbT t M (T1) :: hoT hp hb 16 (W) :: blkT m 85 (mmC t hp) :: l_)) => H.mWalk hW1 root page
              have cV := fun {z : World} {l_ : List Th} (H : SepC w z (rtlbT s M (T1) :: rhoT rp rb 16 (W) :: blkT q 87 #[.pointer (some ⟨rp, 0, none⟩), .pointer (some ⟨s, 0, none⟩)] :: l_)) => H.rmWalk hW1 root page
              generalize walkF 16 (W) root page = f1 at *
              generalize walkR 16 (W) root page = r1 at *
              generalize (walkH 16 (W) root page).isSome = b1 at *
              obtain ⟨ra, rb_, rc⟩ := r1
              have hne := run_neR15 ⟨ra, rb_, rc⟩
              simp only [Rg.cs] at cW cV hne
              have bb := (H3.pick 6 rfl).blk
              have c0 := bb.cell 0; have c1 := bb.cell 1; have c2_ := bb.cell 2; have c3 := bb.cell 3; have c4 := bb.cell 4; have c5 := bb.cell 5; have c6 := bb.cell 6; have c7 := bb.cell 7; have c8 := bb.cell 8
              simp only [List.getElem?_toArray, List.getElem?_cons_zero, List.getElem?_cons_succ] at c0 c1 c2_ c3 c4 c5 c6 c7 c8
              go_wp2_with fail
              refine (cW H3).mono ?_; rintro e z4 ⟨rfl, y4⟩
              clear bb c0 c1 c2_ c3 c4 c5 c6 c7 c8
              have H4 := (H3.new y4).alloc #[.bool ra, .bool rb_, .bool rc] 47
              clear H3 y4 cW
              have bb := (H4.pick 7 rfl).blk
              have c0 := bb.cell 0; have c1 := bb.cell 1; have c2_ := bb.cell 2; have c3 := bb.cell 3; have c4 := bb.cell 4; have c5 := bb.cell 5; have c6 := bb.cell 6; have c7 := bb.cell 7; have c8 := bb.cell 8
              simp only [List.getElem?_toArray, List.getElem?_cons_zero, List.getElem?_cons_succ] at c0 c1 c2_ c3 c4 c5 c6 c7 c8
              go_wp2_with fail
              clear bb c0 c1 c2_ c3 c4 c5 c6 c7 c8
              generalize z4.alloc (.cells #[.bool ra, .bool rb_, .bool rc] 47) = z5 at *
              generalize z4.heap.size = gx at *
              refine (cV (((H4.pick 6 rfl).pick 6 rfl).pick 6 rfl)).mono ?_; rintro e z6 ⟨rfl, y6⟩
              have H6 := ((((H4.pick 6 rfl).pick 6 rfl).pick 6 rfl).new y6).alloc #[.bool ra, .bool rb_, .bool rc] 47
              clear H4 y6 cV
              have by_ := (H6.pick 0 rfl).blk; have bx_ := (H6.pick 4 rfl).blk
              have y0 := by_.cell 0; have y1 := by_.cell 1; have y2 := by_.cell 2; have x0 := bx_.cell 0; have x1 := bx_.cell 1; have x2 := bx_.cell 2
              simp only [List.getElem?_toArray, List.getElem?_cons_zero, List.getElem?_cons_succ] at y0 y1 y2 x0 x1 x2
              go_wp2_with fail
              clear by_ bx_ y0 y1 y2 x0 x1 x2 hne
              generalize z6.alloc (.cells #[.bool ra, .bool rb_, .bool rc] 47) = z7 at *
              generalize z6.heap.size = gy at *
              refine ((H6.pick 5 rfl).tList).mono ?_; rintro e z8 ⟨v8, rfl, H8⟩
              clear H6
              obtain ⟨A8, c8, rfl⟩ := H8.hitsForm
              go_wp2_with fail
              refine ((H8.pick 3 rfl).rtList).mono ?_; rintro e z9 ⟨v9, rfl, H9⟩
              clear H8
              obtain ⟨A9, c9, rfl⟩ := H9.hitsForm
              go_wp2_with fail
              have s9 := H9.hitsOwn.slh
              have s8 := (H9.pick 2 rfl).hitsOwn.slh
              have hSm := TSame_at A8 A9 _ _ c8 c9 T1 T1 _ s8 s9
              rw [eqHs_self] at hSm
              refine hSm.mono ?_; rintro e za ⟨rfl, ya⟩
              have HA := H9.new ya
              clear H9 ya s8 s9 hSm
              have HB : SepC w za (tlbT t M (T1) :: hoT hp hb 16 (W) :: blkT m 85 (mmC t hp) :: rtlbT s M (T1) :: rhoT rp rb 16 (W) :: blkT q 87 #[.pointer (some ⟨rp, 0, none⟩), .pointer (some ⟨s, 0, none⟩)] :: []) := ((((((((((((HA.tail).pick 1 rfl).tail).pick 2 rfl).tail.pick 4 rfl).tail.pick 6 rfl).tail).pick 3 rfl).pick 3 rfl).pick 2 rfl).pick 5 rfl).pick 5 rfl).pick 5 rfl
              clear HA
              go_wp2_with fail
              go_roundw
              case rel => exact ⟨k + 1, W, T1, by omega, by go_num, hW1, HB⟩
              case measure => simp [intOf]; omega
            by_cases hw4 : what = 4
            · subst hw4
              have H1 : SepC w _ (tlbT t M (T) :: hoT hp hb 16 (W) :: blkT m 85 (mmC t hp) :: rtlbT s M (T) :: rhoT rp rb 16 (W) :: blkT q 87 #[.pointer (some ⟨rp, 0, none⟩), .pointer (some ⟨s, 0, none⟩)] :: blkT wr.heap.size 42 #[.int .i64 4, .int .i64 root, .int .i64 asid, .int .i64 page, .int .i64 kind, .bool user, .int .i64 of_, .int .i64 oi, .int .u64 ov] :: []) := (((((((H.alloc #[.int .i64 4, .int .i64 root, .int .i64 asid, .int .i64 page, .int .i64 kind, .bool user, .int .i64 of_, .int .i64 oi, .int .u64 ov] 42).pick 6 rfl).pick 6 rfl).pick 6 rfl).pick 6 rfl).pick 6 rfl).pick 6 rfl)
              clear H
              have hW1 : WdW (setW 16 W of_ oi ov) := hW.setW_ _ _ _ _ hwf
              have cP := fun {z : World} {l_ : List Th} (H : SepC w z (hoT hp hb 16 W :: l_)) => H.hSet of_ oi ov
              have cQ := fun {z : World} {l_ : List Th} (H : SepC w z (rhoT rp rb 16 W :: l_)) => H.rhSet of_ oi ov
              generalize hasW 16 of_ oi = bv at *
              generalize setW 16 W of_ oi ov = W1 at *
              go_wp2_with fail
              generalize wr.alloc (.cells #[.int .i64 4, .int .i64 root, .int .i64 asid, .int .i64 page, .int .i64 kind, .bool user, .int .i64 of_, .int .i64 oi, .int .u64 ov] 42) = z1 at *
              generalize wr.heap.size = gb at *
              refine (cP (H1.pick 1 rfl)).mono ?_; rintro e z2 ⟨rfl, H2'⟩
              have H2 := H2'.swap
              clear H1 cP H2'
              have bb := (H2.pick 6 rfl).blk
              have c0 := bb.cell 0; have c1 := bb.cell 1; have c2_ := bb.cell 2; have c3 := bb.cell 3; have c4 := bb.cell 4; have c5 := bb.cell 5; have c6 := bb.cell 6; have c7 := bb.cell 7; have c8 := bb.cell 8
              simp only [List.getElem?_toArray, List.getElem?_cons_zero, List.getElem?_cons_succ] at c0 c1 c2_ c3 c4 c5 c6 c7 c8
              go_wp2_with fail
              clear bb c0 c1 c2_ c3 c4 c5 c6 c7 c8
              refine (cQ (H2.pick 4 rfl)).mono ?_; rintro e z3 ⟨rfl, H3'⟩
              have H3 := (((H3'.pick 4 rfl).pick 4 rfl).pick 4 rfl).pick 4 rfl
              clear H2 cQ H3'
              have cW := fun {z : World} {l_ : List Th} (H : SepC w z (tlbT t M (T) :: hoT hp hb 16 (W1) :: blkT m 85 (mmC t hp) :: l_)) => H.mWalk hW1 root page
              have cV := fun {z : World} {l_ : List Th} (H : SepC w z (rtlbT s M (T) :: rhoT rp rb 16 (W1) :: blkT q 87 #[.pointer (some ⟨rp, 0, none⟩), .pointer (some ⟨s, 0, none⟩)] :: l_)) => H.rmWalk hW1 root page
              generalize walkF 16 (W1) root page = f1 at *
              generalize walkR 16 (W1) root page = r1 at *
              generalize (walkH 16 (W1) root page).isSome = b1 at *
              obtain ⟨ra, rb_, rc⟩ := r1
              have hne := run_neR15 ⟨ra, rb_, rc⟩
              simp only [Rg.cs] at cW cV hne
              have bb := (H3.pick 6 rfl).blk
              have c0 := bb.cell 0; have c1 := bb.cell 1; have c2_ := bb.cell 2; have c3 := bb.cell 3; have c4 := bb.cell 4; have c5 := bb.cell 5; have c6 := bb.cell 6; have c7 := bb.cell 7; have c8 := bb.cell 8
              simp only [List.getElem?_toArray, List.getElem?_cons_zero, List.getElem?_cons_succ] at c0 c1 c2_ c3 c4 c5 c6 c7 c8
              go_wp2_with fail
              refine (cW H3).mono ?_; rintro e z4 ⟨rfl, y4⟩
              clear bb c0 c1 c2_ c3 c4 c5 c6 c7 c8
              have H4 := (H3.new y4).alloc #[.bool ra, .bool rb_, .bool rc] 47
              clear H3 y4 cW
              have bb := (H4.pick 7 rfl).blk
              have c0 := bb.cell 0; have c1 := bb.cell 1; have c2_ := bb.cell 2; have c3 := bb.cell 3; have c4 := bb.cell 4; have c5 := bb.cell 5; have c6 := bb.cell 6; have c7 := bb.cell 7; have c8 := bb.cell 8
              simp only [List.getElem?_toArray, List.getElem?_cons_zero, List.getElem?_cons_succ] at c0 c1 c2_ c3 c4 c5 c6 c7 c8
              go_wp2_with fail
              clear bb c0 c1 c2_ c3 c4 c5 c6 c7 c8
              generalize z4.alloc (.cells #[.bool ra, .bool rb_, .bool rc] 47) = z5 at *
              generalize z4.heap.size = gx at *
              refine (cV (((H4.pick 6 rfl).pick 6 rfl).pick 6 rfl)).mono ?_; rintro e z6 ⟨rfl, y6⟩
              have H6 := ((((H4.pick 6 rfl).pick 6 rfl).pick 6 rfl).new y6).alloc #[.bool ra, .bool rb_, .bool rc] 47
              clear H4 y6 cV
              have by_ := (H6.pick 0 rfl).blk; have bx_ := (H6.pick 4 rfl).blk
              have y0 := by_.cell 0; have y1 := by_.cell 1; have y2 := by_.cell 2; have x0 := bx_.cell 0; have x1 := bx_.cell 1; have x2 := bx_.cell 2
              simp only [List.getElem?_toArray, List.getElem?_cons_zero, List.getElem?_cons_succ] at y0 y1 y2 x0 x1 x2
              go_wp2_with fail
              clear by_ bx_ y0 y1 y2 x0 x1 x2 hne
              generalize z6.alloc (.cells #[.bool ra, .bool rb_, .bool rc] 47) = z7 at *
              generalize z6.heap.size = gy at *
              refine ((H6.pick 5 rfl).tList).mono ?_; rintro e z8 ⟨v8, rfl, H8⟩
              clear H6
              obtain ⟨A8, c8, rfl⟩ := H8.hitsForm
              go_wp2_with fail
              refine ((H8.pick 3 rfl).rtList).mono ?_; rintro e z9 ⟨v9, rfl, H9⟩
              clear H8
              obtain ⟨A9, c9, rfl⟩ := H9.hitsForm
              go_wp2_with fail
              have s9 := H9.hitsOwn.slh
              have s8 := (H9.pick 2 rfl).hitsOwn.slh
              have hSm := TSame_at A8 A9 _ _ c8 c9 T T _ s8 s9
              rw [eqHs_self] at hSm
              refine hSm.mono ?_; rintro e za ⟨rfl, ya⟩
              have HA := H9.new ya
              clear H9 ya s8 s9 hSm
              have HB : SepC w za (tlbT t M (T) :: hoT hp hb 16 (W1) :: blkT m 85 (mmC t hp) :: rtlbT s M (T) :: rhoT rp rb 16 (W1) :: blkT q 87 #[.pointer (some ⟨rp, 0, none⟩), .pointer (some ⟨s, 0, none⟩)] :: []) := ((((((((((((HA.tail).pick 1 rfl).tail).pick 2 rfl).tail.pick 4 rfl).tail.pick 6 rfl).tail).pick 3 rfl).pick 3 rfl).pick 2 rfl).pick 5 rfl).pick 5 rfl).pick 5 rfl
              clear HA
              go_wp2_with fail
              go_roundw
              case rel => exact ⟨k + 1, W1, T, by omega, by go_num, hW1, HB⟩
              case measure => simp [intOf]; omega
            have hb3 : (what == 3) = false := by simpa using hw3
            have hb4 : (what == 4) = false := by simpa using hw4
            have H1 : SepC w _ (tlbT t M (T) :: hoT hp hb 16 (W) :: blkT m 85 (mmC t hp) :: rtlbT s M (T) :: rhoT rp rb 16 (W) :: blkT q 87 #[.pointer (some ⟨rp, 0, none⟩), .pointer (some ⟨s, 0, none⟩)] :: blkT wr.heap.size 42 #[.int .i64 what, .int .i64 root, .int .i64 asid, .int .i64 page, .int .i64 kind, .bool user, .int .i64 of_, .int .i64 oi, .int .u64 ov] :: []) := (((((((H.alloc #[.int .i64 what, .int .i64 root, .int .i64 asid, .int .i64 page, .int .i64 kind, .bool user, .int .i64 of_, .int .i64 oi, .int .u64 ov] 42).pick 6 rfl).pick 6 rfl).pick 6 rfl).pick 6 rfl).pick 6 rfl).pick 6 rfl)
            clear H
            have cP := fun {z : World} {l_ : List Th} (H : SepC w z (tlbT t M (T) :: hoT hp hb 16 (W) :: blkT m 85 (mmC t hp) :: l_)) => H.mAcc hW root asid page kind user
            have cQ := fun {z : World} {l_ : List Th} (H : SepC w z (rtlbT s M (T) :: rhoT rp rb 16 (W) :: blkT q 87 #[.pointer (some ⟨rp, 0, none⟩), .pointer (some ⟨s, 0, none⟩)] :: l_)) => H.rmAcc hW root asid page kind user
            generalize accH 16 W M T root asid (page % 512) kind user = T1 at *
            generalize accB 16 W T root asid (page % 512) kind user = bv at *
            generalize accV 16 W T root asid (page % 512) kind user = av at *
            have hW1 := hW
            go_wp2_with fail
            generalize wr.alloc (.cells #[.int .i64 what, .int .i64 root, .int .i64 asid, .int .i64 page, .int .i64 kind, .bool user, .int .i64 of_, .int .i64 oi, .int .u64 ov] 42) = z1 at *
            generalize wr.heap.size = gb at *
            refine (cP H1).mono ?_; rintro e z2 ⟨rfl, H2⟩
            clear H1 cP
            have bb := (H2.pick 6 rfl).blk
            have c0 := bb.cell 0; have c1 := bb.cell 1; have c2_ := bb.cell 2; have c3 := bb.cell 3; have c4 := bb.cell 4; have c5 := bb.cell 5; have c6 := bb.cell 6; have c7 := bb.cell 7; have c8 := bb.cell 8
            simp only [List.getElem?_toArray, List.getElem?_cons_zero, List.getElem?_cons_succ] at c0 c1 c2_ c3 c4 c5 c6 c7 c8
            go_wp2_with fail
            clear bb c0 c1 c2_ c3 c4 c5 c6 c7 c8
            refine (cQ (((H2.pick 5 rfl).pick 5 rfl).pick 5 rfl)).mono ?_; rintro e z3 ⟨rfl, H3'⟩
            have H3 := ((H3'.pick 5 rfl).pick 5 rfl).pick 5 rfl
            clear H2 cQ H3'
            have cW := fun {z : World} {l_ : List Th} (H : SepC w z (tlbT t M (T1) :: hoT hp hb 16 (W) :: blkT m 85 (mmC t hp) :: l_)) => H.mWalk hW1 root page
            have cV := fun {z : World} {l_ : List Th} (H : SepC w z (rtlbT s M (T1) :: rhoT rp rb 16 (W) :: blkT q 87 #[.pointer (some ⟨rp, 0, none⟩), .pointer (some ⟨s, 0, none⟩)] :: l_)) => H.rmWalk hW1 root page
            generalize walkF 16 (W) root page = f1 at *
            generalize walkR 16 (W) root page = r1 at *
            generalize (walkH 16 (W) root page).isSome = b1 at *
            obtain ⟨ra, rb_, rc⟩ := r1
            have hne := run_neR15 ⟨ra, rb_, rc⟩
            simp only [Rg.cs] at cW cV hne
            have bb := (H3.pick 6 rfl).blk
            have c0 := bb.cell 0; have c1 := bb.cell 1; have c2_ := bb.cell 2; have c3 := bb.cell 3; have c4 := bb.cell 4; have c5 := bb.cell 5; have c6 := bb.cell 6; have c7 := bb.cell 7; have c8 := bb.cell 8
            simp only [List.getElem?_toArray, List.getElem?_cons_zero, List.getElem?_cons_succ] at c0 c1 c2_ c3 c4 c5 c6 c7 c8
            go_wp2_with fail
            refine (cW H3).mono ?_; rintro e z4 ⟨rfl, y4⟩
            clear bb c0 c1 c2_ c3 c4 c5 c6 c7 c8
            have H4 := (H3.new y4).alloc #[.bool ra, .bool rb_, .bool rc] 47
            clear H3 y4 cW
            have bb := (H4.pick 7 rfl).blk
            have c0 := bb.cell 0; have c1 := bb.cell 1; have c2_ := bb.cell 2; have c3 := bb.cell 3; have c4 := bb.cell 4; have c5 := bb.cell 5; have c6 := bb.cell 6; have c7 := bb.cell 7; have c8 := bb.cell 8
            simp only [List.getElem?_toArray, List.getElem?_cons_zero, List.getElem?_cons_succ] at c0 c1 c2_ c3 c4 c5 c6 c7 c8
            go_wp2_with fail
            clear bb c0 c1 c2_ c3 c4 c5 c6 c7 c8
            generalize z4.alloc (.cells #[.bool ra, .bool rb_, .bool rc] 47) = z5 at *
            generalize z4.heap.size = gx at *
            refine (cV (((H4.pick 6 rfl).pick 6 rfl).pick 6 rfl)).mono ?_; rintro e z6 ⟨rfl, y6⟩
            have H6 := ((((H4.pick 6 rfl).pick 6 rfl).pick 6 rfl).new y6).alloc #[.bool ra, .bool rb_, .bool rc] 47
            clear H4 y6 cV
            have by_ := (H6.pick 0 rfl).blk; have bx_ := (H6.pick 4 rfl).blk
            have y0 := by_.cell 0; have y1 := by_.cell 1; have y2 := by_.cell 2; have x0 := bx_.cell 0; have x1 := bx_.cell 1; have x2 := bx_.cell 2
            simp only [List.getElem?_toArray, List.getElem?_cons_zero, List.getElem?_cons_succ] at y0 y1 y2 x0 x1 x2
            go_wp2_with fail
            clear by_ bx_ y0 y1 y2 x0 x1 x2 hne
            generalize z6.alloc (.cells #[.bool ra, .bool rb_, .bool rc] 47) = z7 at *
            generalize z6.heap.size = gy at *
            refine ((H6.pick 5 rfl).tList).mono ?_; rintro e z8 ⟨v8, rfl, H8⟩
            clear H6
            obtain ⟨A8, c8, rfl⟩ := H8.hitsForm
            go_wp2_with fail
            refine ((H8.pick 3 rfl).rtList).mono ?_; rintro e z9 ⟨v9, rfl, H9⟩
            clear H8
            obtain ⟨A9, c9, rfl⟩ := H9.hitsForm
            go_wp2_with fail
            have s9 := H9.hitsOwn.slh
            have s8 := (H9.pick 2 rfl).hitsOwn.slh
            have hSm := TSame_at A8 A9 _ _ c8 c9 T1 T1 _ s8 s9
            rw [eqHs_self] at hSm
            refine hSm.mono ?_; rintro e za ⟨rfl, ya⟩
            have HA := H9.new ya
            clear H9 ya s8 s9 hSm
            have HB : SepC w za (tlbT t M (T1) :: hoT hp hb 16 (W) :: blkT m 85 (mmC t hp) :: rtlbT s M (T1) :: rhoT rp rb 16 (W) :: blkT q 87 #[.pointer (some ⟨rp, 0, none⟩), .pointer (some ⟨s, 0, none⟩)] :: []) := ((((((((((((HA.tail).pick 1 rfl).tail).pick 2 rfl).tail.pick 4 rfl).tail.pick 6 rfl).tail).pick 3 rfl).pick 3 rfl).pick 2 rfl).pick 5 rfl).pick 5 rfl).pick 5 rfl
            clear HA
            go_wp2_with fail
            go_roundw
            case rel => exact ⟨k + 1, W, T1, by omega, by go_num, hW1, HB⟩
            case measure => simp [intOf]; omega
          · obtain rfl : k = n2 := by omega
            have hltz : ¬ (k : Int) < (k : Int) := by omega
            go_wp2_with fail
            go_ret
            exact ⟨rfl, H.1⟩
  · have hN := fun w' => TNew_no most w' (by omega)
    have hR := fun w' => RTNew_no most w' (by omega)
    go_enter Try.func3, Try.ntmps3
    go_wp2_with fail
    refine (hHd _).mono ?_; rintro e z1 ⟨rfl, y1⟩
    have H1 := H0.new y1
    clear H0 y1 hHd
    go_wp2_with fail
    refine (Made15_at A n c L _ (hl.self H1.1)).mono ?_; rintro e z2 ⟨hp, hb, rfl, y2, hm, hg1, hg2⟩
    have H2 := H1.lay (P := hoT hp hb 16 (madeH L)) (S := [hb, hp]) y2 ⟨rfl, hm⟩ (by intro i_ hi_; simp only [List.mem_cons, List.not_mem_nil, or_false] at hi_; rcases hi_ with rfl | rfl <;> assumption)
    clear hm hg1 hg2 H1 y2
    go_wp2_with fail
    refine (hN _).mono ?_; rintro e z3 ⟨rfl, rfl⟩
    go_wp2_with fail
    refine (hR _).mono ?_; rintro e z4 ⟨rfl, rfl⟩
    go_wp2_with fail
    go_ret
    exact ⟨rfl, H2.1⟩

end Go.Proofs.Ytfckedecpflldaa
