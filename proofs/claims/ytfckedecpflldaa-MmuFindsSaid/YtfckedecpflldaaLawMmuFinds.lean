/-
  MmuFinds: the law, walked from contracts.
-/
import Derived.Test.YtfckedecpflldaaMmuHead
import Derived.Deep.CutRange
namespace Go.Proofs.Ytfckedecpflldaa
open Go.RowKit

set_option maxRecDepth 100000 in
set_option maxHeartbeats 20000000 in
/-- what is found is what a walk tells; nothing is found twice -/
theorem lawMmuFinds_any (A : Option Addr) (n c : Nat) (L : List Pu) (root : Nat) (asid : Int) (pg : Nat) (w : World) (hl : SlP w A n L) (hr : root ≤ 255) (hpg : pg ≤ 65535) :
    Calls Try.prog 6 #[.slice A n c, .int .u8 root, .int .i64 asid, .int .u16 pg] w fun e w' => e = .returned (.bool true) ∧ Chg [] w w' := by
  obtain ⟨N, hN, hN5⟩ : ∃ N : Nat, pg % 512 = N ∧ N < 512 := ⟨_, rfl, by omega⟩
  have hNm : (N : Int) % 512 = (N : Int) := by omega
  have hHd := fun w' => Mhead_any w'
  have hn9 := hl.le
  have hnn := hl.len
  replace hnn := Lib.hid hnn
  have hTn := fun {z : World} {l_ : List Th} (H : SepC w z l_) => H.tNew 8 (by omega) (by omega)
  have hW := madeH_wd hl.wf
  have H0 := SepC.nil w
  by_cases h600 : (600 : Int) < n
  · have hgt : decide ((n : Int) > 600) = true := by simpa using h600
    go_enter Try.func6, Try.ntmps6
    go_wp2_with fail
    refine (hHd _).mono ?_; rintro e z1 ⟨rfl, y1⟩
    have H1 := H0.new y1
    clear H0 y1 hHd
    go_wp2_with fail
    refine (Made15_at A n c L _ (hl.self H1.1)).mono ?_; rintro e z2 ⟨hp, hb, rfl, y2, hm, hg1, hg2⟩
    have H2 := H1.lay (P := hoT hp hb 16 (madeH L)) (S := [hb, hp]) y2 ⟨rfl, hm⟩ (by intro i_ hi_; simp only [List.mem_cons, List.not_mem_nil, or_false] at hi_; rcases hi_ with rfl | rfl <;> assumption)
    clear hm hg1 hg2 H1 y2
    go_wp2_with fail
    refine (hTn H2).mono ?_; rintro e z3 ⟨t, rfl, H3⟩
    clear hTn H2
    go_wp2_with fail
    go_ret
    exact ⟨rfl, H3.1⟩
  have hgt : decide ((n : Int) > 600) = false := by simpa using h600
  go_enter Try.func6, Try.ntmps6
  go_wp2_with fail
  refine (hHd _).mono ?_; rintro e z1 ⟨rfl, y1⟩
  have H1 := H0.new y1
  clear H0 y1 hHd
  go_wp2_with fail
  refine (Made15_at A n c L _ (hl.self H1.1)).mono ?_; rintro e z2 ⟨hp, hb, rfl, y2, hm, hg1, hg2⟩
  have H2 := H1.lay (P := hoT hp hb 16 (madeH L)) (S := [hb, hp]) y2 ⟨rfl, hm⟩ (by intro i_ hi_; simp only [List.mem_cons, List.not_mem_nil, or_false] at hi_; rcases hi_ with rfl | rfl <;> assumption)
  clear hm hg1 hg2 H1 y2
  go_wp2_with fail
  refine (hTn H2).mono ?_; rintro e z3 ⟨t, rfl, H3⟩
  clear hTn H2
  generalize madeH L = W at *
  go_wp2_with fail
  refine (H3.mNew hp t).mono ?_; rintro e z4 ⟨m, rfl, H4⟩
  clear H3
  replace H4 : SepC w z4 (tlbT t 8 ([]) :: hoT hp hb 16 (W) :: blkT m 85 (mmC t hp) :: []) := (H4.pick 2 rfl).pick 2 rfl
  have cW := H4.mWalk hW root N
  have cF := H4.mFind hW root asid N
  rw [hNm] at cF
  cases hw : walkH 16 W root N with
  | none =>
    obtain ⟨v1, v2, v3⟩ := walk_not hw
    obtain ⟨p1, p2⟩ := find_none (most := 8) (hasT_nil asid (N : Int)) hw
    rw [v1, v2, v3] at cW
    simp only [Rg.cs] at cW
    have cF1 := fun {z : World} {l_ : List Th} (H : SepC w z (tlbT t 8 ([]) :: hoT hp hb 16 (W) :: blkT m 85 (mmC t hp) :: l_)) => H.mFind hW root asid N
    simp only [hNm, p1, p2] at cF1
    have cF2 := fun {z : World} {l_ : List Th} (H : SepC w z (tlbT t 8 ([]) :: hoT hp hb 16 (W) :: blkT m 85 (mmC t hp) :: l_)) => H.mFind hW root asid N
    simp only [hNm, p1, p2] at cF2
    have cG := fun {z : World} {l_ : List Th} (H : SepC w z (tlbT t 8 [] :: l_)) => H.tGet asid N
    have g1 : getT [] asid (N : Int) = Ht.zero := rfl
    simp only [g1, hasT_nil, Ht.v, Ht.zero] at cG
    clear v1 v2 v3 p1 p2 g1
    go_wp2_with fail
    have hM2 : ((pg : Nat) : Int) % 512 = (N : Int) := by omega
    rw [hM2]
    clear hM2
    refine cW.mono ?_; rintro e z5 ⟨rfl, y5⟩
    clear cW cF
    have H5 := (H4.new y5).alloc #[.bool false, .bool false, .bool false] 47
    clear H4 y5
    go_wp2_with fail
    generalize z5.alloc (.cells #[.bool false, .bool false, .bool false] 47) = z6 at *
    generalize z5.heap.size = gr at *
    replace H5 : SepC w z6 (tlbT t 8 ([]) :: hoT hp hb 16 (W) :: blkT m 85 (mmC t hp) :: blkT gr 47 #[.bool false, .bool false, .bool false] :: []) := ((H5.pick 3 rfl).pick 3 rfl).pick 3 rfl
    refine (cF1 H5).mono ?_; rintro e z7 ⟨rfl, H7⟩
    clear cF1 H5
    go_wp2_with fail
    refine (cG H7).mono ?_; rintro e z8 ⟨rfl, y8⟩
    clear cG
    have H8 := (H7.new y8).alloc #[.int .i64 0, .int .i64 0, .int .i64 0, .bool false, .bool false, .bool false, .bool false] 61
    clear H7 y8
    go_wp2_with fail
    generalize z8.alloc (.cells #[.int .i64 0, .int .i64 0, .int .i64 0, .bool false, .bool false, .bool false, .bool false] 61) = z9 at *
    generalize z8.heap.size = gh at *
    replace H8 : SepC w z9 (tlbT t 8 ([]) :: hoT hp hb 16 (W) :: blkT m 85 (mmC t hp) :: blkT gr 47 #[.bool false, .bool false, .bool false] :: blkT gh 61 #[.int .i64 0, .int .i64 0, .int .i64 0, .bool false, .bool false, .bool false, .bool false] :: []) := (((H8.pick 4 rfl).pick 4 rfl).pick 4 rfl).pick 4 rfl
    refine (cF2 H8).mono ?_; rintro e z10 ⟨rfl, H10⟩
    clear cF2 H8
    go_wp2_with fail
    go_ret
    exact ⟨rfl, H10.1⟩
  | some fr =>
    obtain ⟨f, ⟨rw_, ru, rx⟩⟩ := fr
    obtain ⟨v1, v2, v3⟩ := walk_is hw
    obtain ⟨p1, p2⟩ := find_yes (most := 8) (hasT_nil asid (N : Int)) hw
    rw [put_nil] at p2
    simp only [hitH] at p2
    rw [v1, v2, v3] at cW
    simp only [Rg.cs] at cW
    have hh : hasT [(⟨asid, (N : Int), f, rw_, ru, rx, false⟩ : Ht)] asid (N : Int) = true := by simp [hasT, Ht.isK]
    have gg : getT [(⟨asid, (N : Int), f, rw_, ru, rx, false⟩ : Ht)] asid (N : Int) = (⟨asid, (N : Int), f, rw_, ru, rx, false⟩ : Ht) := by simp [getT, Ht.isK]
    obtain ⟨p3, p4⟩ := find_is (n := 16) (W := W) (most := 8) (root := (root : Int)) hh
    have cF1 := fun {z : World} {l_ : List Th} (H : SepC w z (tlbT t 8 ([]) :: hoT hp hb 16 (W) :: blkT m 85 (mmC t hp) :: l_)) => H.mFind hW root asid N
    simp only [hNm, p1, p2] at cF1
    have cF2 := fun {z : World} {l_ : List Th} (H : SepC w z (tlbT t 8 ([(⟨asid, (N : Int), f, rw_, ru, rx, false⟩ : Ht)]) :: hoT hp hb 16 (W) :: blkT m 85 (mmC t hp) :: l_)) => H.mFind hW root asid N
    simp only [hNm, p3, p4] at cF2
    have cG := fun {z : World} {l_ : List Th} (H : SepC w z (tlbT t 8 [(⟨asid, (N : Int), f, rw_, ru, rx, false⟩ : Ht)] :: l_)) => H.tGet asid N
    simp only [hh, gg, Ht.v] at cG
    have hq := run_eqH (⟨asid, (N : Int), f, rw_, ru, rx, false⟩ : Ht) (⟨asid, (N : Int), f, rw_, ru, rx, false⟩ : Ht)
    simp only [Ht.eqb_self, Ht.v] at hq
    clear v1 v2 v3 p1 p2 p3 p4 hh gg
    go_wp2_with fail
    have hM2 : ((pg : Nat) : Int) % 512 = (N : Int) := by omega
    rw [hM2]
    clear hM2
    refine cW.mono ?_; rintro e z5 ⟨rfl, y5⟩
    clear cW cF
    have H5 := (H4.new y5).alloc #[.bool rw_, .bool ru, .bool rx] 47
    clear H4 y5
    go_wp2_with fail
    generalize z5.alloc (.cells #[.bool rw_, .bool ru, .bool rx] 47) = z6 at *
    generalize z5.heap.size = gr at *
    replace H5 : SepC w z6 (tlbT t 8 ([]) :: hoT hp hb 16 (W) :: blkT m 85 (mmC t hp) :: blkT gr 47 #[.bool rw_, .bool ru, .bool rx] :: []) := ((H5.pick 3 rfl).pick 3 rfl).pick 3 rfl
    refine (cF1 H5).mono ?_; rintro e z7 ⟨rfl, H7⟩
    clear cF1 H5
    go_wp2_with fail
    refine (cG H7).mono ?_; rintro e z8 ⟨rfl, y8⟩
    clear cG
    have H8 := (H7.new y8).alloc #[.int .i64 asid, .int .i64 N, .int .i64 f, .bool rw_, .bool ru, .bool rx, .bool false] 61
    clear H7 y8
    go_wp2_with fail
    generalize z8.alloc (.cells #[.int .i64 asid, .int .i64 N, .int .i64 f, .bool rw_, .bool ru, .bool rx, .bool false] 61) = z9 at *
    generalize z8.heap.size = gh at *
    replace H8 : SepC w z9 (tlbT t 8 ([(⟨asid, (N : Int), f, rw_, ru, rx, false⟩ : Ht)]) :: hoT hp hb 16 (W) :: blkT m 85 (mmC t hp) :: blkT gr 47 #[.bool rw_, .bool ru, .bool rx] :: blkT gh 61 #[.int .i64 asid, .int .i64 N, .int .i64 f, .bool rw_, .bool ru, .bool rx, .bool false] :: []) := (((H8.pick 4 rfl).pick 4 rfl).pick 4 rfl).pick 4 rfl
    refine (cF2 H8).mono ?_; rintro e z10 ⟨rfl, H10⟩
    clear cF2 H8
    have br := (H10.pick 3 rfl).blk
    have r0 := br.cell 0; have r1 := br.cell 1; have r2 := br.cell 2
    have bh := (H10.pick 4 rfl).blk
    have h0 := bh.cell 0
    have h1 := bh.cell 1
    have h2 := bh.cell 2
    have h3 := bh.cell 3
    have h4 := bh.cell 4
    have h5 := bh.cell 5
    have h6 := bh.cell 6
    simp only [List.getElem?_toArray, List.getElem?_cons_zero, List.getElem?_cons_succ] at r0 r1 r2 h0 h1 h2 h3 h4 h5 h6
    go_wp2_with fail
    go_ret
    exact ⟨rfl, H10.1⟩

theorem MmuFinds_walk (A0 : Option Addr) (n0 c0 : Nat) (L0 : List Pu) (root : Int) (asid : Int) (pg : Int) (w : World) (h0 : SlP w A0 n0 L0) (hroot : 0 ≤ root ∧ root ≤ 255) (hpg : 0 ≤ pg ∧ pg ≤ 65535) :
    Calls Try.prog 6 #[.slice A0 n0 c0, .int .u8 root, .int .i64 asid, .int .u16 pg] w fun e w' => e = .returned (.bool true) ∧ Chg [] w w' := by
  obtain ⟨kroot, rfl⟩ := Int.eq_ofNat_of_zero_le hroot.1
  obtain ⟨kpg, rfl⟩ := Int.eq_ofNat_of_zero_le hpg.1
  exact lawMmuFinds_any A0 n0 c0 L0 kroot asid kpg w h0 (by omega) (by omega)

end Go.Proofs.Ytfckedecpflldaa
