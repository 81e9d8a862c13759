/-
  MmuTables: the law, walked from contracts.
-/
import Derived.Test.YtfckedecpflldaaMmuC
import Derived.Deep.CutRange
namespace Go.Proofs.Ytfckedecpflldaa
open Go.RowKit

set_option maxRecDepth 100000 in
set_option maxHeartbeats 20000000 in
/-- a page that is found is known as a walk tells it; that changes no walk of a page beside it -/
theorem lawMmuTables_any (A : Option Addr) (n c : Nat) (L : List Pu) (root pg o : Nat) (w : World) (hl : SlP w A n L) (hr : root ≤ 255) (hpg : pg ≤ 65535) (ho : o ≤ 255) :
    Calls Try.prog 9 #[.slice A n c, .int .u8 root, .int .u16 pg, .int .u8 o] w fun e w' => e = .returned (.bool true) ∧ Chg [] w w' := by
  obtain ⟨N, hN, hN5⟩ : ∃ N : Nat, pg % 512 = N ∧ N < 512 := ⟨_, rfl, by omega⟩
  have hNm : (N : Int) % 512 = (N : Int) := by omega
  obtain ⟨K, hKe, hK5⟩ : ∃ K : Nat, N / 8 * 8 + o % 8 = K ∧ K < 512 := ⟨_, rfl, by omega⟩
  have hHd := fun w' => Mhead_any w'
  have hn9 := hl.le
  have hnn := hl.len
  replace hnn := Lib.hid hnn
  have hTn := fun {z : World} {l_ : List Th} (H : SepC w z l_) => H.tNew 8 (by omega) (by omega)
  have hW := madeH_wd hl.wf
  have H0 := SepC.nil w
  by_cases h600 : (600 : Int) < n
  · have hgt : decide ((n : Int) > 600) = true := by simpa using h600
    go_enter Try.func9, Try.ntmps9
    go_wp2_with fail
    refine (hHd _).mono ?_; rintro e z1 ⟨rfl, y1⟩
    have H1 := H0.new y1
    clear H0 y1 hHd
    go_wp2_with fail
    refine (Made15_at A n c L _ (hl.self H1.1)).mono ?_; rintro e z2 ⟨hp, hb, rfl, y2, hm, hg1, hg2⟩
    have H2 := H1.lay (P := hoT hp hb 16 (madeH L)) (S := [hb, hp]) y2 ⟨rfl, hm⟩ (by intro i_ hi_; simp only [List.mem_cons, List.not_mem_nil, or_false] at hi_; rcases hi_ with rfl | rfl <;> assumption)
    clear hm hg1 hg2 H1 y2
    go_wp2_with fail
    refine (hTn H2).mono ?_; rintro e z3 ⟨t, rfl, H3⟩
    clear hTn H2
    go_wp2_with fail
    go_ret
    exact ⟨rfl, H3.1⟩
  have hgt : decide ((n : Int) > 600) = false := by simpa using h600
  go_enter Try.func9, Try.ntmps9
  go_wp2_with fail
  refine (hHd _).mono ?_; rintro e z1 ⟨rfl, y1⟩
  have H1 := H0.new y1
  clear H0 y1 hHd
  go_wp2_with fail
  refine (Made15_at A n c L _ (hl.self H1.1)).mono ?_; rintro e z2 ⟨hp, hb, rfl, y2, hm, hg1, hg2⟩
  have H2 := H1.lay (P := hoT hp hb 16 (madeH L)) (S := [hb, hp]) y2 ⟨rfl, hm⟩ (by intro i_ hi_; simp only [List.mem_cons, List.not_mem_nil, or_false] at hi_; rcases hi_ with rfl | rfl <;> assumption)
  clear hm hg1 hg2 H1 y2
  go_wp2_with fail
  refine (hTn H2).mono ?_; rintro e z3 ⟨t, rfl, H3⟩
  clear hTn H2
  generalize madeH L = W at *
  go_wp2_with fail
  refine (H3.mNew hp t).mono ?_; rintro e z4 ⟨m, rfl, H4⟩
  clear H3
  replace H4 : SepC w z4 (tlbT t 8 ([]) :: hoT hp hb 16 (W) :: blkT m 85 (mmC t hp) :: []) := (H4.pick 2 rfl).pick 2 rfl
  cases hw : walkH 16 W root N with
  | none =>
    clear hKe
    obtain ⟨v1, v2, v3⟩ := walk_not hw
    have cW1 := fun {z : World} {l_ : List Th} (H : SepC w z (tlbT t 8 ([]) :: hoT hp hb 16 (W) :: blkT m 85 (mmC t hp) :: l_)) => H.mWalk hW root N
    simp only [v1, v2, v3, Rg.cs] at cW1
    clear v1 v2 v3
    go_wp2_with fail
    have hM2 : ((pg : Nat) : Int) % 512 = (N : Int) := by omega
    rw [hM2]
    clear hM2
    refine (cW1 H4).mono ?_; rintro e z5 ⟨rfl, y5⟩
    clear cW1
    have H5 := (H4.new y5).alloc #[.bool false, .bool false, .bool false] 47
    clear H4 y5
    go_wp2_with fail
    generalize z5.alloc (.cells #[.bool false, .bool false, .bool false] 47) = z6 at *
    generalize z5.heap.size = gr at *
    go_ret
    exact ⟨rfl, H5.1⟩
  | some fr =>
    obtain ⟨f, ⟨rw_, ru, rx⟩⟩ := fr
    obtain ⟨v1, v2, v3⟩ := walk_is hw
    obtain ⟨p1, p2⟩ := find_yes (most := 8) (hasT_nil 0 (N : Int)) hw
    rw [put_nil] at p2
    simp only [hitH] at p2
    have hh : hasT [(⟨0, (N : Int), f, rw_, ru, rx, false⟩ : Ht)] 0 (N : Int) = true := by simp [hasT, Ht.isK]
    have gg : getT [(⟨0, (N : Int), f, rw_, ru, rx, false⟩ : Ht)] 0 (N : Int) = (⟨0, (N : Int), f, rw_, ru, rx, false⟩ : Ht) := by simp [getT, Ht.isK]
    have cW1 := fun {z : World} {l_ : List Th} (H : SepC w z (tlbT t 8 ([]) :: hoT hp hb 16 (W) :: blkT m 85 (mmC t hp) :: l_)) => H.mWalk hW root N
    simp only [v1, v2, v3, Rg.cs] at cW1
    have cF1 := fun {z : World} {l_ : List Th} (H : SepC w z (tlbT t 8 ([]) :: hoT hp hb 16 (W) :: blkT m 85 (mmC t hp) :: l_)) => H.mFind hW root 0 N
    simp only [hNm, p1, p2] at cF1
    have cG := fun {z : World} {l_ : List Th} (H : SepC w z (tlbT t 8 [(⟨0, (N : Int), f, rw_, ru, rx, false⟩ : Ht)] :: l_)) => H.tGet 0 N
    simp only [hh, gg, Ht.v] at cG
    have hE : K = N → walkF 16 W root K = f ∧ (walkH 16 W root K).isSome = true := fun e => by subst e; exact ⟨v1, v3⟩
    have cW2 := fun {z : World} {l_ : List Th} (H : SepC w z (tlbT t 8 ([(⟨0, (N : Int), f, rw_, ru, rx, false⟩ : Ht)]) :: hoT hp hb 16 (W) :: blkT m 85 (mmC t hp) :: l_)) => H.mWalk hW root K
    generalize walkF 16 W root K = f2 at *
    generalize (walkH 16 W root K).isSome = b2 at *
    generalize walkR 16 W root K = r2 at *
    obtain ⟨r2a, r2b, r2c⟩ := r2
    simp only [Rg.cs] at cW2
    clear v1 v2 v3 p1 p2 hh gg hw
    have hKz : (N : Int) / 8 * 8 + ((o : Nat) : Int) % 8 = (K : Int) := by omega
    clear hKe
    go_wp2_with fail
    have hM2 : ((pg : Nat) : Int) % 512 = (N : Int) := by omega
    rw [hM2]
    clear hM2
    refine (cW1 H4).mono ?_; rintro e z5 ⟨rfl, y5⟩
    clear cW1
    have H5 := (H4.new y5).alloc #[.bool rw_, .bool ru, .bool rx] 47
    clear H4 y5
    go_wp2_with fail
    generalize z5.alloc (.cells #[.bool rw_, .bool ru, .bool rx] 47) = z6 at *
    generalize z5.heap.size = gr at *
    replace H5 : SepC w z6 (tlbT t 8 ([]) :: hoT hp hb 16 (W) :: blkT m 85 (mmC t hp) :: blkT gr 47 #[.bool rw_, .bool ru, .bool rx] :: []) := ((H5.pick 3 rfl).pick 3 rfl).pick 3 rfl
    refine (cF1 H5).mono ?_; rintro e z7 ⟨rfl, H7⟩
    clear cF1 H5
    go_wp2_with fail
    (try rw [hKz])
    refine (cW2 H7).mono ?_; rintro e z8 ⟨rfl, y8⟩
    have H8 := (H7.new y8).alloc #[.bool r2a, .bool r2b, .bool r2c] 47
    clear H7 y8
    go_wp2_with fail
    generalize z8.alloc (.cells #[.bool r2a, .bool r2b, .bool r2c] 47) = z9 at *
    generalize z8.heap.size = gt at *
    refine (cG (H8.pick 1 rfl)).mono ?_; rintro e z10 ⟨rfl, y10⟩
    clear cG
    have H10 := (H8.new y10).alloc #[.int .i64 0, .int .i64 N, .int .i64 f, .bool rw_, .bool ru, .bool rx, .bool false] 61
    clear H8 y10
    go_wp2_with fail
    generalize z10.alloc (.cells #[.int .i64 0, .int .i64 N, .int .i64 f, .bool rw_, .bool ru, .bool rx, .bool false] 61) = z11 at *
    generalize z10.heap.size = gh at *
    (try rw [hKz])
    replace H10 : SepC w z11 (tlbT t 8 ([(⟨0, (N : Int), f, rw_, ru, rx, false⟩ : Ht)]) :: hoT hp hb 16 (W) :: blkT m 85 (mmC t hp) :: blkT gh 61 #[.int .i64 0, .int .i64 N, .int .i64 f, .bool rw_, .bool ru, .bool rx, .bool false] :: blkT gt 47 #[.bool r2a, .bool r2b, .bool r2c] :: blkT gr 47 #[.bool rw_, .bool ru, .bool rx] :: []) := (((H10.pick 4 rfl).pick 4 rfl).pick 4 rfl)
    refine (cW2 H10).mono ?_; rintro e z12 ⟨rfl, y12⟩
    clear cW2
    have H12 := (H10.new y12).alloc #[.bool r2a, .bool r2b, .bool r2c] 47
    clear H10 y12
    have hEq := run_eqR ⟨rw_, ru, rx⟩ ⟨rw_, ru, rx⟩
    simp only [Rg.eqb_self, Rg.cs] at hEq
    have br := (H12.pick 6 rfl).blk
    have bh := (H12.pick 4 rfl).blk
    have r0 := br.cell 0; have r1 := br.cell 1; have r2 := br.cell 2
    have h0 := bh.cell 0
    have h1 := bh.cell 1
    have h2 := bh.cell 2
    have h3 := bh.cell 3
    have h4 := bh.cell 4
    have h5 := bh.cell 5
    have h6 := bh.cell 6
    simp only [List.getElem?_toArray, List.getElem?_cons_zero, List.getElem?_cons_succ] at r0 r1 r2 h0 h1 h2 h3 h4 h5 h6
    by_cases hkn : K = N
    · obtain ⟨rfl, rfl⟩ := hE hkn
      subst hkn
      clear hE
      go_wp2_with fail
      go_ret
      exact ⟨rfl, H12.1⟩
    · have hne : (K : Int) ≠ (N : Int) := by omega
      have hneb : ((K : Int) == (N : Int)) = false := by simpa using hne
      clear hE
      cases b2 <;> (go_wp2_with fail; go_ret; exact ⟨rfl, H12.1⟩)

theorem MmuTables_walk (A0 : Option Addr) (n0 c0 : Nat) (L0 : List Pu) (root : Int) (pg : Int) (o : Int) (w : World) (h0 : SlP w A0 n0 L0) (hroot : 0 ≤ root ∧ root ≤ 255) (hpg : 0 ≤ pg ∧ pg ≤ 65535) (ho : 0 ≤ o ∧ o ≤ 255) :
    Calls Try.prog 9 #[.slice A0 n0 c0, .int .u8 root, .int .u16 pg, .int .u8 o] w fun e w' => e = .returned (.bool true) ∧ Chg [] w w' := by
  obtain ⟨kroot, rfl⟩ := Int.eq_ofNat_of_zero_le hroot.1
  obtain ⟨kpg, rfl⟩ := Int.eq_ofNat_of_zero_le hpg.1
  obtain ⟨ko, rfl⟩ := Int.eq_ofNat_of_zero_le ho.1
  exact lawMmuTables_any A0 n0 c0 L0 kroot kpg ko w h0 (by omega) (by omega) (by omega)

end Go.Proofs.Ytfckedecpflldaa
