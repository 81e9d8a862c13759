/-
  MmuMeets: the law, walked from contracts.
-/
import Derived.Test.YtfckedecpflldaaMmuC
import Derived.Deep.CutRange
namespace Go.Proofs.Ytfckedecpflldaa
open Go.RowKit

set_option maxRecDepth 100000 in
set_option maxHeartbeats 20000000 in
/-- the rights of a walk are no more than what each entry permits -/
theorem lawMmuMeets_any (A : Option Addr) (n c : Nat) (L : List Pu) (root pg g i : Nat) (w : World) (hl : SlP w A n L) (hr : root ≤ 255) (hpg : pg ≤ 65535) (hg : g ≤ 255) (hi : i ≤ 255) :
    Calls Try.prog 8 #[.slice A n c, .int .u8 root, .int .u16 pg, .int .u8 g, .int .u8 i] w fun e w' => e = .returned (.bool true) ∧ Chg [] w w' := by
  obtain ⟨N, hN, hN5⟩ : ∃ N : Nat, pg % 512 = N ∧ N < 512 := ⟨_, rfl, by omega⟩
  have hNm : (N : Int) % 512 = (N : Int) := by omega
  have hWl := madeH_len L
  have hHd := fun w' => Mhead_any w'
  have hn9 := hl.le
  have hnn := hl.len
  replace hnn := Lib.hid hnn
  have hTn := fun {z : World} {l_ : List Th} (H : SepC w z l_) => H.tNew 8 (by omega) (by omega)
  have hW := madeH_wd hl.wf
  have H0 := SepC.nil w
  by_cases h600 : (600 : Int) < n
  · have hgt : decide ((n : Int) > 600) = true := by simpa using h600
    go_enter Try.func8, Try.ntmps8
    go_wp2_with fail
    refine (hHd _).mono ?_; rintro e z1 ⟨rfl, y1⟩
    have H1 := H0.new y1
    clear H0 y1 hHd
    go_wp2_with fail
    refine (Made15_at A n c L _ (hl.self H1.1)).mono ?_; rintro e z2 ⟨hp, hb, rfl, y2, hm, hg1, hg2⟩
    have H2 := H1.lay (P := hoT hp hb 16 (madeH L)) (S := [hb, hp]) y2 ⟨rfl, hm⟩ (by intro i_ hi_; simp only [List.mem_cons, List.not_mem_nil, or_false] at hi_; rcases hi_ with rfl | rfl <;> assumption)
    clear hm hg1 hg2 H1 y2
    go_wp2_with fail
    refine (hTn H2).mono ?_; rintro e z3 ⟨t, rfl, H3⟩
    clear hTn H2
    go_wp2_with fail
    go_ret
    exact ⟨rfl, H3.1⟩
  have hgt : decide ((n : Int) > 600) = false := by simpa using h600
  go_enter Try.func8, Try.ntmps8
  go_wp2_with fail
  refine (hHd _).mono ?_; rintro e z1 ⟨rfl, y1⟩
  have H1 := H0.new y1
  clear H0 y1 hHd
  go_wp2_with fail
  refine (Made15_at A n c L _ (hl.self H1.1)).mono ?_; rintro e z2 ⟨hp, hb, rfl, y2, hm, hg1, hg2⟩
  have H2 := H1.lay (P := hoT hp hb 16 (madeH L)) (S := [hb, hp]) y2 ⟨rfl, hm⟩ (by intro i_ hi_; simp only [List.mem_cons, List.not_mem_nil, or_false] at hi_; rcases hi_ with rfl | rfl <;> assumption)
  clear hm hg1 hg2 H1 y2
  go_wp2_with fail
  refine (hTn H2).mono ?_; rintro e z3 ⟨t, rfl, H3⟩
  clear hTn H2
  generalize madeH L = W at *
  go_wp2_with fail
  refine (H3.mNew hp t).mono ?_; rintro e z4 ⟨m, rfl, H4⟩
  clear H3
  replace H4 : SepC w z4 (tlbT t 8 ([]) :: hoT hp hb 16 (W) :: blkT m 85 (mmC t hp) :: []) := (H4.pick 2 rfl).pick 2 rfl
  obtain ⟨G, hG, hG5⟩ : ∃ G : Nat, g % 16 = G ∧ G < 16 := ⟨_, rfl, by omega⟩
  obtain ⟨I, hI, hI5⟩ : ∃ I : Nat, i % 8 = I ∧ I < 8 := ⟨_, rfl, by omega⟩
  have hGm : ((g : Nat) : Int) % 16 = (G : Int) := by omega
  have hIm : ((i : Nat) : Int) % 8 = (I : Int) := by omega
  clear hG hI
  have hrd := rd_more (n := 16) hWl (G : Int) (I : Int)
  obtain ⟨hV, hVl⟩ := hW.nat_ 16 (G : Int) (I : Int)
  have cG := fun {z : World} {l_ : List Th} (H : SepC w z (hoT hp hb 16 W :: l_)) => Get_at hp hb 16 W (G : Int) (I : Int) z H.hmem
  have hhas : hasW 16 (G : Int) (I : Int) = true := by unfold hasW; rw [decide_eq_true_eq]; omega
  rw [hhas] at cG
  generalize hgw : getW 16 W (G : Int) (I : Int) = gw at *
  clear hgw
  obtain ⟨V, rfl⟩ : ∃ V : Nat, gw = (V : Int) := ⟨_, hV.symm⟩
  rw [Int.toNat_natCast] at hrd hVl
  clear hV
  have hbt : bits .andNot .u64 (bits .or .u64 (V : Int) 6) 9223372036854775808 = ((moreN V : Nat) : Int) := by
    have h1 := u64_or_nat V 6 hVl (by decide)
    have h2 := u64_andNot_nat (V ||| 6) 9223372036854775808 (Nat.or_lt_two_pow (n := 64) hVl (by decide)) (by decide)
    have e6 : ((6 : Nat) : Int) = 6 := rfl
    have e63 : ((9223372036854775808 : Nat) : Int) = 9223372036854775808 := rfl
    rw [e6] at h1; rw [e63] at h2
    rw [h1, h2]; rfl
  have hWm : WdW (setW 16 W (G : Int) (I : Int) ((moreN V : Nat) : Int)) := hW.setW_ _ _ _ _ ⟨by omega, by have := more_lt (v := V); omega⟩
  have hSt := fun {z : World} {l_ : List Th} (H : SepC w z (hoT hp hb 16 W :: l_)) => H.hSet (G : Int) (I : Int) ((moreN V : Nat) : Int)
  have hwm := walk_more (root := (root : Int)) (page := (N : Int)) hrd
  clear hrd hVl
  have cW1 := fun {z : World} {l_ : List Th} (H : SepC w z (tlbT t 8 ([]) :: hoT hp hb 16 (W) :: blkT m 85 (mmC t hp) :: l_)) => H.mWalk hW root N
  have cW2 := fun {z : World} {l_ : List Th} (H : SepC w z (tlbT t 8 ([]) :: hoT hp hb 16 (setW 16 W (G : Int) (I : Int) ((moreN V : Nat) : Int)) :: blkT m 85 (mmC t hp) :: l_)) => H.mWalk hWm root N
  generalize hWN : setW 16 W (G : Int) (I : Int) ((moreN V : Nat) : Int) = WN at *
  clear hWN
  rcases hwm with ⟨w1, w2⟩ | ⟨f, ⟨ra, rb, rc⟩, ⟨sa, sb, sc⟩, w1, w2, hun⟩
  · obtain ⟨v1, v2, v3⟩ := walk_not w1
    obtain ⟨v4, v5, v6⟩ := walk_not w2
    simp only [v1, v2, v3, Rg.cs] at cW1
    simp only [v4, v5, v6, Rg.cs] at cW2
    have hUn := fun w' => RUnder_any ⟨false, false, false⟩ ⟨false, false, false⟩ w'
    rw [under_refl] at hUn
    simp only [Rg.cs] at hUn
    clear v1 v2 v3 v4 v5 v6 w1 w2
    go_wp2_with fail
    have hM2 : ((pg : Nat) : Int) % 512 = (N : Int) := by omega
    rw [hM2]
    clear hM2
    refine (cW1 H4).mono ?_; rintro e z5 ⟨rfl, y5⟩
    clear cW1
    have H5 := (H4.new y5).alloc #[.bool false, .bool false, .bool false] 47
    clear H4 y5
    go_wp2_with fail
    generalize z5.alloc (.cells #[.bool false, .bool false, .bool false] 47) = z6 at *
    generalize z5.heap.size = gr at *
    (try rw [hGm, hIm])
    refine (cG (H5.pick 2 rfl)).mono ?_; rintro e z7 ⟨rfl, rfl⟩
    clear cG
    go_wp2_with fail
    (try rw [hGm, hIm])
    refine (hSt (H5.pick 2 rfl)).mono ?_; rintro e z8 ⟨rfl, H8⟩
    clear hSt H5
    have H9 : SepC w z8 (tlbT t 8 ([]) :: hoT hp hb 16 (WN) :: blkT m 85 (mmC t hp) :: blkT gr 47 #[.bool false, .bool false, .bool false] :: []) := ((H8.pick 3 rfl).pick 1 rfl).pick 3 rfl
    clear H8
    go_wp2_with fail
    refine (cW2 H9).mono ?_; rintro e z10 ⟨rfl, y10⟩
    clear cW2
    have H10 := (H9.new y10).alloc #[.bool false, .bool false, .bool false] 47
    clear H9 y10
    go_upto_region 14 with fail
    generalize z10.alloc (.cells #[.bool false, .bool false, .bool false] 47) = z11 at *
    generalize z10.heap.size = gs at *
    have br := (H10.pick 4 rfl).blk
    have bs := H10.blk
    have r0 := br.cell 0; have r1 := br.cell 1; have r2 := br.cell 2; have s0 := bs.cell 0; have s1 := bs.cell 1; have s2 := bs.cell 2
    simp only [List.getElem?_toArray, List.getElem?_cons_zero, List.getElem?_cons_succ] at r0 r1 r2 s0 s1 s2
    go_wp2_with fail
    refine (hUn _).mono ?_; rintro e z12 ⟨rfl, y12⟩
    have H12 := H10.new y12
    go_wp2_with fail
    go_ret
    exact ⟨rfl, H12.1⟩
  · obtain ⟨v1, v2, v3⟩ := walk_is w1
    obtain ⟨v4, v5, v6⟩ := walk_is w2
    simp only [v1, v2, v3, Rg.cs] at cW1
    simp only [v4, v5, v6, Rg.cs] at cW2
    have hUn := fun w' => RUnder_any ⟨ra, rb, rc⟩ ⟨sa, sb, sc⟩ w'
    rw [hun] at hUn
    simp only [Rg.cs] at hUn
    clear v1 v2 v3 v4 v5 v6 w1 w2 hun
    go_wp2_with fail
    have hM2 : ((pg : Nat) : Int) % 512 = (N : Int) := by omega
    rw [hM2]
    clear hM2
    refine (cW1 H4).mono ?_; rintro e z5 ⟨rfl, y5⟩
    clear cW1
    have H5 := (H4.new y5).alloc #[.bool ra, .bool rb, .bool rc] 47
    clear H4 y5
    go_wp2_with fail
    generalize z5.alloc (.cells #[.bool ra, .bool rb, .bool rc] 47) = z6 at *
    generalize z5.heap.size = gr at *
    (try rw [hGm, hIm])
    refine (cG (H5.pick 2 rfl)).mono ?_; rintro e z7 ⟨rfl, rfl⟩
    clear cG
    go_wp2_with fail
    (try rw [hGm, hIm])
    refine (hSt (H5.pick 2 rfl)).mono ?_; rintro e z8 ⟨rfl, H8⟩
    clear hSt H5
    have H9 : SepC w z8 (tlbT t 8 ([]) :: hoT hp hb 16 (WN) :: blkT m 85 (mmC t hp) :: blkT gr 47 #[.bool ra, .bool rb, .bool rc] :: []) := ((H8.pick 3 rfl).pick 1 rfl).pick 3 rfl
    clear H8
    go_wp2_with fail
    refine (cW2 H9).mono ?_; rintro e z10 ⟨rfl, y10⟩
    clear cW2
    have H10 := (H9.new y10).alloc #[.bool sa, .bool sb, .bool sc] 47
    clear H9 y10
    go_upto_region 14 with fail
    generalize z10.alloc (.cells #[.bool sa, .bool sb, .bool sc] 47) = z11 at *
    generalize z10.heap.size = gs at *
    have br := (H10.pick 4 rfl).blk
    have bs := H10.blk
    have r0 := br.cell 0; have r1 := br.cell 1; have r2 := br.cell 2; have s0 := bs.cell 0; have s1 := bs.cell 1; have s2 := bs.cell 2
    simp only [List.getElem?_toArray, List.getElem?_cons_zero, List.getElem?_cons_succ] at r0 r1 r2 s0 s1 s2
    go_wp2_with fail
    refine (hUn _).mono ?_; rintro e z12 ⟨rfl, y12⟩
    have H12 := H10.new y12
    go_wp2_with fail
    go_ret
    exact ⟨rfl, H12.1⟩

theorem MmuMeets_walk (A0 : Option Addr) (n0 c0 : Nat) (L0 : List Pu) (root : Int) (pg : Int) (g : Int) (i : Int) (w : World) (h0 : SlP w A0 n0 L0) (hroot : 0 ≤ root ∧ root ≤ 255) (hpg : 0 ≤ pg ∧ pg ≤ 65535) (hg : 0 ≤ g ∧ g ≤ 255) (hi : 0 ≤ i ∧ i ≤ 255) :
    Calls Try.prog 8 #[.slice A0 n0 c0, .int .u8 root, .int .u16 pg, .int .u8 g, .int .u8 i] w fun e w' => e = .returned (.bool true) ∧ Chg [] w w' := by
  obtain ⟨kroot, rfl⟩ := Int.eq_ofNat_of_zero_le hroot.1
  obtain ⟨kpg, rfl⟩ := Int.eq_ofNat_of_zero_le hpg.1
  obtain ⟨kg, rfl⟩ := Int.eq_ofNat_of_zero_le hg.1
  obtain ⟨ki, rfl⟩ := Int.eq_ofNat_of_zero_le hi.1
  exact lawMmuMeets_any A0 n0 c0 L0 kroot kpg kg ki w h0 (by omega) (by omega) (by omega) (by omega)

end Go.Proofs.Ytfckedecpflldaa
