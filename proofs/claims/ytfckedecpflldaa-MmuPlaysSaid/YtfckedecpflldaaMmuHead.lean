/-
  The laws of mmu: a host of 16 frames, with words; the live question.
-/
import Derived.Test.YtfckedecpflldaaMmuB
import Derived.Test.YtfckedecpflldaaPuts
import Derived.StillTailTactics
import Derived.Deep.CutRange
namespace Go.Proofs.Ytfckedecpflldaa
open Go.RowKit

theorem SlP.lit3 {w : World} {g : Nat} {t : TypeId} (a b c : Pu) (hb : Blk w g t #[.int .i64 a.g, .int .i64 a.i, .int .u64 a.v, .int .i64 b.g, .int .i64 b.i, .int .u64 b.v, .int .i64 c.g, .int .i64 c.i, .int .u64 c.v]) (h : ∀ x ∈ [a, b, c], 0 ≤ x.v ∧ x.v < 18446744073709551616) : SlP w (some ⟨g, 0, none⟩) 3 [a, b, c] := by
  refine ⟨by decide, rfl, h, fun _ => ⟨g, 0, rfl, hb.lt, fun j x hj => ?_⟩⟩
  match j, hj with
  | 0, hj => cases hj; exact ⟨hb.cell 0, hb.cell 1, hb.cell 2⟩
  | 1, hj => cases hj; exact ⟨hb.cell 3, hb.cell 4, hb.cell 5⟩
  | 2, hj => cases hj; exact ⟨hb.cell 6, hb.cell 7, hb.cell 8⟩
set_option maxRecDepth 100000 in
set_option maxHeartbeats 2000000 in
theorem Made15_at (A : Option Addr) (n c : Nat) (l : List Pu) (w : World) (hs : SlP w A n l) :
    Calls Try.prog 11 #[.slice A n c] w fun e w' => ∃ hp hb, e = .returned (.pointer (some ⟨hp, 0, none⟩)) ∧ Chg [] w w' ∧ MemAt w' hp hb 16 (madeH l) ∧ w.heap.size ≤ hp ∧ w.heap.size ≤ hb := by
  have hN := fun w' => New_at 16 w' (by omega) (by omega)
  have hlen := hs.len
  have hle := hs.le
  replace hlen := Lib.hid hlen
  go_enter Try.func11, Try.ntmps11
  go_wp2_with fail
  refine (hN _).mono ?_; rintro e w1 ⟨hp, hb, rfl, y1, hm, g1, g2⟩
  clear hN
  have H0 : SepC w w1 (hoT hp hb 16 (setsW 16 (zeros (8 * 16)) (l.take 0)) :: []) := (SepC.nil w).lay (P := hoT hp hb 16 (zeros (8 * 16))) (S := [hb, hp]) y1 ⟨rfl, hm⟩ (by intro i_ hi_; simp only [List.mem_cons, List.not_mem_nil, or_false] at hi_; rcases hi_ with rfl | rfl <;> assumption)
  clear hm y1
  go_wp2_with fail
  go_loopw [4] (fun s4 wr => ∃ k : Nat, k ≤ n ∧ s4 = .int .i64 k ∧ SepC w wr (hoT hp hb 16 (setsW 16 (zeros (8 * 16)) (l.take k)) :: [])) (fun s4 _ => n - (intOf s4).toNat)
  case atStart => exact ⟨0, Nat.zero_le _, rfl, H0⟩
  case round =>
    obtain ⟨k, hk, rfl, H⟩ := hrel
    clear H0
    by_cases hlt : k < n
    · have hltz : (k : Int) < (n : Int) := by omega
      obtain ⟨b, off, x, rfl, _, hx, c0, c1, c2⟩ := (hs.self H.1).get hlt
      have hset := (H.new (Chg.refl [] wr).drew).hSet x.g x.i x.v
      rw [← sets_snoc hx] at hset
      clear H
      go_upto_region 7 with fail
      refine wp_region_still_tail 16 (by kernel_rfl) (by kernel_rfl) ?_
      simp only [List.take_succ_cons, List.take_zero, List.drop_succ_cons, List.drop_zero]
      change wpStill _ _ (World.drew _) _ _ _
      iterate 16 still_step
      refine wpStill_nil ?_
      change wpList _ _ _ _ _ (World.drew wr)
      go_wp2_with fail
      refine hset.mono ?_; rintro e w3 ⟨rfl, H3⟩
      clear hset c0 c1 c2
      go_wp2_with fail
      go_roundw
      case rel => exact ⟨k + 1, by omega, by go_num, H3⟩
      case measure => simp [intOf]; omega
    · obtain rfl : k = n := by omega
      have hltz : ¬ (k : Int) < (k : Int) := by omega
      rw [List.take_of_length_le (Nat.le_of_eq hlen.out)] at H
      have hg : ∀ i ∈ [hb, hp], w.heap.size ≤ i := fun i hi => by
        obtain ⟨S_, ⟨e_, _⟩, h_⟩ := H.fst
        exact h_ i (by rw [e_]; exact hi)
      go_wp2_with fail
      go_ret
      (first | exact ⟨hp, hb, rfl, H.1, H.hmem, hg hp (by simp), hg hb (by simp)⟩ | exact ⟨hp, rfl, H.1, hb, H.hmem, hg hp (by simp), hg hb (by simp)⟩)

def mhL : List Pu := [⟨1, 0, 8199⟩, ⟨2, 1, 12293⟩, ⟨3, 5, 36867⟩]
def mhW : List Int := madeH mhL
def mhT1 : List Ht := accH 16 mhW 4 [] 1 2 13 0 false
def mhT2 : List Ht := accH 16 mhW 4 mhT1 1 2 13 0 true
def mhT3 : List Ht := findH 16 mhW 4 mhT2 1 2 13
def mhT4 : List Ht := findH 16 mhW 4 mhT3 1 2 13
def mhW5 : List Int := setW 16 mhW 3 5 0
def mhT6 : List Ht := accH 16 mhW5 4 mhT4 1 2 13 2 false
def mhT7 : List Ht := accH 16 mhW5 4 mhT6 1 3 13 0 false
set_option maxRecDepth 100000 in
set_option maxHeartbeats 8000000 in
theorem Mhead_any (w : World) : Calls Try.prog 10 #[] w fun e w' => e = .returned (.bool true) ∧ Chg [] w w' := by
  have hWd : WdW mhW := madeH_wd (by decide)
  have hWd5 : WdW mhW5 := hWd.setW_ _ _ _ _ (by decide)
  have f13 : (13 : Int) % 512 = 13 := rfl
  have v1 : walkF 16 mhW 1 13 = 9 := by kernel_rfl
  have v2 : walkR 16 mhW 1 13 = ⟨false, false, true⟩ := by kernel_rfl
  have v3 : (walkH 16 mhW 1 13).isSome = true := by kernel_rfl
  have v4 : (walkH 16 mhW 1 14).isSome = false := by kernel_rfl
  have v5 : walkF 16 mhW 1 14 = 0 := by kernel_rfl
  have v6 : walkR 16 mhW 1 14 = ⟨false, false, false⟩ := by kernel_rfl
  have a1 : accV 16 mhW [] 1 2 (13 % 512) 0 false = 9 := by kernel_rfl
  have a2 : accB 16 mhW [] 1 2 (13 % 512) 0 false = true := by kernel_rfl
  have b1 : accV 16 mhW mhT1 1 2 (13 % 512) 0 true = 0 := by kernel_rfl
  have b2 : accB 16 mhW mhT1 1 2 (13 % 512) 0 true = false := by kernel_rfl
  have n1 : mhT2.length = 0 := by kernel_rfl
  have f1 : findHB 16 mhW mhT2 1 2 (13 % 512) = true := by kernel_rfl
  have f2 : findHB 16 mhW mhT3 1 2 (13 % 512) = false := by kernel_rfl
  have d1 : accV 16 mhW5 mhT4 1 2 (13 % 512) 2 false = 9 := by kernel_rfl
  have d2 : accB 16 mhW5 mhT4 1 2 (13 % 512) 2 false = true := by kernel_rfl
  have g1 : accV 16 mhW5 mhT6 1 3 (13 % 512) 0 false = 0 := by kernel_rfl
  have g2 : accB 16 mhW5 mhT6 1 3 (13 % 512) 0 false = false := by kernel_rfl
  have cW1 := fun {z : World} {l_ : List Th} {t hp hb m : Nat} (H : SepC w z (tlbT t 4 [] :: hoT hp hb 16 mhW :: blkT m 85 (mmC t hp) :: l_)) => H.mWalk hWd 1 13
  simp only [v1, v2, v3, Rg.cs] at cW1
  have cW2 := fun {z : World} {l_ : List Th} {t hp hb m : Nat} (H : SepC w z (tlbT t 4 [] :: hoT hp hb 16 mhW :: blkT m 85 (mmC t hp) :: l_)) => H.mWalk hWd 1 14
  simp only [v4, v5, v6, Rg.cs] at cW2
  have cA1 := fun {z : World} {l_ : List Th} {t hp hb m : Nat} (H : SepC w z (tlbT t 4 [] :: hoT hp hb 16 mhW :: blkT m 85 (mmC t hp) :: l_)) => H.mAcc hWd 1 2 13 0 false
  rw [a1, a2] at cA1
  have cA2 := fun {z : World} {l_ : List Th} {t hp hb m : Nat} (H : SepC w z (tlbT t 4 mhT1 :: hoT hp hb 16 mhW :: blkT m 85 (mmC t hp) :: l_)) => H.mAcc hWd 1 2 13 0 true
  rw [b1, b2] at cA2
  have cN := fun {z : World} {l_ : List Th} {t : Nat} (H : SepC w z (tlbT t 4 mhT2 :: l_)) => H.tMany
  rw [n1] at cN
  have cF1 := fun {z : World} {l_ : List Th} {t hp hb m : Nat} (H : SepC w z (tlbT t 4 mhT2 :: hoT hp hb 16 mhW :: blkT m 85 (mmC t hp) :: l_)) => H.mFind hWd 1 2 13
  rw [f1] at cF1
  have cF2 := fun {z : World} {l_ : List Th} {t hp hb m : Nat} (H : SepC w z (tlbT t 4 mhT3 :: hoT hp hb 16 mhW :: blkT m 85 (mmC t hp) :: l_)) => H.mFind hWd 1 2 13
  rw [f2] at cF2
  have cA3 := fun {z : World} {l_ : List Th} {t hp hb m : Nat} (H : SepC w z (tlbT t 4 mhT4 :: hoT hp hb 16 mhW5 :: blkT m 85 (mmC t hp) :: l_)) => H.mAcc hWd5 1 2 13 2 false
  rw [d1, d2] at cA3
  have cA4 := fun {z : World} {l_ : List Th} {t hp hb m : Nat} (H : SepC w z (tlbT t 4 mhT6 :: hoT hp hb 16 mhW5 :: blkT m 85 (mmC t hp) :: l_)) => H.mAcc hWd5 1 3 13 0 false
  rw [g1, g2] at cA4
  have hMd := fun (g : Nat) w' (hb : Blk w' g 36 #[.int .i64 1, .int .i64 0, .int .u64 8199, .int .i64 2, .int .i64 1, .int .u64 12293, .int .i64 3, .int .i64 5, .int .u64 36867]) => Made15_at (some ⟨g, 0, none⟩) 3 3 mhL w' (SlP.lit3 _ _ _ hb (by decide))
  have hTn := fun {z : World} {l_ : List Th} (H : SepC w z l_) => H.tNew 4 (by omega) (by omega)
  have hEq := run_eqR ⟨false, false, true⟩ ⟨false, false, true⟩
  simp only [Rg.eqb_self, Rg.cs] at hEq
  clear v1 v2 v3 v4 v5 v6 a1 a2 b1 b2 n1 f1 f2 d1 d2 g1 g2
  have y0 := (Chg.refl [] w).alloc (.cells #[.int .i64 1, .int .i64 0, .int .u64 8199, .int .i64 2, .int .i64 1, .int .u64 12293, .int .i64 3, .int .i64 5, .int .u64 36867] 36)
  have b0 := Blk.new w 36 #[.int .i64 1, .int .i64 0, .int .u64 8199, .int .i64 2, .int .i64 1, .int .u64 12293, .int .i64 3, .int .i64 5, .int .u64 36867]
  go_enter Try.func10, Try.ntmps10
  go_wp2_with fail
  refine (hMd _ _ b0).mono ?_; rintro e z1 ⟨hp, hb, rfl, y1, hm, h1, h2⟩
  have H1 : SepC w z1 (hoT hp hb 16 mhW :: []) := ((SepC.nil w).new y0).lay (P := hoT hp hb 16 mhW) (S := [hb, hp]) y1 ⟨rfl, hm⟩ (by intro i_ hi_; simp only [List.mem_cons, List.not_mem_nil, or_false] at hi_; rcases hi_ with rfl | rfl <;> assumption)
  clear hMd y0 b0 y1 hm h1 h2
  go_wp2_with fail
  refine (hTn H1).mono ?_; rintro e z2 ⟨t, rfl, H2⟩
  clear hTn H1
  go_wp2_with fail
  refine (H2.mNew hp t).mono ?_; rintro e z3 ⟨m, rfl, H3⟩
  clear H2
  replace H3 : SepC w z3 (tlbT t 4 [] :: hoT hp hb 16 mhW :: blkT m 85 (mmC t hp) :: []) := (H3.pick 2 rfl).pick 2 rfl
  go_wp2_with fail
  refine (cW1 H3).mono ?_; rintro e z4 ⟨rfl, y4⟩
  clear cW1
  have H4 := (H3.new y4).alloc #[.bool false, .bool false, .bool true] 47
  clear H3 y4
  go_wp2_with fail
  generalize z4.alloc (.cells #[.bool false, .bool false, .bool true] 47) = z5 at *
  generalize z4.heap.size = gr at *
  replace H4 : SepC w z5 (tlbT t 4 [] :: hoT hp hb 16 mhW :: blkT m 85 (mmC t hp) :: blkT gr 47 #[.bool false, .bool false, .bool true] :: []) := ((H4.pick 3 rfl).pick 3 rfl).pick 3 rfl
  refine (cW2 H4).mono ?_; rintro e z6 ⟨rfl, y6⟩
  clear cW2
  have H5 := ((H4.new y6).alloc #[.bool false, .bool false, .bool false] 47).tail
  clear H4 y6
  go_wp2_with fail
  generalize z6.alloc (.cells #[.bool false, .bool false, .bool false] 47) = z7 at *
  generalize z6.heap.size = gq at *
  refine (cA1 H5).mono ?_; rintro e z8 ⟨rfl, H8⟩
  clear cA1 H5
  change SepC w z8 (tlbT t 4 mhT1 :: hoT hp hb 16 mhW :: blkT m 85 (mmC t hp) :: blkT gr 47 #[.bool false, .bool false, .bool true] :: []) at H8
  go_wp2_with fail
  refine (cA2 H8).mono ?_; rintro e z9 ⟨rfl, H9⟩
  clear cA2 H8
  change SepC w z9 (tlbT t 4 mhT2 :: hoT hp hb 16 mhW :: blkT m 85 (mmC t hp) :: blkT gr 47 #[.bool false, .bool false, .bool true] :: []) at H9
  go_wp2_with fail
  refine (cN H9).mono ?_; rintro e z10 ⟨rfl, y10⟩
  replace H9 := H9.new y10
  clear cN y10
  go_wp2_with fail
  refine (cF1 H9).mono ?_; rintro e z11 ⟨rfl, H11⟩
  clear cF1 H9
  change SepC w z11 (tlbT t 4 mhT3 :: hoT hp hb 16 mhW :: blkT m 85 (mmC t hp) :: blkT gr 47 #[.bool false, .bool false, .bool true] :: []) at H11
  go_wp2_with fail
  refine (cF2 H11).mono ?_; rintro e z12 ⟨rfl, H12⟩
  clear cF2 H11
  change SepC w z12 (tlbT t 4 mhT4 :: hoT hp hb 16 mhW :: blkT m 85 (mmC t hp) :: blkT gr 47 #[.bool false, .bool false, .bool true] :: []) at H12
  go_wp2_with fail
  refine (((H12.pick 1 rfl).hSet 3 5 0)).mono ?_; rintro e z13 ⟨rfl, H13⟩
  clear H12
  replace H13 : SepC w z13 (tlbT t 4 mhT4 :: hoT hp hb 16 mhW5 :: blkT m 85 (mmC t hp) :: blkT gr 47 #[.bool false, .bool false, .bool true] :: []) := H13.swap
  go_wp2_with fail
  refine (cA3 H13).mono ?_; rintro e z14 ⟨rfl, H14⟩
  clear cA3 H13
  change SepC w z14 (tlbT t 4 mhT6 :: hoT hp hb 16 mhW5 :: blkT m 85 (mmC t hp) :: blkT gr 47 #[.bool false, .bool false, .bool true] :: []) at H14
  go_wp2_with fail
  refine (cA4 H14).mono ?_; rintro e z15 ⟨rfl, H15⟩
  clear cA4 H14
  have br := (H15.pick 3 rfl).blk
  have x0 := br.cell 0; have x1 := br.cell 1; have x2 := br.cell 2
  simp only [List.getElem?_toArray, List.getElem?_cons_zero, List.getElem?_cons_succ] at x0 x1 x2
  go_wp2_with fail
  go_ret
  exact ⟨rfl, H15.1⟩

end Go.Proofs.Ytfckedecpflldaa
