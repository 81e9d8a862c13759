/-
  The live question 'head' of the laws of tlb.
-/
import Derived.Test.YtikdoldmhlbklaaTlbK
namespace Go.Proofs.Ytikdoldmhlbklaa
open Go.RowKit Go.Shelf

section
variable {w0 : World} {F : List Nat} {p most : Nat} {L : List Ht} {w : World}
theorem TPut_c (a pg f : Int) (tw tu tx td : Bool) (M : List Ht) (hM : putT most L ⟨a, pg, f, tw, tu, tx, td⟩ = M) (h : TB w0 F w p most L) :
    Calls Try.prog 21 #[.pointer (some ⟨p, 0, none⟩), .agg #[.int .i64 a, .int .i64 pg, .int .i64 f, .bool tw, .bool tu, .bool tx, .bool td]] w fun e w' => e = .returned (.tuple #[]) ∧ TB w0 F w' p most M ∧ Far F w w' := hM ▸ TPut_b ⟨a, pg, f, tw, tu, tx, td⟩ h
end
theorem SlH.two {w : World} {g : Nat} {x y : Ht} (h : Blk w g 31 (encH [x, y]).toArray) : SlH w (some ⟨g, 0, none⟩) 2 [x, y] := by
  have hr : RowH w g [x, y] [] := by unfold RowH; rw [List.append_nil]; exact h
  exact (hr.own_all 2 (by simp) (by decide)).slh

def hA : Ht := ⟨1, 5, 7, false, false, false, false⟩
def hB : Ht := ⟨2, 5, 8, false, false, false, false⟩
def hC : Ht := ⟨1, 6, 9, false, false, false, false⟩

set_option maxRecDepth 100000 in
set_option maxHeartbeats 4000000 in
theorem Thead_any (w0 : World) : Calls Try.prog 10 #[] w0 fun e w' => e = .returned (.bool true) ∧ Chg [] w0 w' := by
  have p1 : putT 2 [] hA = [hA] := by decide
  have p2 : putT 2 [hA] hB = [hA, hB] := by decide
  have p3 : putT 2 [hA, hB] hC = [hB, hC] := by decide
  have p4 : putT 2 [hB, hC] hB = [hC, hB] := by decide
  have p5 : pickT [hC, hB] (-1) = [hC] := by decide
  have p6 : flushT [hC] 1 = [] := by decide
  have g1 : getT [hB, hC] 1 5 = Ht.zero := by decide
  have g2 : hasT [hB, hC] 1 5 = false := by decide
  have g3 : getT [hB, hC] 2 5 = hB := by decide
  have g4 : hasT [hB, hC] 2 5 = true := by decide
  have g5 : hasT [] 1 6 = false := by decide
  have P1 := Lib.hid p1; have P2 := Lib.hid p2; have P3 := Lib.hid p3; have P4 := Lib.hid p4; have P5 := Lib.hid p5; have P6 := Lib.hid p6
  have G1 := Lib.hid g1; have G2 := Lib.hid g2; have G3 := Lib.hid g3; have G4 := Lib.hid g4; have G5 := Lib.hid g5
  clear p1 p2 p3 p4 p5 p6 g1 g2 g3 g4 g5
  have hq := fun w => run_eqH hB hB w
  simp only [Ht.v, hB, Ht.eqb_self] at hq
  go_enter Try.func10, Try.ntmps10
  go_wp2_with fail
  refine (TNew_b w0 2 _ (by decide) (by decide) (Chg.refl _ _)).mono ?_; rintro e w1 ⟨rfl, h1, _⟩
  generalize w0.heap.size = p at h1
  go_wp2_with fail
  refine (TNew_no 0 _ (by decide)).mono ?_; rintro e w' ⟨rfl, rfl⟩
  go_wp2_with fail
  refine (TNew_no 513 _ (by decide)).mono ?_; rintro e w' ⟨rfl, rfl⟩
  go_wp2_with fail
  have hcA : Chg [] w1 (((w1.alloc (.cells #[.int .i64 1, .int .i64 5, .int .i64 7, .bool false, .bool false, .bool false, .bool false] 31)).alloc (.cells #[.int .i64 2, .int .i64 5, .int .i64 8, .bool false, .bool false, .bool false, .bool false] 31)).alloc (.cells #[.int .i64 1, .int .i64 6, .int .i64 9, .bool false, .bool false, .bool false, .bool false] 31)) := (((Chg.refl [] w1).alloc _).alloc _).alloc _
  have kB : BlkH (((w1.alloc (.cells #[.int .i64 1, .int .i64 5, .int .i64 7, .bool false, .bool false, .bool false, .bool false] 31)).alloc (.cells #[.int .i64 2, .int .i64 5, .int .i64 8, .bool false, .bool false, .bool false, .bool false] 31)).alloc (.cells #[.int .i64 1, .int .i64 6, .int .i64 9, .bool false, .bool false, .bool false, .bool false] 31)) (w1.heap.size + 1) hB := by
    have := BlkH.new (w1.alloc (.cells #[.int .i64 1, .int .i64 5, .int .i64 7, .bool false, .bool false, .bool false, .bool false] 31)) hB
    rw [World.size_alloc] at this
    exact this.chg ((Chg.refl [] _).alloc _) (by simp)
  have kC : BlkH (((w1.alloc (.cells #[.int .i64 1, .int .i64 5, .int .i64 7, .bool false, .bool false, .bool false, .bool false] 31)).alloc (.cells #[.int .i64 2, .int .i64 5, .int .i64 8, .bool false, .bool false, .bool false, .bool false] 31)).alloc (.cells #[.int .i64 1, .int .i64 6, .int .i64 9, .bool false, .bool false, .bool false, .bool false] 31)) (w1.heap.size + 1 + 1) hC := by
    have := BlkH.new ((w1.alloc (.cells #[.int .i64 1, .int .i64 5, .int .i64 7, .bool false, .bool false, .bool false, .bool false] 31)).alloc (.cells #[.int .i64 2, .int .i64 5, .int .i64 8, .bool false, .bool false, .bool false, .bool false] 31)) hC
    rw [World.size_alloc, World.size_alloc] at this
    exact this
  have h2 := h1.more (G := [w1.heap.size + 1, w1.heap.size + 1 + 1]) hcA (by intro i hi; simp at hi; rcases hi with rfl | rfl <;> simp <;> omega)
  clear h1 hcA
  simp only [List.append_nil] at h2
  generalize hw2 : ((w1.alloc (.cells #[.int .i64 1, .int .i64 5, .int .i64 7, .bool false, .bool false, .bool false, .bool false] 31)).alloc (.cells #[.int .i64 2, .int .i64 5, .int .i64 8, .bool false, .bool false, .bool false, .bool false] 31)).alloc (.cells #[.int .i64 1, .int .i64 6, .int .i64 9, .bool false, .bool false, .bool false, .bool false] 31) = w2 at *
  clear hw2
  obtain ⟨bB, hbB⟩ : ∃ b, b = w1.heap.size + 1 := ⟨_, rfl⟩
  obtain ⟨bC, hbC⟩ : ∃ b, b = w1.heap.size + 1 + 1 := ⟨_, rfl⟩
  refine (TPut_c 1 5 7 false false false false [hA] P1.out h2).mono ?_; rintro e w3 ⟨rfl, h3, hf3⟩
  have kB3 := hf3.blkH kB (by simp); have kC3 := hf3.blkH kC (by simp)
  clear kB kC h2 hf3
  obtain ⟨b0, b1, b2, b3, b4, b5, b6⟩ := kB3.cells
  simp only [hB] at b0 b1 b2 b3 b4 b5 b6
  go_wp2_with fail
  refine (TPut_c 2 5 8 false false false false [hA, hB] P2.out h3).mono ?_; rintro e w4 ⟨rfl, h4, hf4⟩
  have kB4 := hf4.blkH kB3 (by simp); have kC4 := hf4.blkH kC3 (by simp)
  clear kB3 kC3 h3 hf4 b0 b1 b2 b3 b4 b5 b6
  obtain ⟨b0, b1, b2, b3, b4, b5, b6⟩ := kC4.cells
  simp only [hC] at b0 b1 b2 b3 b4 b5 b6
  go_wp2_with fail
  refine (TPut_c 1 6 9 false false false false [hB, hC] P3.out h4).mono ?_; rintro e w5 ⟨rfl, h5, hf5⟩
  have kB5 := hf5.blkH kB4 (by simp); have kC5 := hf5.blkH kC4 (by simp)
  clear kB4 kC4 h4 hf5 b0 b1 b2 b3 b4 b5 b6
  go_wp2_with fail
  have hg := TGet_b 1 5 h5
  rw [G1.out, G2.out] at hg
  refine hg.mono ?_; rintro e w6 ⟨rfl, h6, hc6⟩
  have kB6 := kB5.chg hc6 (by simp); have kC6 := kC5.chg hc6 (by simp)
  clear hg h5 kB5 kC5 hc6
  simp only [Ht.v, Ht.zero]
  go_wp2_with fail
  have h6' := h6.new ((Chg.refl [] w6).alloc (.cells #[.int .i64 0, .int .i64 0, .int .i64 0, .bool false, .bool false, .bool false, .bool false] 31))
  have hg := TGet_b 2 5 h6'
  rw [G3.out, G4.out] at hg
  simp only [Ht.v, hB] at hg
  have kB6' := kB6.chg ((Chg.refl [] w6).alloc (.cells #[.int .i64 0, .int .i64 0, .int .i64 0, .bool false, .bool false, .bool false, .bool false] 31)) (by simp); have kC6' := kC6.chg ((Chg.refl [] w6).alloc (.cells #[.int .i64 0, .int .i64 0, .int .i64 0, .bool false, .bool false, .bool false, .bool false] 31)) (by simp)
  clear h6 kB6 kC6
  generalize w6.alloc (.cells #[.int .i64 0, .int .i64 0, .int .i64 0, .bool false, .bool false, .bool false, .bool false] 31) = w6' at *
  refine hg.mono ?_; rintro e w7 ⟨rfl, h7, hc7⟩
  have kB7 := kB6'.chg hc7 (by simp); have kC7 := kC6'.chg hc7 (by simp)
  clear hg h6' kB6' kC6' hc7
  go_wp2_with fail
  have hcx := (Chg.refl [] w7).alloc (.cells #[.int .i64 2, .int .i64 5, .int .i64 8, .bool false, .bool false, .bool false, .bool false] 31)
  have kX7 := BlkH.new w7 hB
  have h7x := h7.more (G := [w7.heap.size]) hcx (by intro i hi; simp at hi; subst hi; simp)
  have kB7x := kB7.chg hcx (by simp); have kC7x := kC7.chg hcx (by simp)
  clear kB7 kC7 h7 hcx
  simp only [hB] at kX7
  generalize hbX : w7.heap.size = bX at *
  generalize w7.alloc (.cells #[.int .i64 2, .int .i64 5, .int .i64 8, .bool false, .bool false, .bool false, .bool false] 31) = w7x at *
  refine (TList_b h7x).mono ?_; rintro e w8 ⟨A, c, G, rfl, h8, hc8, ho8, hG8, _⟩
  have kX8 := BlkH.chg (h := hB) kX7 hc8 (by simp); have kB8 := kB7x.chg hc8 (by simp); have kC8 := kC7x.chg hc8 (by simp)
  have hl8 := ho8.slh
  clear h7x kX7 kB7x kC7x hc8 ho8
  obtain ⟨b0, b1, b2, b3, b4, b5, b6⟩ := kB8.cells
  simp only [hB] at b0 b1 b2 b3 b4 b5 b6
  go_wp2_with fail
  refine (TPut_c 2 5 8 false false false false [hC, hB] P4.out h8).mono ?_; rintro e w9 ⟨rfl, h9, hf9⟩
  have kX9 := hf9.blkH kX8 (by simp); have kB9 := hf9.blkH kB8 (by simp); have kC9 := hf9.blkH kC8 (by simp)
  have hl9 := hf9.slh hl8 (fun b off e => by simp [hG8 b off e])
  clear h8 kX8 kB8 kC8 hl8 hf9 b0 b1 b2 b3 b4 b5 b6
  go_wp2_with fail
  refine (TList_b h9).mono ?_; rintro e w10 ⟨A', c', G', rfl, h10, hc10, ho10, hG10, _⟩
  have kX10 := kX9.chg hc10 (by simp); have kB10 := kB9.chg hc10 (by simp); have kC10 := kC9.chg hc10 (by simp)
  have hm10 := ho10.slh
  have hl10 := hl9.new hc10
  clear h9 kX9 kB9 kC9 hl9 hc10 ho10
  go_wp2_with fail
  have hp := TPick_b (-1) (by omega) h10
  rw [P5.out] at hp
  refine hp.mono ?_; rintro e w11 ⟨rfl, h11, hf11⟩
  have kX11 := hf11.blkH kX10 (by simp); have kB11 := hf11.blkH kB10 (by simp); have kC11 := hf11.blkH kC10 (by simp)
  have hl11 := hf11.slh hl10 (fun b off e => by simp [hG8 b off e])
  have hm11 := hf11.slh hm10 (fun b off e => by simp [hG10 b off e])
  clear hp h10 kX10 kB10 kC10 hl10 hm10 hf11
  go_wp2_with fail
  have hp := TFlush_b 1 h11
  rw [P6.out] at hp
  refine hp.mono ?_; rintro e w12 ⟨rfl, h12, hf12⟩
  have kX12 := hf12.blkH kX11 (by simp); have kB12 := hf12.blkH kB11 (by simp); have kC12 := hf12.blkH kC11 (by simp)
  have hl12 := hf12.slh hl11 (fun b off e => by simp [hG8 b off e])
  have hm12 := hf12.slh hm11 (fun b off e => by simp [hG10 b off e])
  clear hp h11 kX11 kB11 kC11 hl11 hm11 hf12
  obtain ⟨x0, x1, x2, x3, x4, x5, x6⟩ := kX12.cells
  obtain ⟨b0, b1, b2, b3, b4, b5, b6⟩ := kB12.cells
  obtain ⟨c0, c1, c2, c3, c4, c5, c6⟩ := kC12.cells
  simp only [hB, hC] at x0 x1 x2 x3 x4 x5 x6 b0 b1 b2 b3 b4 b5 b6 c0 c1 c2 c3 c4 c5 c6
  go_wp2_with fail
  have hs1 : SlH (w12.alloc (.cells #[.int .i64 2, .int .i64 5, .int .i64 8, .bool false, .bool false, .bool false, .bool false, .int .i64 1, .int .i64 6, .int .i64 9, .bool false, .bool false, .bool false, .bool false] 31)) (some ⟨w12.heap.size, 0, none⟩) 2 [hB, hC] := SlH.two (Blk.new w12 _ _)
  have hcx := (Chg.refl [] w12).alloc (.cells #[.int .i64 2, .int .i64 5, .int .i64 8, .bool false, .bool false, .bool false, .bool false, .int .i64 1, .int .i64 6, .int .i64 9, .bool false, .bool false, .bool false, .bool false] 31)
  have kB13 := kB12.chg hcx (by simp); have kC13 := kC12.chg hcx (by simp)
  have hl13 := hl12.new hcx; have hm13 := hm12.new hcx
  have h13 := h12.new hcx
  clear kX12 kB12 kC12 hl12 hm12 h12 hcx x0 x1 x2 x3 x4 x5 x6 b0 b1 b2 b3 b4 b5 b6 c0 c1 c2 c3 c4 c5 c6
  generalize w12.heap.size = z12 at *
  generalize w12.alloc (.cells #[.int .i64 2, .int .i64 5, .int .i64 8, .bool false, .bool false, .bool false, .bool false, .int .i64 1, .int .i64 6, .int .i64 9, .bool false, .bool false, .bool false, .bool false] 31) = w13 at *
  have hS := TSame_at A (some ⟨z12, 0, none⟩) 2 2 c 2 [hB, hC] [hB, hC] w13 hl13 hs1
  rw [eqHs_self] at hS
  refine hS.mono ?_; rintro e w14 ⟨rfl, hc14⟩
  have kB14 := kB13.chg hc14 (by simp); have kC14 := kC13.chg hc14 (by simp)
  have hm14 := hm13.new hc14
  have h14 := h13.new hc14
  clear hS kB13 kC13 hl13 hm13 h13 hc14 hs1
  obtain ⟨b0, b1, b2, b3, b4, b5, b6⟩ := kB14.cells
  obtain ⟨c0, c1, c2, c3, c4, c5, c6⟩ := kC14.cells
  simp only [hB, hC] at b0 b1 b2 b3 b4 b5 b6 c0 c1 c2 c3 c4 c5 c6
  go_wp2_with fail
  have hs1 : SlH (w14.alloc (.cells #[.int .i64 1, .int .i64 6, .int .i64 9, .bool false, .bool false, .bool false, .bool false, .int .i64 2, .int .i64 5, .int .i64 8, .bool false, .bool false, .bool false, .bool false] 31)) (some ⟨w14.heap.size, 0, none⟩) 2 [hC, hB] := SlH.two (Blk.new w14 _ _)
  have hcx := (Chg.refl [] w14).alloc (.cells #[.int .i64 1, .int .i64 6, .int .i64 9, .bool false, .bool false, .bool false, .bool false, .int .i64 2, .int .i64 5, .int .i64 8, .bool false, .bool false, .bool false, .bool false] 31)
  have hm15 := hm14.new hcx
  have h15 := h14.new hcx
  clear kB14 kC14 hm14 h14 hcx b0 b1 b2 b3 b4 b5 b6 c0 c1 c2 c3 c4 c5 c6
  generalize w14.heap.size = z14 at *
  generalize w14.alloc (.cells #[.int .i64 1, .int .i64 6, .int .i64 9, .bool false, .bool false, .bool false, .bool false, .int .i64 2, .int .i64 5, .int .i64 8, .bool false, .bool false, .bool false, .bool false] 31) = w15 at *
  have hS := TSame_at A' (some ⟨z14, 0, none⟩) 2 2 c' 2 [hC, hB] [hC, hB] w15 hm15 hs1
  rw [eqHs_self] at hS
  refine hS.mono ?_; rintro e w16 ⟨rfl, hc16⟩
  have h16 := h15.new hc16
  clear hS hm15 h15 hc16 hs1
  go_wp2_with fail
  refine (TMany_b h16).mono ?_; rintro e w17 ⟨rfl, h17, _⟩
  clear h16
  go_wp2_with fail
  refine (TPick_b 3 (by omega) h17).mono ?_; rintro e w18 ⟨rfl, h18, _⟩
  clear h17
  go_wp2_with fail
  have hp := TDrop_b 1 6 h18
  rw [show pickT [] 3 = [] from rfl, G5.out] at hp
  refine hp.mono ?_; rintro e w19 ⟨rfl, h19, _⟩
  clear h18 hp
  go_wp2_with fail
  go_ret
  exact ⟨rfl, h19.chg0⟩

end Go.Proofs.Ytikdoldmhlbklaa
