/-
  The document's one and Put.
-/
import Derived.Test.YtdmcicgappgiiaaScriptR2
namespace Go.Proofs.Ytdmcicgappgiiaa
open Go.RowKit Go.Shelf

theorem pats {w : Int} (h0 : 0 ≤ w) (h8 : w ≤ 8) : (hasPA w = true ∧ hasPG w = false ∧ hasPI w = false ∧ hasPV w = false ∧ hasPN w = false) ∨ (hasPA w = true ∧ hasPG w = false ∧ hasPI w = false ∧ hasPV w = true ∧ hasPN w = false) ∨
    (hasPA w = false ∧ hasPG w = true ∧ hasPI w = false ∧ hasPV w = false ∧ hasPN w = false) ∨ (hasPA w = false ∧ hasPG w = true ∧ hasPI w = true ∧ hasPV w = true ∧ hasPN w = false) ∨ (hasPA w = false ∧ hasPG w = false ∧ hasPI w = false ∧ hasPV w = false ∧ hasPN w = true) := by
  rcases what_cases h0 h8 with rfl | rfl | rfl | rfl | rfl | rfl | rfl | rfl | rfl <;> decide

set_option maxRecDepth 100000 in
set_option maxHeartbeats 8000000 in
theorem ROne_any (o : Sop) (hwf : o.Wf) (hs : smallS o = true) (h0 : 0 ≤ o.what) (h8 : o.what ≤ 8) (w : World) :
    Calls Try.prog 19 #[.agg o.ar] w fun e w' => ∃ A' c', e = .returned (.slice A' (oneS o).length c') ∧ LG (numE .u8) w w' 5 (.slice A' (oneS o).length c') (oneS o) := by
  have hs2 := hs
  unfold smallS at hs2
  simp only [Bool.and_eq_true, decide_eq_true_eq] at hs2
  have hwt : IntKind.u8.wrap o.what = o.what := by rw [IntKind.wrap_u8]; omega
  have hwt2 : IntKind.u8.wrap (o.what + 128) = o.what + 128 := by rw [IntKind.wrap_u8]; omega
  have hwg : IntKind.u8.wrap o.g = o.g := by rw [IntKind.wrap_u8]; omega
  have hwi : IntKind.u8.wrap o.i = o.i := by rw [IntKind.wrap_u8]; omega
  have hwn : IntKind.u8.wrap o.n = o.n := by rw [IntKind.wrap_u8]; omega
  clear hs hs2
  have hHA := fun w9 => RHas_any (show isD 65 by unfold isD; omega) o.what w9
  rw [show hasC o.what 65 = hasPA o.what from rfl] at hHA
  have hHV := fun w9 => RHas_any (show isD 86 by unfold isD; omega) o.what w9
  rw [show hasC o.what 86 = hasPV o.what from rfl] at hHV
  have hHG := fun w9 => RHas_any (show isD 71 by unfold isD; omega) o.what w9
  rw [show hasC o.what 71 = hasPG o.what from rfl] at hHG
  have hHI := fun w9 => RHas_any (show isD 73 by unfold isD; omega) o.what w9
  rw [show hasC o.what 73 = hasPI o.what from rfl] at hHI
  have hHN := fun w9 => RHas_any (show isD 78 by unfold isD; omega) o.what w9
  rw [show hasC o.what 78 = hasPN o.what from rfl] at hHN
  have hp := pats h0 h8
  rcases hp with ⟨hpA, hpG, hpI, hpV, hpN⟩ | ⟨hpA, hpG, hpI, hpV, hpN⟩ | ⟨hpA, hpG, hpI, hpV, hpN⟩ | ⟨hpA, hpG, hpI, hpV, hpN⟩ | ⟨hpA, hpG, hpI, hpV, hpN⟩
  · rw [hpA] at hHA
    rw [hpG] at hHG
    rw [hpI] at hHI
    rw [hpV] at hHV
    rw [hpN] at hHN
    replace hpA := Lib.hid hpA
    replace hpG := Lib.hid hpG
    replace hpI := Lib.hid hpI
    replace hpV := Lib.hid hpV
    replace hpN := Lib.hid hpN
    cases hu : o.user
    · simp only [Sop.ar, hu]
      have B1 := Blk.new w 31 #[.int .i64 o.what, .bool false, .int .u64 o.a, .int .u64 o.v, .int .i64 o.g, .int .i64 o.i, .int .i64 o.n]
      have k0 : Chg [] w (w.alloc (.cells #[.int .i64 o.what, .bool false, .int .u64 o.a, .int .u64 o.v, .int .i64 o.g, .int .i64 o.i, .int .i64 o.n] 31)) := (Chg.refl [] w).alloc _
      have lg0 : LG (numE .u8) (w.alloc (.cells #[.int .i64 o.what, .bool false, .int .u64 o.a, .int .u64 o.v, .int .i64 o.g, .int .i64 o.i, .int .i64 o.n] 31)) ((w.alloc (.cells #[.int .i64 o.what, .bool false, .int .u64 o.a, .int .u64 o.v, .int .i64 o.g, .int .i64 o.i, .int .i64 o.n] 31)).alloc (.cells #[.int .u8 (o.what)] 5)) 5 (.slice (some ⟨w.heap.size + 1, 0, none⟩) 1 1) [o.what] := ⟨(Chg.refl [] _).alloc _, OwnG.lit (L := [o.what]) (blk_two w _ _ _) (by simp), by simp [Value.ownBlock]⟩
      have B2 := B1.alloc (.cells #[.int .u8 (o.what)] 5)
      obtain ⟨a0, a1, a2, a3, a4, a5, a6⟩ := blk7 B1
      obtain ⟨b0, b1, b2, b3, b4, b5, b6⟩ := blk7 B2
      have hgs : w.heap.size < w.heap.size + 1 := by omega
      go_enter Try.func19, Try.ntmps19
      go_wp2_with fail
      generalize (w.alloc (.cells #[.int .i64 o.what, .bool false, .int .u64 o.a, .int .u64 o.v, .int .i64 o.g, .int .i64 o.i, .int .i64 o.n] 31)).alloc (.cells #[.int .u8 (o.what)] 5) = x0 at *
      generalize hw1 : w.alloc (.cells #[.int .i64 o.what, .bool false, .int .u64 o.a, .int .u64 o.v, .int .i64 o.g, .int .i64 o.i, .int .i64 o.n] 31) = wB at *
      clear hw1 B2 hgs a0 a1 a2 a3 a4 a5 a6 b0 b1 b2 b3 b4 b5 b6
      generalize w.heap.size = g0 at *
      skip
      have k1 := k0
      refine (hHA _).mono ?_; rintro e y65 ⟨rfl, rfl⟩
      have D := lg0.1.blk B1 (by simp)
      obtain ⟨d0, d1, d2, d3, d4, d5, d6⟩ := blk7 D
      go_wp2_with fail
      refine (REight_any (some ⟨g0 + 1, 0, none⟩) 1 1 ([o.what]) o.a hwf.a lg0 (rfl) (by omega)).mono ?_; rintro e z1 ⟨A1, c1, rfl, lg1'⟩
      obtain ⟨n1, hn1⟩ : ∃ n, n = ([o.what] ++ b8 o.a).length := ⟨_, rfl⟩
      have lg1 := lg1'
      rw [← hn1] at lg1 ⊢
      have hl1 : n1 ≤ 60 := by rw [hn1]; simp [b8_len]
      replace hn1 := Lib.hid hn1
      have E := lg1.1.blk B1 (by simp)
      clear d0 d1 d2 d3 d4 d5 d6
      obtain ⟨d0, d1, d2, d3, d4, d5, d6⟩ := blk7 E
      go_wp2_with fail
      refine (hHG _).mono ?_; rintro e y71 ⟨rfl, rfl⟩
      have D := lg1.1.blk B1 (by simp)
      obtain ⟨d0, d1, d2, d3, d4, d5, d6⟩ := blk7 D
      go_wp2_with fail
      refine (hHI _).mono ?_; rintro e y73 ⟨rfl, rfl⟩
      have D := lg1.1.blk B1 (by simp)
      obtain ⟨d0, d1, d2, d3, d4, d5, d6⟩ := blk7 D
      go_wp2_with fail
      refine (hHV _).mono ?_; rintro e y86 ⟨rfl, rfl⟩
      have D := lg1.1.blk B1 (by simp)
      obtain ⟨d0, d1, d2, d3, d4, d5, d6⟩ := blk7 D
      go_wp2_with fail
      refine (hHN _).mono ?_; rintro e y78 ⟨rfl, rfl⟩
      have D := lg1.1.blk B1 (by simp)
      obtain ⟨d0, d1, d2, d3, d4, d5, d6⟩ := blk7 D
      go_wp2_with fail
      go_ret
      have eL : [o.what] ++ b8 o.a = oneS o := by unfold oneS; rw [hpA.out, hpG.out, hpI.out, hpV.out, hpN.out, hu]; simp
      rw [← eL]
      refine ⟨A1, c1, by rw [← hn1.out]; rfl, ?_⟩
      rw [← hn1.out]
      exact ⟨k0.trans lg1.1 (by simp), lg1.2.1, fun g hg => Nat.le_trans k0.size (lg1.2.2 g hg)⟩
    · simp only [Sop.ar, hu]
      have B1 := Blk.new w 31 #[.int .i64 o.what, .bool true, .int .u64 o.a, .int .u64 o.v, .int .i64 o.g, .int .i64 o.i, .int .i64 o.n]
      have k0 : Chg [] w (w.alloc (.cells #[.int .i64 o.what, .bool true, .int .u64 o.a, .int .u64 o.v, .int .i64 o.g, .int .i64 o.i, .int .i64 o.n] 31)) := (Chg.refl [] w).alloc _
      have lg0 : LG (numE .u8) (w.alloc (.cells #[.int .i64 o.what, .bool true, .int .u64 o.a, .int .u64 o.v, .int .i64 o.g, .int .i64 o.i, .int .i64 o.n] 31)) ((w.alloc (.cells #[.int .i64 o.what, .bool true, .int .u64 o.a, .int .u64 o.v, .int .i64 o.g, .int .i64 o.i, .int .i64 o.n] 31)).alloc (.cells #[.int .u8 (o.what + 128)] 5)) 5 (.slice (some ⟨w.heap.size + 1, 0, none⟩) 1 1) [o.what + 128] := ⟨(Chg.refl [] _).alloc _, OwnG.lit (L := [o.what + 128]) (blk_two w _ _ _) (by simp), by simp [Value.ownBlock]⟩
      have B2 := B1.alloc (.cells #[.int .u8 (o.what)] 5)
      have B3 := B1.alloc (.cells #[.int .u8 (o.what + 128)] 5)
      obtain ⟨a0, a1, a2, a3, a4, a5, a6⟩ := blk7 B1
      obtain ⟨b0, b1, b2, b3, b4, b5, b6⟩ := blk7 B2
      obtain ⟨c0, c1, c2, c3, c4, c5, c6⟩ := blk7 B3
      have hgs : w.heap.size < w.heap.size + 1 := by omega
      go_enter Try.func19, Try.ntmps19
      go_wp2_with fail
      generalize (w.alloc (.cells #[.int .i64 o.what, .bool true, .int .u64 o.a, .int .u64 o.v, .int .i64 o.g, .int .i64 o.i, .int .i64 o.n] 31)).alloc (.cells #[.int .u8 (o.what + 128)] 5) = x0 at *
      generalize hw1 : w.alloc (.cells #[.int .i64 o.what, .bool true, .int .u64 o.a, .int .u64 o.v, .int .i64 o.g, .int .i64 o.i, .int .i64 o.n] 31) = wB at *
      clear hw1 B2 hgs B3 c0 c1 c2 c3 c4 c5 c6 a0 a1 a2 a3 a4 a5 a6 b0 b1 b2 b3 b4 b5 b6
      generalize w.heap.size = g0 at *
      skip
      have k1 := k0
      refine (hHA _).mono ?_; rintro e y65 ⟨rfl, rfl⟩
      have D := lg0.1.blk B1 (by simp)
      obtain ⟨d0, d1, d2, d3, d4, d5, d6⟩ := blk7 D
      go_wp2_with fail
      refine (REight_any (some ⟨g0 + 1, 0, none⟩) 1 1 ([o.what + 128]) o.a hwf.a lg0 (rfl) (by omega)).mono ?_; rintro e z1 ⟨A1, c1, rfl, lg1'⟩
      obtain ⟨n1, hn1⟩ : ∃ n, n = ([o.what + 128] ++ b8 o.a).length := ⟨_, rfl⟩
      have lg1 := lg1'
      rw [← hn1] at lg1 ⊢
      have hl1 : n1 ≤ 60 := by rw [hn1]; simp [b8_len]
      replace hn1 := Lib.hid hn1
      have E := lg1.1.blk B1 (by simp)
      clear d0 d1 d2 d3 d4 d5 d6
      obtain ⟨d0, d1, d2, d3, d4, d5, d6⟩ := blk7 E
      go_wp2_with fail
      refine (hHG _).mono ?_; rintro e y71 ⟨rfl, rfl⟩
      have D := lg1.1.blk B1 (by simp)
      obtain ⟨d0, d1, d2, d3, d4, d5, d6⟩ := blk7 D
      go_wp2_with fail
      refine (hHI _).mono ?_; rintro e y73 ⟨rfl, rfl⟩
      have D := lg1.1.blk B1 (by simp)
      obtain ⟨d0, d1, d2, d3, d4, d5, d6⟩ := blk7 D
      go_wp2_with fail
      refine (hHV _).mono ?_; rintro e y86 ⟨rfl, rfl⟩
      have D := lg1.1.blk B1 (by simp)
      obtain ⟨d0, d1, d2, d3, d4, d5, d6⟩ := blk7 D
      go_wp2_with fail
      refine (hHN _).mono ?_; rintro e y78 ⟨rfl, rfl⟩
      have D := lg1.1.blk B1 (by simp)
      obtain ⟨d0, d1, d2, d3, d4, d5, d6⟩ := blk7 D
      go_wp2_with fail
      go_ret
      have eL : [o.what + 128] ++ b8 o.a = oneS o := by unfold oneS; rw [hpA.out, hpG.out, hpI.out, hpV.out, hpN.out, hu]; simp
      rw [← eL]
      refine ⟨A1, c1, by rw [← hn1.out]; rfl, ?_⟩
      rw [← hn1.out]
      exact ⟨k0.trans lg1.1 (by simp), lg1.2.1, fun g hg => Nat.le_trans k0.size (lg1.2.2 g hg)⟩
  · rw [hpA] at hHA
    rw [hpG] at hHG
    rw [hpI] at hHI
    rw [hpV] at hHV
    rw [hpN] at hHN
    replace hpA := Lib.hid hpA
    replace hpG := Lib.hid hpG
    replace hpI := Lib.hid hpI
    replace hpV := Lib.hid hpV
    replace hpN := Lib.hid hpN
    cases hu : o.user
    · simp only [Sop.ar, hu]
      have B1 := Blk.new w 31 #[.int .i64 o.what, .bool false, .int .u64 o.a, .int .u64 o.v, .int .i64 o.g, .int .i64 o.i, .int .i64 o.n]
      have k0 : Chg [] w (w.alloc (.cells #[.int .i64 o.what, .bool false, .int .u64 o.a, .int .u64 o.v, .int .i64 o.g, .int .i64 o.i, .int .i64 o.n] 31)) := (Chg.refl [] w).alloc _
      have lg0 : LG (numE .u8) (w.alloc (.cells #[.int .i64 o.what, .bool false, .int .u64 o.a, .int .u64 o.v, .int .i64 o.g, .int .i64 o.i, .int .i64 o.n] 31)) ((w.alloc (.cells #[.int .i64 o.what, .bool false, .int .u64 o.a, .int .u64 o.v, .int .i64 o.g, .int .i64 o.i, .int .i64 o.n] 31)).alloc (.cells #[.int .u8 (o.what)] 5)) 5 (.slice (some ⟨w.heap.size + 1, 0, none⟩) 1 1) [o.what] := ⟨(Chg.refl [] _).alloc _, OwnG.lit (L := [o.what]) (blk_two w _ _ _) (by simp), by simp [Value.ownBlock]⟩
      have B2 := B1.alloc (.cells #[.int .u8 (o.what)] 5)
      obtain ⟨a0, a1, a2, a3, a4, a5, a6⟩ := blk7 B1
      obtain ⟨b0, b1, b2, b3, b4, b5, b6⟩ := blk7 B2
      have hgs : w.heap.size < w.heap.size + 1 := by omega
      go_enter Try.func19, Try.ntmps19
      go_wp2_with fail
      generalize (w.alloc (.cells #[.int .i64 o.what, .bool false, .int .u64 o.a, .int .u64 o.v, .int .i64 o.g, .int .i64 o.i, .int .i64 o.n] 31)).alloc (.cells #[.int .u8 (o.what)] 5) = x0 at *
      generalize hw1 : w.alloc (.cells #[.int .i64 o.what, .bool false, .int .u64 o.a, .int .u64 o.v, .int .i64 o.g, .int .i64 o.i, .int .i64 o.n] 31) = wB at *
      clear hw1 B2 hgs a0 a1 a2 a3 a4 a5 a6 b0 b1 b2 b3 b4 b5 b6
      generalize w.heap.size = g0 at *
      skip
      have k1 := k0
      refine (hHA _).mono ?_; rintro e y65 ⟨rfl, rfl⟩
      have D := lg0.1.blk B1 (by simp)
      obtain ⟨d0, d1, d2, d3, d4, d5, d6⟩ := blk7 D
      go_wp2_with fail
      refine (REight_any (some ⟨g0 + 1, 0, none⟩) 1 1 ([o.what]) o.a hwf.a lg0 (rfl) (by omega)).mono ?_; rintro e z1 ⟨A1, c1, rfl, lg1'⟩
      obtain ⟨n1, hn1⟩ : ∃ n, n = ([o.what] ++ b8 o.a).length := ⟨_, rfl⟩
      have lg1 := lg1'
      rw [← hn1] at lg1 ⊢
      have hl1 : n1 ≤ 60 := by rw [hn1]; simp [b8_len]
      replace hn1 := Lib.hid hn1
      have E := lg1.1.blk B1 (by simp)
      clear d0 d1 d2 d3 d4 d5 d6
      obtain ⟨d0, d1, d2, d3, d4, d5, d6⟩ := blk7 E
      go_wp2_with fail
      refine (hHG _).mono ?_; rintro e y71 ⟨rfl, rfl⟩
      have D := lg1.1.blk B1 (by simp)
      obtain ⟨d0, d1, d2, d3, d4, d5, d6⟩ := blk7 D
      go_wp2_with fail
      refine (hHI _).mono ?_; rintro e y73 ⟨rfl, rfl⟩
      have D := lg1.1.blk B1 (by simp)
      obtain ⟨d0, d1, d2, d3, d4, d5, d6⟩ := blk7 D
      go_wp2_with fail
      refine (hHV _).mono ?_; rintro e y86 ⟨rfl, rfl⟩
      have D := lg1.1.blk B1 (by simp)
      obtain ⟨d0, d1, d2, d3, d4, d5, d6⟩ := blk7 D
      go_wp2_with fail
      refine (REight_any A1 n1 c1 ([o.what] ++ b8 o.a) o.v hwf.v lg1 (hn1.out.symm) (by omega)).mono ?_; rintro e z2 ⟨A2, c2, rfl, lg2'⟩
      obtain ⟨n2, hn2⟩ : ∃ n, n = ([o.what] ++ b8 o.a ++ b8 o.v).length := ⟨_, rfl⟩
      have lg2 := lg2'
      rw [← hn2] at lg2 ⊢
      have hl2 : n2 ≤ 60 := by rw [hn2]; simp [b8_len]
      replace hn2 := Lib.hid hn2
      have E := lg2.1.blk B1 (by simp)
      clear d0 d1 d2 d3 d4 d5 d6
      obtain ⟨d0, d1, d2, d3, d4, d5, d6⟩ := blk7 E
      go_wp2_with fail
      refine (hHN _).mono ?_; rintro e y78 ⟨rfl, rfl⟩
      have D := lg2.1.blk B1 (by simp)
      obtain ⟨d0, d1, d2, d3, d4, d5, d6⟩ := blk7 D
      go_wp2_with fail
      go_ret
      have eL : [o.what] ++ b8 o.a ++ b8 o.v = oneS o := by unfold oneS; rw [hpA.out, hpG.out, hpI.out, hpV.out, hpN.out, hu]; simp
      rw [← eL]
      refine ⟨A2, c2, by rw [← hn2.out]; rfl, ?_⟩
      rw [← hn2.out]
      exact ⟨k0.trans lg2.1 (by simp), lg2.2.1, fun g hg => Nat.le_trans k0.size (lg2.2.2 g hg)⟩
    · simp only [Sop.ar, hu]
      have B1 := Blk.new w 31 #[.int .i64 o.what, .bool true, .int .u64 o.a, .int .u64 o.v, .int .i64 o.g, .int .i64 o.i, .int .i64 o.n]
      have k0 : Chg [] w (w.alloc (.cells #[.int .i64 o.what, .bool true, .int .u64 o.a, .int .u64 o.v, .int .i64 o.g, .int .i64 o.i, .int .i64 o.n] 31)) := (Chg.refl [] w).alloc _
      have lg0 : LG (numE .u8) (w.alloc (.cells #[.int .i64 o.what, .bool true, .int .u64 o.a, .int .u64 o.v, .int .i64 o.g, .int .i64 o.i, .int .i64 o.n] 31)) ((w.alloc (.cells #[.int .i64 o.what, .bool true, .int .u64 o.a, .int .u64 o.v, .int .i64 o.g, .int .i64 o.i, .int .i64 o.n] 31)).alloc (.cells #[.int .u8 (o.what + 128)] 5)) 5 (.slice (some ⟨w.heap.size + 1, 0, none⟩) 1 1) [o.what + 128] := ⟨(Chg.refl [] _).alloc _, OwnG.lit (L := [o.what + 128]) (blk_two w _ _ _) (by simp), by simp [Value.ownBlock]⟩
      have B2 := B1.alloc (.cells #[.int .u8 (o.what)] 5)
      have B3 := B1.alloc (.cells #[.int .u8 (o.what + 128)] 5)
      obtain ⟨a0, a1, a2, a3, a4, a5, a6⟩ := blk7 B1
      obtain ⟨b0, b1, b2, b3, b4, b5, b6⟩ := blk7 B2
      obtain ⟨c0, c1, c2, c3, c4, c5, c6⟩ := blk7 B3
      have hgs : w.heap.size < w.heap.size + 1 := by omega
      go_enter Try.func19, Try.ntmps19
      go_wp2_with fail
      generalize (w.alloc (.cells #[.int .i64 o.what, .bool true, .int .u64 o.a, .int .u64 o.v, .int .i64 o.g, .int .i64 o.i, .int .i64 o.n] 31)).alloc (.cells #[.int .u8 (o.what + 128)] 5) = x0 at *
      generalize hw1 : w.alloc (.cells #[.int .i64 o.what, .bool true, .int .u64 o.a, .int .u64 o.v, .int .i64 o.g, .int .i64 o.i, .int .i64 o.n] 31) = wB at *
      clear hw1 B2 hgs B3 c0 c1 c2 c3 c4 c5 c6 a0 a1 a2 a3 a4 a5 a6 b0 b1 b2 b3 b4 b5 b6
      generalize w.heap.size = g0 at *
      skip
      have k1 := k0
      refine (hHA _).mono ?_; rintro e y65 ⟨rfl, rfl⟩
      have D := lg0.1.blk B1 (by simp)
      obtain ⟨d0, d1, d2, d3, d4, d5, d6⟩ := blk7 D
      go_wp2_with fail
      refine (REight_any (some ⟨g0 + 1, 0, none⟩) 1 1 ([o.what + 128]) o.a hwf.a lg0 (rfl) (by omega)).mono ?_; rintro e z1 ⟨A1, c1, rfl, lg1'⟩
      obtain ⟨n1, hn1⟩ : ∃ n, n = ([o.what + 128] ++ b8 o.a).length := ⟨_, rfl⟩
      have lg1 := lg1'
      rw [← hn1] at lg1 ⊢
      have hl1 : n1 ≤ 60 := by rw [hn1]; simp [b8_len]
      replace hn1 := Lib.hid hn1
      have E := lg1.1.blk B1 (by simp)
      clear d0 d1 d2 d3 d4 d5 d6
      obtain ⟨d0, d1, d2, d3, d4, d5, d6⟩ := blk7 E
      go_wp2_with fail
      refine (hHG _).mono ?_; rintro e y71 ⟨rfl, rfl⟩
      have D := lg1.1.blk B1 (by simp)
      obtain ⟨d0, d1, d2, d3, d4, d5, d6⟩ := blk7 D
      go_wp2_with fail
      refine (hHI _).mono ?_; rintro e y73 ⟨rfl, rfl⟩
      have D := lg1.1.blk B1 (by simp)
      obtain ⟨d0, d1, d2, d3, d4, d5, d6⟩ := blk7 D
      go_wp2_with fail
      refine (hHV _).mono ?_; rintro e y86 ⟨rfl, rfl⟩
      have D := lg1.1.blk B1 (by simp)
      obtain ⟨d0, d1, d2, d3, d4, d5, d6⟩ := blk7 D
      go_wp2_with fail
      refine (REight_any A1 n1 c1 ([o.what + 128] ++ b8 o.a) o.v hwf.v lg1 (hn1.out.symm) (by omega)).mono ?_; rintro e z2 ⟨A2, c2, rfl, lg2'⟩
      obtain ⟨n2, hn2⟩ : ∃ n, n = ([o.what + 128] ++ b8 o.a ++ b8 o.v).length := ⟨_, rfl⟩
      have lg2 := lg2'
      rw [← hn2] at lg2 ⊢
      have hl2 : n2 ≤ 60 := by rw [hn2]; simp [b8_len]
      replace hn2 := Lib.hid hn2
      have E := lg2.1.blk B1 (by simp)
      clear d0 d1 d2 d3 d4 d5 d6
      obtain ⟨d0, d1, d2, d3, d4, d5, d6⟩ := blk7 E
      go_wp2_with fail
      refine (hHN _).mono ?_; rintro e y78 ⟨rfl, rfl⟩
      have D := lg2.1.blk B1 (by simp)
      obtain ⟨d0, d1, d2, d3, d4, d5, d6⟩ := blk7 D
      go_wp2_with fail
      go_ret
      have eL : [o.what + 128] ++ b8 o.a ++ b8 o.v = oneS o := by unfold oneS; rw [hpA.out, hpG.out, hpI.out, hpV.out, hpN.out, hu]; simp
      rw [← eL]
      refine ⟨A2, c2, by rw [← hn2.out]; rfl, ?_⟩
      rw [← hn2.out]
      exact ⟨k0.trans lg2.1 (by simp), lg2.2.1, fun g hg => Nat.le_trans k0.size (lg2.2.2 g hg)⟩
  · rw [hpA] at hHA
    rw [hpG] at hHG
    rw [hpI] at hHI
    rw [hpV] at hHV
    rw [hpN] at hHN
    replace hpA := Lib.hid hpA
    replace hpG := Lib.hid hpG
    replace hpI := Lib.hid hpI
    replace hpV := Lib.hid hpV
    replace hpN := Lib.hid hpN
    cases hu : o.user
    · simp only [Sop.ar, hu]
      have B1 := Blk.new w 31 #[.int .i64 o.what, .bool false, .int .u64 o.a, .int .u64 o.v, .int .i64 o.g, .int .i64 o.i, .int .i64 o.n]
      have k0 : Chg [] w (w.alloc (.cells #[.int .i64 o.what, .bool false, .int .u64 o.a, .int .u64 o.v, .int .i64 o.g, .int .i64 o.i, .int .i64 o.n] 31)) := (Chg.refl [] w).alloc _
      have lg0 : LG (numE .u8) (w.alloc (.cells #[.int .i64 o.what, .bool false, .int .u64 o.a, .int .u64 o.v, .int .i64 o.g, .int .i64 o.i, .int .i64 o.n] 31)) ((w.alloc (.cells #[.int .i64 o.what, .bool false, .int .u64 o.a, .int .u64 o.v, .int .i64 o.g, .int .i64 o.i, .int .i64 o.n] 31)).alloc (.cells #[.int .u8 (o.what)] 5)) 5 (.slice (some ⟨w.heap.size + 1, 0, none⟩) 1 1) [o.what] := ⟨(Chg.refl [] _).alloc _, OwnG.lit (L := [o.what]) (blk_two w _ _ _) (by simp), by simp [Value.ownBlock]⟩
      have B2 := B1.alloc (.cells #[.int .u8 (o.what)] 5)
      obtain ⟨a0, a1, a2, a3, a4, a5, a6⟩ := blk7 B1
      obtain ⟨b0, b1, b2, b3, b4, b5, b6⟩ := blk7 B2
      have hgs : w.heap.size < w.heap.size + 1 := by omega
      go_enter Try.func19, Try.ntmps19
      go_wp2_with fail
      generalize (w.alloc (.cells #[.int .i64 o.what, .bool false, .int .u64 o.a, .int .u64 o.v, .int .i64 o.g, .int .i64 o.i, .int .i64 o.n] 31)).alloc (.cells #[.int .u8 (o.what)] 5) = x0 at *
      generalize hw1 : w.alloc (.cells #[.int .i64 o.what, .bool false, .int .u64 o.a, .int .u64 o.v, .int .i64 o.g, .int .i64 o.i, .int .i64 o.n] 31) = wB at *
      clear hw1 B2 hgs a0 a1 a2 a3 a4 a5 a6 b0 b1 b2 b3 b4 b5 b6
      generalize w.heap.size = g0 at *
      skip
      have k1 := k0
      refine (hHA _).mono ?_; rintro e y65 ⟨rfl, rfl⟩
      have D := lg0.1.blk B1 (by simp)
      obtain ⟨d0, d1, d2, d3, d4, d5, d6⟩ := blk7 D
      go_wp2_with fail
      refine (hHG _).mono ?_; rintro e y71 ⟨rfl, rfl⟩
      have D := lg0.1.blk B1 (by simp)
      obtain ⟨d0, d1, d2, d3, d4, d5, d6⟩ := blk7 D
      have hz1 := lg0.new ((Chg.refl [] x0).alloc (.cells #[.int .u8 o.g] 5))
      go_wp2_with (at_builtin; (refine wpList_append_G rfl _ _ 23 rfl 5 (.int .u8 0) 1 Try.underlying23 (by kernel_rfl) rfl (.slice (some ⟨g0 + 1, 0, none⟩) 1 1) ([o.what]) rfl (hz1.2.1) (some ⟨x0.heap.size, 0, none⟩) 1 1 ([o.g]) rfl (OwnG.src (OwnG.lit (L := [o.g]) (Blk.new x0 5 #[.int .u8 o.g]) (by simp))) (rfl) (by (first | (simp; done) | (simp [b8_len]; done))) ?_; intro v1 w1 ho1 hc1 hv1; obtain ⟨A1, c1, rfl, _, _⟩ := ho1.form; have lg1' := hz1.app ho1 hc1 hv1; clear hz1; obtain ⟨n1, hn1⟩ : ∃ n, n = ([o.what] ++ [o.g]).length := ⟨_, rfl⟩; have lg1 := lg1'; rw [← hn1] at lg1 ⊢; have hl1 : n1 ≤ 60 := (by rw [hn1]; simp); replace hn1 := Lib.hid hn1; have E := lg1.1.blk B1 (by simp); clear d0 d1 d2 d3 d4 d5 d6; obtain ⟨d0, d1, d2, d3, d4, d5, d6⟩ := blk7 E))
      refine (hHI _).mono ?_; rintro e y73 ⟨rfl, rfl⟩
      have D := lg1.1.blk B1 (by simp)
      obtain ⟨d0, d1, d2, d3, d4, d5, d6⟩ := blk7 D
      go_wp2_with fail
      refine (hHV _).mono ?_; rintro e y86 ⟨rfl, rfl⟩
      have D := lg1.1.blk B1 (by simp)
      obtain ⟨d0, d1, d2, d3, d4, d5, d6⟩ := blk7 D
      go_wp2_with fail
      refine (hHN _).mono ?_; rintro e y78 ⟨rfl, rfl⟩
      have D := lg1.1.blk B1 (by simp)
      obtain ⟨d0, d1, d2, d3, d4, d5, d6⟩ := blk7 D
      go_wp2_with fail
      go_ret
      have eL : [o.what] ++ [o.g] = oneS o := by unfold oneS; rw [hpA.out, hpG.out, hpI.out, hpV.out, hpN.out, hu]; simp
      rw [← eL]
      refine ⟨A1, c1, by rw [← hn1.out]; rfl, ?_⟩
      rw [← hn1.out]
      exact ⟨k0.trans lg1.1 (by simp), lg1.2.1, fun g hg => Nat.le_trans k0.size (lg1.2.2 g hg)⟩
    · simp only [Sop.ar, hu]
      have B1 := Blk.new w 31 #[.int .i64 o.what, .bool true, .int .u64 o.a, .int .u64 o.v, .int .i64 o.g, .int .i64 o.i, .int .i64 o.n]
      have k0 : Chg [] w (w.alloc (.cells #[.int .i64 o.what, .bool true, .int .u64 o.a, .int .u64 o.v, .int .i64 o.g, .int .i64 o.i, .int .i64 o.n] 31)) := (Chg.refl [] w).alloc _
      have lg0 : LG (numE .u8) (w.alloc (.cells #[.int .i64 o.what, .bool true, .int .u64 o.a, .int .u64 o.v, .int .i64 o.g, .int .i64 o.i, .int .i64 o.n] 31)) ((w.alloc (.cells #[.int .i64 o.what, .bool true, .int .u64 o.a, .int .u64 o.v, .int .i64 o.g, .int .i64 o.i, .int .i64 o.n] 31)).alloc (.cells #[.int .u8 (o.what + 128)] 5)) 5 (.slice (some ⟨w.heap.size + 1, 0, none⟩) 1 1) [o.what + 128] := ⟨(Chg.refl [] _).alloc _, OwnG.lit (L := [o.what + 128]) (blk_two w _ _ _) (by simp), by simp [Value.ownBlock]⟩
      have B2 := B1.alloc (.cells #[.int .u8 (o.what)] 5)
      have B3 := B1.alloc (.cells #[.int .u8 (o.what + 128)] 5)
      obtain ⟨a0, a1, a2, a3, a4, a5, a6⟩ := blk7 B1
      obtain ⟨b0, b1, b2, b3, b4, b5, b6⟩ := blk7 B2
      obtain ⟨c0, c1, c2, c3, c4, c5, c6⟩ := blk7 B3
      have hgs : w.heap.size < w.heap.size + 1 := by omega
      go_enter Try.func19, Try.ntmps19
      go_wp2_with fail
      generalize (w.alloc (.cells #[.int .i64 o.what, .bool true, .int .u64 o.a, .int .u64 o.v, .int .i64 o.g, .int .i64 o.i, .int .i64 o.n] 31)).alloc (.cells #[.int .u8 (o.what + 128)] 5) = x0 at *
      generalize hw1 : w.alloc (.cells #[.int .i64 o.what, .bool true, .int .u64 o.a, .int .u64 o.v, .int .i64 o.g, .int .i64 o.i, .int .i64 o.n] 31) = wB at *
      clear hw1 B2 hgs B3 c0 c1 c2 c3 c4 c5 c6 a0 a1 a2 a3 a4 a5 a6 b0 b1 b2 b3 b4 b5 b6
      generalize w.heap.size = g0 at *
      skip
      have k1 := k0
      refine (hHA _).mono ?_; rintro e y65 ⟨rfl, rfl⟩
      have D := lg0.1.blk B1 (by simp)
      obtain ⟨d0, d1, d2, d3, d4, d5, d6⟩ := blk7 D
      go_wp2_with fail
      refine (hHG _).mono ?_; rintro e y71 ⟨rfl, rfl⟩
      have D := lg0.1.blk B1 (by simp)
      obtain ⟨d0, d1, d2, d3, d4, d5, d6⟩ := blk7 D
      have hz1 := lg0.new ((Chg.refl [] x0).alloc (.cells #[.int .u8 o.g] 5))
      go_wp2_with (at_builtin; (refine wpList_append_G rfl _ _ 23 rfl 5 (.int .u8 0) 1 Try.underlying23 (by kernel_rfl) rfl (.slice (some ⟨g0 + 1, 0, none⟩) 1 1) ([o.what + 128]) rfl (hz1.2.1) (some ⟨x0.heap.size, 0, none⟩) 1 1 ([o.g]) rfl (OwnG.src (OwnG.lit (L := [o.g]) (Blk.new x0 5 #[.int .u8 o.g]) (by simp))) (rfl) (by (first | (simp; done) | (simp [b8_len]; done))) ?_; intro v1 w1 ho1 hc1 hv1; obtain ⟨A1, c1, rfl, _, _⟩ := ho1.form; have lg1' := hz1.app ho1 hc1 hv1; clear hz1; obtain ⟨n1, hn1⟩ : ∃ n, n = ([o.what + 128] ++ [o.g]).length := ⟨_, rfl⟩; have lg1 := lg1'; rw [← hn1] at lg1 ⊢; have hl1 : n1 ≤ 60 := (by rw [hn1]; simp); replace hn1 := Lib.hid hn1; have E := lg1.1.blk B1 (by simp); clear d0 d1 d2 d3 d4 d5 d6; obtain ⟨d0, d1, d2, d3, d4, d5, d6⟩ := blk7 E))
      refine (hHI _).mono ?_; rintro e y73 ⟨rfl, rfl⟩
      have D := lg1.1.blk B1 (by simp)
      obtain ⟨d0, d1, d2, d3, d4, d5, d6⟩ := blk7 D
      go_wp2_with fail
      refine (hHV _).mono ?_; rintro e y86 ⟨rfl, rfl⟩
      have D := lg1.1.blk B1 (by simp)
      obtain ⟨d0, d1, d2, d3, d4, d5, d6⟩ := blk7 D
      go_wp2_with fail
      refine (hHN _).mono ?_; rintro e y78 ⟨rfl, rfl⟩
      have D := lg1.1.blk B1 (by simp)
      obtain ⟨d0, d1, d2, d3, d4, d5, d6⟩ := blk7 D
      go_wp2_with fail
      go_ret
      have eL : [o.what + 128] ++ [o.g] = oneS o := by unfold oneS; rw [hpA.out, hpG.out, hpI.out, hpV.out, hpN.out, hu]; simp
      rw [← eL]
      refine ⟨A1, c1, by rw [← hn1.out]; rfl, ?_⟩
      rw [← hn1.out]
      exact ⟨k0.trans lg1.1 (by simp), lg1.2.1, fun g hg => Nat.le_trans k0.size (lg1.2.2 g hg)⟩
  · rw [hpA] at hHA
    rw [hpG] at hHG
    rw [hpI] at hHI
    rw [hpV] at hHV
    rw [hpN] at hHN
    replace hpA := Lib.hid hpA
    replace hpG := Lib.hid hpG
    replace hpI := Lib.hid hpI
    replace hpV := Lib.hid hpV
    replace hpN := Lib.hid hpN
    cases hu : o.user
    · simp only [Sop.ar, hu]
      have B1 := Blk.new w 31 #[.int .i64 o.what, .bool false, .int .u64 o.a, .int .u64 o.v, .int .i64 o.g, .int .i64 o.i, .int .i64 o.n]
      have k0 : Chg [] w (w.alloc (.cells #[.int .i64 o.what, .bool false, .int .u64 o.a, .int .u64 o.v, .int .i64 o.g, .int .i64 o.i, .int .i64 o.n] 31)) := (Chg.refl [] w).alloc _
      have lg0 : LG (numE .u8) (w.alloc (.cells #[.int .i64 o.what, .bool false, .int .u64 o.a, .int .u64 o.v, .int .i64 o.g, .int .i64 o.i, .int .i64 o.n] 31)) ((w.alloc (.cells #[.int .i64 o.what, .bool false, .int .u64 o.a, .int .u64 o.v, .int .i64 o.g, .int .i64 o.i, .int .i64 o.n] 31)).alloc (.cells #[.int .u8 (o.what)] 5)) 5 (.slice (some ⟨w.heap.size + 1, 0, none⟩) 1 1) [o.what] := ⟨(Chg.refl [] _).alloc _, OwnG.lit (L := [o.what]) (blk_two w _ _ _) (by simp), by simp [Value.ownBlock]⟩
      have B2 := B1.alloc (.cells #[.int .u8 (o.what)] 5)
      obtain ⟨a0, a1, a2, a3, a4, a5, a6⟩ := blk7 B1
      obtain ⟨b0, b1, b2, b3, b4, b5, b6⟩ := blk7 B2
      have hgs : w.heap.size < w.heap.size + 1 := by omega
      go_enter Try.func19, Try.ntmps19
      go_wp2_with fail
      generalize (w.alloc (.cells #[.int .i64 o.what, .bool false, .int .u64 o.a, .int .u64 o.v, .int .i64 o.g, .int .i64 o.i, .int .i64 o.n] 31)).alloc (.cells #[.int .u8 (o.what)] 5) = x0 at *
      generalize hw1 : w.alloc (.cells #[.int .i64 o.what, .bool false, .int .u64 o.a, .int .u64 o.v, .int .i64 o.g, .int .i64 o.i, .int .i64 o.n] 31) = wB at *
      clear hw1 B2 hgs a0 a1 a2 a3 a4 a5 a6 b0 b1 b2 b3 b4 b5 b6
      generalize w.heap.size = g0 at *
      skip
      have k1 := k0
      refine (hHA _).mono ?_; rintro e y65 ⟨rfl, rfl⟩
      have D := lg0.1.blk B1 (by simp)
      obtain ⟨d0, d1, d2, d3, d4, d5, d6⟩ := blk7 D
      go_wp2_with fail
      refine (hHG _).mono ?_; rintro e y71 ⟨rfl, rfl⟩
      have D := lg0.1.blk B1 (by simp)
      obtain ⟨d0, d1, d2, d3, d4, d5, d6⟩ := blk7 D
      have hz1 := lg0.new ((Chg.refl [] x0).alloc (.cells #[.int .u8 o.g] 5))
      go_wp2_with (at_builtin; (refine wpList_append_G rfl _ _ 23 rfl 5 (.int .u8 0) 1 Try.underlying23 (by kernel_rfl) rfl (.slice (some ⟨g0 + 1, 0, none⟩) 1 1) ([o.what]) rfl (hz1.2.1) (some ⟨x0.heap.size, 0, none⟩) 1 1 ([o.g]) rfl (OwnG.src (OwnG.lit (L := [o.g]) (Blk.new x0 5 #[.int .u8 o.g]) (by simp))) (rfl) (by (first | (simp; done) | (simp [b8_len]; done))) ?_; intro v1 w1 ho1 hc1 hv1; obtain ⟨A1, c1, rfl, _, _⟩ := ho1.form; have lg1' := hz1.app ho1 hc1 hv1; clear hz1; obtain ⟨n1, hn1⟩ : ∃ n, n = ([o.what] ++ [o.g]).length := ⟨_, rfl⟩; have lg1 := lg1'; rw [← hn1] at lg1 ⊢; have hl1 : n1 ≤ 60 := (by rw [hn1]; simp); replace hn1 := Lib.hid hn1; have E := lg1.1.blk B1 (by simp); clear d0 d1 d2 d3 d4 d5 d6; obtain ⟨d0, d1, d2, d3, d4, d5, d6⟩ := blk7 E))
      refine (hHI _).mono ?_; rintro e y73 ⟨rfl, rfl⟩
      have D := lg1.1.blk B1 (by simp)
      obtain ⟨d0, d1, d2, d3, d4, d5, d6⟩ := blk7 D
      have hz2 := lg1.new ((Chg.refl [] w1).alloc (.cells #[.int .u8 o.i] 5))
      go_wp2_with (at_builtin; (refine wpList_append_G rfl _ _ 23 rfl 5 (.int .u8 0) 1 Try.underlying23 (by kernel_rfl) rfl (.slice A1 n1 c1) ([o.what] ++ [o.g]) rfl (hz2.2.1) (some ⟨w1.heap.size, 0, none⟩) 1 1 ([o.i]) rfl (OwnG.src (OwnG.lit (L := [o.i]) (Blk.new w1 5 #[.int .u8 o.i]) (by simp))) (rfl) (by (first | (simp; done) | (simp [b8_len]; done))) ?_; intro v2 w2 ho2 hc2 hv2; obtain ⟨A2, c2, rfl, _, _⟩ := ho2.form; have lg2' := hz2.app ho2 hc2 hv2; clear hz2; obtain ⟨n2, hn2⟩ : ∃ n, n = ([o.what] ++ [o.g] ++ [o.i]).length := ⟨_, rfl⟩; have lg2 := lg2'; rw [← hn2] at lg2 ⊢; have hl2 : n2 ≤ 60 := (by rw [hn2]; simp); replace hn2 := Lib.hid hn2; have E := lg2.1.blk B1 (by simp); clear d0 d1 d2 d3 d4 d5 d6; obtain ⟨d0, d1, d2, d3, d4, d5, d6⟩ := blk7 E))
      refine (hHV _).mono ?_; rintro e y86 ⟨rfl, rfl⟩
      have D := lg2.1.blk B1 (by simp)
      obtain ⟨d0, d1, d2, d3, d4, d5, d6⟩ := blk7 D
      go_wp2_with fail
      refine (REight_any A2 n2 c2 ([o.what] ++ [o.g] ++ [o.i]) o.v hwf.v lg2 (hn2.out.symm) (by omega)).mono ?_; rintro e z3 ⟨A3, c3, rfl, lg3'⟩
      obtain ⟨n3, hn3⟩ : ∃ n, n = ([o.what] ++ [o.g] ++ [o.i] ++ b8 o.v).length := ⟨_, rfl⟩
      have lg3 := lg3'
      rw [← hn3] at lg3 ⊢
      have hl3 : n3 ≤ 60 := by rw [hn3]; simp [b8_len]
      replace hn3 := Lib.hid hn3
      have E := lg3.1.blk B1 (by simp)
      clear d0 d1 d2 d3 d4 d5 d6
      obtain ⟨d0, d1, d2, d3, d4, d5, d6⟩ := blk7 E
      go_wp2_with fail
      refine (hHN _).mono ?_; rintro e y78 ⟨rfl, rfl⟩
      have D := lg3.1.blk B1 (by simp)
      obtain ⟨d0, d1, d2, d3, d4, d5, d6⟩ := blk7 D
      go_wp2_with fail
      go_ret
      have eL : [o.what] ++ [o.g] ++ [o.i] ++ b8 o.v = oneS o := by unfold oneS; rw [hpA.out, hpG.out, hpI.out, hpV.out, hpN.out, hu]; simp
      rw [← eL]
      refine ⟨A3, c3, by rw [← hn3.out]; rfl, ?_⟩
      rw [← hn3.out]
      exact ⟨k0.trans lg3.1 (by simp), lg3.2.1, fun g hg => Nat.le_trans k0.size (lg3.2.2 g hg)⟩
    · simp only [Sop.ar, hu]
      have B1 := Blk.new w 31 #[.int .i64 o.what, .bool true, .int .u64 o.a, .int .u64 o.v, .int .i64 o.g, .int .i64 o.i, .int .i64 o.n]
      have k0 : Chg [] w (w.alloc (.cells #[.int .i64 o.what, .bool true, .int .u64 o.a, .int .u64 o.v, .int .i64 o.g, .int .i64 o.i, .int .i64 o.n] 31)) := (Chg.refl [] w).alloc _
      have lg0 : LG (numE .u8) (w.alloc (.cells #[.int .i64 o.what, .bool true, .int .u64 o.a, .int .u64 o.v, .int .i64 o.g, .int .i64 o.i, .int .i64 o.n] 31)) ((w.alloc (.cells #[.int .i64 o.what, .bool true, .int .u64 o.a, .int .u64 o.v, .int .i64 o.g, .int .i64 o.i, .int .i64 o.n] 31)).alloc (.cells #[.int .u8 (o.what + 128)] 5)) 5 (.slice (some ⟨w.heap.size + 1, 0, none⟩) 1 1) [o.what + 128] := ⟨(Chg.refl [] _).alloc _, OwnG.lit (L := [o.what + 128]) (blk_two w _ _ _) (by simp), by simp [Value.ownBlock]⟩
      have B2 := B1.alloc (.cells #[.int .u8 (o.what)] 5)
      have B3 := B1.alloc (.cells #[.int .u8 (o.what + 128)] 5)
      obtain ⟨a0, a1, a2, a3, a4, a5, a6⟩ := blk7 B1
      obtain ⟨b0, b1, b2, b3, b4, b5, b6⟩ := blk7 B2
      obtain ⟨c0, c1, c2, c3, c4, c5, c6⟩ := blk7 B3
      have hgs : w.heap.size < w.heap.size + 1 := by omega
      go_enter Try.func19, Try.ntmps19
      go_wp2_with fail
      generalize (w.alloc (.cells #[.int .i64 o.what, .bool true, .int .u64 o.a, .int .u64 o.v, .int .i64 o.g, .int .i64 o.i, .int .i64 o.n] 31)).alloc (.cells #[.int .u8 (o.what + 128)] 5) = x0 at *
      generalize hw1 : w.alloc (.cells #[.int .i64 o.what, .bool true, .int .u64 o.a, .int .u64 o.v, .int .i64 o.g, .int .i64 o.i, .int .i64 o.n] 31) = wB at *
      clear hw1 B2 hgs B3 c0 c1 c2 c3 c4 c5 c6 a0 a1 a2 a3 a4 a5 a6 b0 b1 b2 b3 b4 b5 b6
      generalize w.heap.size = g0 at *
      skip
      have k1 := k0
      refine (hHA _).mono ?_; rintro e y65 ⟨rfl, rfl⟩
      have D := lg0.1.blk B1 (by simp)
      obtain ⟨d0, d1, d2, d3, d4, d5, d6⟩ := blk7 D
      go_wp2_with fail
      refine (hHG _).mono ?_; rintro e y71 ⟨rfl, rfl⟩
      have D := lg0.1.blk B1 (by simp)
      obtain ⟨d0, d1, d2, d3, d4, d5, d6⟩ := blk7 D
      have hz1 := lg0.new ((Chg.refl [] x0).alloc (.cells #[.int .u8 o.g] 5))
      go_wp2_with (at_builtin; (refine wpList_append_G rfl _ _ 23 rfl 5 (.int .u8 0) 1 Try.underlying23 (by kernel_rfl) rfl (.slice (some ⟨g0 + 1, 0, none⟩) 1 1) ([o.what + 128]) rfl (hz1.2.1) (some ⟨x0.heap.size, 0, none⟩) 1 1 ([o.g]) rfl (OwnG.src (OwnG.lit (L := [o.g]) (Blk.new x0 5 #[.int .u8 o.g]) (by simp))) (rfl) (by (first | (simp; done) | (simp [b8_len]; done))) ?_; intro v1 w1 ho1 hc1 hv1; obtain ⟨A1, c1, rfl, _, _⟩ := ho1.form; have lg1' := hz1.app ho1 hc1 hv1; clear hz1; obtain ⟨n1, hn1⟩ : ∃ n, n = ([o.what + 128] ++ [o.g]).length := ⟨_, rfl⟩; have lg1 := lg1'; rw [← hn1] at lg1 ⊢; have hl1 : n1 ≤ 60 := (by rw [hn1]; simp); replace hn1 := Lib.hid hn1; have E := lg1.1.blk B1 (by simp); clear d0 d1 d2 d3 d4 d5 d6; obtain ⟨d0, d1, d2, d3, d4, d5, d6⟩ := blk7 E))
      refine (hHI _).mono ?_; rintro e y73 ⟨rfl, rfl⟩
      have D := lg1.1.blk B1 (by simp)
      obtain ⟨d0, d1, d2, d3, d4, d5, d6⟩ := blk7 D
      have hz2 := lg1.new ((Chg.refl [] w1).alloc (.cells #[.int .u8 o.i] 5))
      go_wp2_with (at_builtin; (refine wpList_append_G rfl _ _ 23 rfl 5 (.int .u8 0) 1 Try.underlying23 (by kernel_rfl) rfl (.slice A1 n1 c1) ([o.what + 128] ++ [o.g]) rfl (hz2.2.1) (some ⟨w1.heap.size, 0, none⟩) 1 1 ([o.i]) rfl (OwnG.src (OwnG.lit (L := [o.i]) (Blk.new w1 5 #[.int .u8 o.i]) (by simp))) (rfl) (by (first | (simp; done) | (simp [b8_len]; done))) ?_; intro v2 w2 ho2 hc2 hv2; obtain ⟨A2, c2, rfl, _, _⟩ := ho2.form; have lg2' := hz2.app ho2 hc2 hv2; clear hz2; obtain ⟨n2, hn2⟩ : ∃ n, n = ([o.what + 128] ++ [o.g] ++ [o.i]).length := ⟨_, rfl⟩; have lg2 := lg2'; rw [← hn2] at lg2 ⊢; have hl2 : n2 ≤ 60 := (by rw [hn2]; simp); replace hn2 := Lib.hid hn2; have E := lg2.1.blk B1 (by simp); clear d0 d1 d2 d3 d4 d5 d6; obtain ⟨d0, d1, d2, d3, d4, d5, d6⟩ := blk7 E))
      refine (hHV _).mono ?_; rintro e y86 ⟨rfl, rfl⟩
      have D := lg2.1.blk B1 (by simp)
      obtain ⟨d0, d1, d2, d3, d4, d5, d6⟩ := blk7 D
      go_wp2_with fail
      refine (REight_any A2 n2 c2 ([o.what + 128] ++ [o.g] ++ [o.i]) o.v hwf.v lg2 (hn2.out.symm) (by omega)).mono ?_; rintro e z3 ⟨A3, c3, rfl, lg3'⟩
      obtain ⟨n3, hn3⟩ : ∃ n, n = ([o.what + 128] ++ [o.g] ++ [o.i] ++ b8 o.v).length := ⟨_, rfl⟩
      have lg3 := lg3'
      rw [← hn3] at lg3 ⊢
      have hl3 : n3 ≤ 60 := by rw [hn3]; simp [b8_len]
      replace hn3 := Lib.hid hn3
      have E := lg3.1.blk B1 (by simp)
      clear d0 d1 d2 d3 d4 d5 d6
      obtain ⟨d0, d1, d2, d3, d4, d5, d6⟩ := blk7 E
      go_wp2_with fail
      refine (hHN _).mono ?_; rintro e y78 ⟨rfl, rfl⟩
      have D := lg3.1.blk B1 (by simp)
      obtain ⟨d0, d1, d2, d3, d4, d5, d6⟩ := blk7 D
      go_wp2_with fail
      go_ret
      have eL : [o.what + 128] ++ [o.g] ++ [o.i] ++ b8 o.v = oneS o := by unfold oneS; rw [hpA.out, hpG.out, hpI.out, hpV.out, hpN.out, hu]; simp
      rw [← eL]
      refine ⟨A3, c3, by rw [← hn3.out]; rfl, ?_⟩
      rw [← hn3.out]
      exact ⟨k0.trans lg3.1 (by simp), lg3.2.1, fun g hg => Nat.le_trans k0.size (lg3.2.2 g hg)⟩
  · rw [hpA] at hHA
    rw [hpG] at hHG
    rw [hpI] at hHI
    rw [hpV] at hHV
    rw [hpN] at hHN
    replace hpA := Lib.hid hpA
    replace hpG := Lib.hid hpG
    replace hpI := Lib.hid hpI
    replace hpV := Lib.hid hpV
    replace hpN := Lib.hid hpN
    cases hu : o.user
    · simp only [Sop.ar, hu]
      have B1 := Blk.new w 31 #[.int .i64 o.what, .bool false, .int .u64 o.a, .int .u64 o.v, .int .i64 o.g, .int .i64 o.i, .int .i64 o.n]
      have k0 : Chg [] w (w.alloc (.cells #[.int .i64 o.what, .bool false, .int .u64 o.a, .int .u64 o.v, .int .i64 o.g, .int .i64 o.i, .int .i64 o.n] 31)) := (Chg.refl [] w).alloc _
      have lg0 : LG (numE .u8) (w.alloc (.cells #[.int .i64 o.what, .bool false, .int .u64 o.a, .int .u64 o.v, .int .i64 o.g, .int .i64 o.i, .int .i64 o.n] 31)) ((w.alloc (.cells #[.int .i64 o.what, .bool false, .int .u64 o.a, .int .u64 o.v, .int .i64 o.g, .int .i64 o.i, .int .i64 o.n] 31)).alloc (.cells #[.int .u8 (o.what)] 5)) 5 (.slice (some ⟨w.heap.size + 1, 0, none⟩) 1 1) [o.what] := ⟨(Chg.refl [] _).alloc _, OwnG.lit (L := [o.what]) (blk_two w _ _ _) (by simp), by simp [Value.ownBlock]⟩
      have B2 := B1.alloc (.cells #[.int .u8 (o.what)] 5)
      obtain ⟨a0, a1, a2, a3, a4, a5, a6⟩ := blk7 B1
      obtain ⟨b0, b1, b2, b3, b4, b5, b6⟩ := blk7 B2
      have hgs : w.heap.size < w.heap.size + 1 := by omega
      go_enter Try.func19, Try.ntmps19
      go_wp2_with fail
      generalize (w.alloc (.cells #[.int .i64 o.what, .bool false, .int .u64 o.a, .int .u64 o.v, .int .i64 o.g, .int .i64 o.i, .int .i64 o.n] 31)).alloc (.cells #[.int .u8 (o.what)] 5) = x0 at *
      generalize hw1 : w.alloc (.cells #[.int .i64 o.what, .bool false, .int .u64 o.a, .int .u64 o.v, .int .i64 o.g, .int .i64 o.i, .int .i64 o.n] 31) = wB at *
      clear hw1 B2 hgs a0 a1 a2 a3 a4 a5 a6 b0 b1 b2 b3 b4 b5 b6
      generalize w.heap.size = g0 at *
      skip
      have k1 := k0
      refine (hHA _).mono ?_; rintro e y65 ⟨rfl, rfl⟩
      have D := lg0.1.blk B1 (by simp)
      obtain ⟨d0, d1, d2, d3, d4, d5, d6⟩ := blk7 D
      go_wp2_with fail
      refine (hHG _).mono ?_; rintro e y71 ⟨rfl, rfl⟩
      have D := lg0.1.blk B1 (by simp)
      obtain ⟨d0, d1, d2, d3, d4, d5, d6⟩ := blk7 D
      go_wp2_with fail
      refine (hHI _).mono ?_; rintro e y73 ⟨rfl, rfl⟩
      have D := lg0.1.blk B1 (by simp)
      obtain ⟨d0, d1, d2, d3, d4, d5, d6⟩ := blk7 D
      go_wp2_with fail
      refine (hHV _).mono ?_; rintro e y86 ⟨rfl, rfl⟩
      have D := lg0.1.blk B1 (by simp)
      obtain ⟨d0, d1, d2, d3, d4, d5, d6⟩ := blk7 D
      go_wp2_with fail
      refine (hHN _).mono ?_; rintro e y78 ⟨rfl, rfl⟩
      have D := lg0.1.blk B1 (by simp)
      obtain ⟨d0, d1, d2, d3, d4, d5, d6⟩ := blk7 D
      have hz1 := lg0.new ((Chg.refl [] x0).alloc (.cells #[.int .u8 o.n] 5))
      go_wp2_with (at_builtin; (refine wpList_append_G rfl _ _ 23 rfl 5 (.int .u8 0) 1 Try.underlying23 (by kernel_rfl) rfl (.slice (some ⟨g0 + 1, 0, none⟩) 1 1) ([o.what]) rfl (hz1.2.1) (some ⟨x0.heap.size, 0, none⟩) 1 1 ([o.n]) rfl (OwnG.src (OwnG.lit (L := [o.n]) (Blk.new x0 5 #[.int .u8 o.n]) (by simp))) (rfl) (by (first | (simp; done) | (simp [b8_len]; done))) ?_; intro v1 w1 ho1 hc1 hv1; obtain ⟨A1, c1, rfl, _, _⟩ := ho1.form; have lg1' := hz1.app ho1 hc1 hv1; clear hz1; obtain ⟨n1, hn1⟩ : ∃ n, n = ([o.what] ++ [o.n]).length := ⟨_, rfl⟩; have lg1 := lg1'; rw [← hn1] at lg1 ⊢; have hl1 : n1 ≤ 60 := (by rw [hn1]; simp); replace hn1 := Lib.hid hn1; have E := lg1.1.blk B1 (by simp); clear d0 d1 d2 d3 d4 d5 d6; obtain ⟨d0, d1, d2, d3, d4, d5, d6⟩ := blk7 E))
      go_ret
      have eL : [o.what] ++ [o.n] = oneS o := by unfold oneS; rw [hpA.out, hpG.out, hpI.out, hpV.out, hpN.out, hu]; simp
      rw [← eL]
      refine ⟨A1, c1, by rw [← hn1.out]; rfl, ?_⟩
      rw [← hn1.out]
      exact ⟨k0.trans lg1.1 (by simp), lg1.2.1, fun g hg => Nat.le_trans k0.size (lg1.2.2 g hg)⟩
    · simp only [Sop.ar, hu]
      have B1 := Blk.new w 31 #[.int .i64 o.what, .bool true, .int .u64 o.a, .int .u64 o.v, .int .i64 o.g, .int .i64 o.i, .int .i64 o.n]
      have k0 : Chg [] w (w.alloc (.cells #[.int .i64 o.what, .bool true, .int .u64 o.a, .int .u64 o.v, .int .i64 o.g, .int .i64 o.i, .int .i64 o.n] 31)) := (Chg.refl [] w).alloc _
      have lg0 : LG (numE .u8) (w.alloc (.cells #[.int .i64 o.what, .bool true, .int .u64 o.a, .int .u64 o.v, .int .i64 o.g, .int .i64 o.i, .int .i64 o.n] 31)) ((w.alloc (.cells #[.int .i64 o.what, .bool true, .int .u64 o.a, .int .u64 o.v, .int .i64 o.g, .int .i64 o.i, .int .i64 o.n] 31)).alloc (.cells #[.int .u8 (o.what + 128)] 5)) 5 (.slice (some ⟨w.heap.size + 1, 0, none⟩) 1 1) [o.what + 128] := ⟨(Chg.refl [] _).alloc _, OwnG.lit (L := [o.what + 128]) (blk_two w _ _ _) (by simp), by simp [Value.ownBlock]⟩
      have B2 := B1.alloc (.cells #[.int .u8 (o.what)] 5)
      have B3 := B1.alloc (.cells #[.int .u8 (o.what + 128)] 5)
      obtain ⟨a0, a1, a2, a3, a4, a5, a6⟩ := blk7 B1
      obtain ⟨b0, b1, b2, b3, b4, b5, b6⟩ := blk7 B2
      obtain ⟨c0, c1, c2, c3, c4, c5, c6⟩ := blk7 B3
      have hgs : w.heap.size < w.heap.size + 1 := by omega
      go_enter Try.func19, Try.ntmps19
      go_wp2_with fail
      generalize (w.alloc (.cells #[.int .i64 o.what, .bool true, .int .u64 o.a, .int .u64 o.v, .int .i64 o.g, .int .i64 o.i, .int .i64 o.n] 31)).alloc (.cells #[.int .u8 (o.what + 128)] 5) = x0 at *
      generalize hw1 : w.alloc (.cells #[.int .i64 o.what, .bool true, .int .u64 o.a, .int .u64 o.v, .int .i64 o.g, .int .i64 o.i, .int .i64 o.n] 31) = wB at *
      clear hw1 B2 hgs B3 c0 c1 c2 c3 c4 c5 c6 a0 a1 a2 a3 a4 a5 a6 b0 b1 b2 b3 b4 b5 b6
      generalize w.heap.size = g0 at *
      skip
      have k1 := k0
      refine (hHA _).mono ?_; rintro e y65 ⟨rfl, rfl⟩
      have D := lg0.1.blk B1 (by simp)
      obtain ⟨d0, d1, d2, d3, d4, d5, d6⟩ := blk7 D
      go_wp2_with fail
      refine (hHG _).mono ?_; rintro e y71 ⟨rfl, rfl⟩
      have D := lg0.1.blk B1 (by simp)
      obtain ⟨d0, d1, d2, d3, d4, d5, d6⟩ := blk7 D
      go_wp2_with fail
      refine (hHI _).mono ?_; rintro e y73 ⟨rfl, rfl⟩
      have D := lg0.1.blk B1 (by simp)
      obtain ⟨d0, d1, d2, d3, d4, d5, d6⟩ := blk7 D
      go_wp2_with fail
      refine (hHV _).mono ?_; rintro e y86 ⟨rfl, rfl⟩
      have D := lg0.1.blk B1 (by simp)
      obtain ⟨d0, d1, d2, d3, d4, d5, d6⟩ := blk7 D
      go_wp2_with fail
      refine (hHN _).mono ?_; rintro e y78 ⟨rfl, rfl⟩
      have D := lg0.1.blk B1 (by simp)
      obtain ⟨d0, d1, d2, d3, d4, d5, d6⟩ := blk7 D
      have hz1 := lg0.new ((Chg.refl [] x0).alloc (.cells #[.int .u8 o.n] 5))
      go_wp2_with (at_builtin; (refine wpList_append_G rfl _ _ 23 rfl 5 (.int .u8 0) 1 Try.underlying23 (by kernel_rfl) rfl (.slice (some ⟨g0 + 1, 0, none⟩) 1 1) ([o.what + 128]) rfl (hz1.2.1) (some ⟨x0.heap.size, 0, none⟩) 1 1 ([o.n]) rfl (OwnG.src (OwnG.lit (L := [o.n]) (Blk.new x0 5 #[.int .u8 o.n]) (by simp))) (rfl) (by (first | (simp; done) | (simp [b8_len]; done))) ?_; intro v1 w1 ho1 hc1 hv1; obtain ⟨A1, c1, rfl, _, _⟩ := ho1.form; have lg1' := hz1.app ho1 hc1 hv1; clear hz1; obtain ⟨n1, hn1⟩ : ∃ n, n = ([o.what + 128] ++ [o.n]).length := ⟨_, rfl⟩; have lg1 := lg1'; rw [← hn1] at lg1 ⊢; have hl1 : n1 ≤ 60 := (by rw [hn1]; simp); replace hn1 := Lib.hid hn1; have E := lg1.1.blk B1 (by simp); clear d0 d1 d2 d3 d4 d5 d6; obtain ⟨d0, d1, d2, d3, d4, d5, d6⟩ := blk7 E))
      go_ret
      have eL : [o.what + 128] ++ [o.n] = oneS o := by unfold oneS; rw [hpA.out, hpG.out, hpI.out, hpV.out, hpN.out, hu]; simp
      rw [← eL]
      refine ⟨A1, c1, by rw [← hn1.out]; rfl, ?_⟩
      rw [← hn1.out]
      exact ⟨k0.trans lg1.1 (by simp), lg1.2.1, fun g hg => Nat.le_trans k0.size (lg1.2.2 g hg)⟩

set_option maxRecDepth 100000 in
set_option maxHeartbeats 8000000 in
theorem RPut_any (A : Option Addr) (nn c : Nat) (l : List Sop) (w : World) (hs : SlG opE w A nn l) (hwf : ∀ o ∈ l, o.Wf) (hb : nn ≤ 1000000) :
    Calls Try.prog 16 #[.slice A nn c] w fun e w' => ∃ A' c', e = .returned (.slice A' (putS l).length c') ∧ LG (numE .u8) w w' 5 (.slice A' (putS l).length c') (putS l) := by
  have hll := Lib.hid hs.len
  go_enter Try.func16, Try.ntmps16
  go_wp2_with fail
  go_loopg [3, 4] nn (fun gg s3 s4 wr => ∃ (k : Nat) (A' : Option Addr) (m' c' : Nat) (M : List Int), k ≤ nn ∧ nn - k ≤ gg ∧ s3 = .slice A' m' c' ∧ s4 = .int .i64 k ∧ Aside (m' = M.length) ∧ Aside (M = (l.take k).flatMap oneS) ∧ Aside (LG (numE .u8) w wr 5 (.slice A' m' c') M) ∧ Aside ((l.take k).all rightS = true))
  case atStart => exact ⟨0, none, 0, 0, [], by omega, by omega, rfl, rfl, rfl, rfl, LG.none_ w _, rfl⟩
  case round =>
    obtain ⟨k, A', m', c', M, hk, hg, rfl, rfl, hm, hM, lg, hall⟩ := hrel
    replace lg := lg.out
    by_cases hlt : k < nn
    · obtain ⟨bl, off, o, rfl, hbl, hx, c0, c1, c2, c3, c4, c5, c6⟩ := SlS.get (hs.new lg.1) hlt
      have hR := fun w9 => RRight_any o w9
      have ho := hwf o (List.mem_of_getElem? hx)
      have hbad := fun h => putS_not hx h
      have hfl := flat_succ hx
      have hal := allr_succ hx
      have hMle : M.length ≤ 20000000 := by have h := flat_le (l.take k); rw [← hM.out] at h; rw [List.length_take] at h; omega
      have hol := oneS_le o
      have hP := fun (h : rightS o = true) w9 => ROne_any o ho (right_smallS h) (right_bound h).1 (right_bound h).2.1 w9
      replace hm := Lib.hid hm.out
      replace hfl := Lib.hid hfl
      clear hx ho
      simp only [Sop.ar] at hR hP
      generalize rightS o = ro at *
      cases ro with
      | false =>
        replace hbad := Lib.hid (hbad rfl)
        clear hal hfl hP hol
        go_wp2_with fail
        refine (hR _).mono ?_; rintro e w2 ⟨rfl, k2⟩
        go_wp2_with fail
        go_ret
        rw [hbad.out]
        exact ⟨none, 0, rfl, lg.1.trans k2 (by simp), OwnG.none_ _ _, by simp [Value.ownBlock]⟩
      | true =>
        replace hP := hP rfl
        replace hal : Hid ((l.take (k + 1)).all rightS = true) := Lib.hid (by rw [hal, hall.out]; rfl)
        clear hbad
        go_wp2_with fail
        refine (hR _).mono ?_; rintro e w2 ⟨rfl, k2⟩
        have lg2 := lg.new k2
        have d0 := (k2.cell (p := ⟨bl, off + k * 7, none⟩) hbl (by simp)).trans c0
        have d1 := (k2.cell (p := ⟨bl, off + k * 7 + 1, none⟩) hbl (by simp)).trans c1
        have d2 := (k2.cell (p := ⟨bl, off + k * 7 + 2, none⟩) hbl (by simp)).trans c2
        have d3 := (k2.cell (p := ⟨bl, off + k * 7 + 3, none⟩) hbl (by simp)).trans c3
        have d4 := (k2.cell (p := ⟨bl, off + k * 7 + 4, none⟩) hbl (by simp)).trans c4
        have d5 := (k2.cell (p := ⟨bl, off + k * 7 + 5, none⟩) hbl (by simp)).trans c5
        have d6 := (k2.cell (p := ⟨bl, off + k * 7 + 6, none⟩) hbl (by simp)).trans c6
        clear c0 c1 c2 c3 c4 c5 c6 hR lg k2
        go_wp2_with fail
        refine (hP _).mono ?_; rintro e w3 ⟨A3, c3, rfl, lg3⟩
        clear hP d0 d1 d2 d3 d4 d5 d6
        replace lg2 := lg2.new lg3.1
        obtain ⟨q3, hq3⟩ : ∃ q3, q3 = (oneS o).length := ⟨_, rfl⟩
        rw [← hq3] at lg3 hol ⊢
        replace hq3 := Lib.hid hq3
        go_wp2_with (at_builtin; refine wpList_append_G rfl _ _ 23 rfl 5 (.int .u8 0) 1 Try.underlying23 (by kernel_rfl) rfl (.slice A' m' c') (M) rfl (lg2.2.1) (A3) q3 c3 (oneS o) rfl (lg3.2.1.slg.src lg3.2.1.nil_) (hq3.out.symm) (by omega) ?_; intro v5 w5 ho5 hc5 hv5; obtain ⟨A5, c5, rfl, _, _⟩ := ho5.form; have lg5 := lg2.app ho5 hc5 hv5; clear lg2 lg3 ho5 hc5 hv5; obtain ⟨m3, hm3⟩ : ∃ m3, m3 = (M ++ oneS o).length := ⟨_, rfl⟩; rw [← hm3] at lg5 ⊢; replace hm3 := Lib.hid hm3)
        go_roundg (nn - (k + 1))
        case measure => omega
        case rel => exact ⟨k + 1, A5, m3, c5, M ++ oneS o, by omega, by omega, rfl, by go_num, hm3.out, (by show _ = _; rw [hfl.out, hM.out]), lg5, hal.out⟩
    · obtain rfl : k = nn := by omega
      rw [show l.take k = l from by rw [← hll.out, List.take_length]] at *
      have e : putS l = M := by unfold putS; rw [if_pos hall.out]; exact hM.out.symm
      clear hM
      replace hm := Lib.hid hm.out
      go_wp2_with fail
      go_ret
      rw [e]
      exact ⟨A', c', by rw [hm.out]; rfl, lg.len_ hm.out⟩

end Go.Proofs.Ytdmcicgappgiiaa
