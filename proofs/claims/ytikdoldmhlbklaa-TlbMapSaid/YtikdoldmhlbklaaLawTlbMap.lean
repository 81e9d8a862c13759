/-
  TlbMap: the walk.
-/
import Derived.Test.YtikdoldmhlbklaaTlbO
namespace Go.Proofs.Ytikdoldmhlbklaa
open Go.RowKit Go.Shelf

theorem cells9 {w : World} {g : Nat} {t : TypeId} {x0 x1 x2 x3 x4 x5 x6 x7 x8 : Value} (h : Blk w g t #[x0, x1, x2, x3, x4, x5, x6, x7, x8]) :
    w.cell? ⟨g, 0, none⟩ = some x0 ∧ w.cell? ⟨g, 1, none⟩ = some x1 ∧ w.cell? ⟨g, 2, none⟩ = some x2 ∧ w.cell? ⟨g, 3, none⟩ = some x3 ∧ w.cell? ⟨g, 4, none⟩ = some x4 ∧ w.cell? ⟨g, 5, none⟩ = some x5 ∧ w.cell? ⟨g, 6, none⟩ = some x6 ∧ w.cell? ⟨g, 7, none⟩ = some x7 ∧ w.cell? ⟨g, 8, none⟩ = some x8 :=
  ⟨h.cell 0, h.cell 1, h.cell 2, h.cell 3, h.cell 4, h.cell 5, h.cell 6, h.cell 7, h.cell 8⟩

set_option maxRecDepth 100000 in
set_option maxHeartbeats 40000000 in
theorem TlbMap_walk (A : Option Addr) (len c : Nat) (asid page : Int) (w0 : World) (hl : SlO w0 A len) :
    Calls Try.prog 4 #[.slice A len c, .int .i64 asid, .int .i64 page] w0 fun e w' => e = .returned (.bool true) ∧ Chg [] w0 w' := by
  have hle := hl.le
  by_cases hbig : 300 < len
  · go_enter Try.func4, Try.ntmps4
    go_wp2_with fail
    refine (Thead_any _).mono ?_; rintro e w1 ⟨rfl, hc1⟩
    go_wp2_with fail
    refine (TNew_b w0 512 _ (by decide) (by decide) hc1).mono ?_; rintro e w2 ⟨rfl, h2, _⟩
    go_wp2_with fail
    go_ret
    exact ⟨rfl, h2.chg0⟩
  · go_enter Try.func4, Try.ntmps4
    go_wp2_with fail
    refine (Thead_any _).mono ?_; rintro e w1 ⟨rfl, hc1⟩
    go_wp2_with fail
    refine (TNew_b w0 512 _ (by decide) (by decide) hc1).mono ?_; rintro e w2 ⟨rfl, h2, _⟩
    generalize w1.heap.size = p at *
    clear hc1
    go_wp2_with fail
    have hcz := (Chg.refl [] w2).alloc (.cells #[.int .i64 0, .int .i64 0, .int .i64 0, .bool false, .bool false, .bool false, .bool false] 31)
    have hbz := BlkH.new w2 Ht.zero
    simp only [Ht.zero] at hbz
    have h2z := h2.more (G := [w2.heap.size]) hcz (by intro i hi; simp at hi; subst hi; simp)
    simp only [List.append_nil] at h2z
    have hwb0 : w0.heap.size ≤ w2.heap.size := h2.chg0.size
    clear h2 hcz
    generalize w2.heap.size = wb at *
    generalize w2.alloc (.cells #[.int .i64 0, .int .i64 0, .int .i64 0, .bool false, .bool false, .bool false, .bool false] 31) = w3 at *
    go_loopg [10, 11] len (fun gg s10 s11 wr => ∃ (k : Nat) (L : List Ht) (t : Bool) (wn : Ht), k ≤ len ∧ len - k ≤ gg ∧ s11 = .int .i64 k ∧ s10 = .bool t ∧ Aside (TB w0 [wb] wr p 512 L) ∧ Aside (BlkH wr wb wn) ∧ Aside (L.length ≤ k) ∧ Aside (Tells L asid page t wn))
    case atStart => exact ⟨0, [], false, Ht.zero, by omega, by omega, rfl, rfl, h2z, hbz, Nat.zero_le _, Tells.nil _ _ _⟩
    case round =>
      obtain ⟨k, L, t, wn, hk, hg, rfl, rfl, HT, HW, HLE, HTL⟩ := hrel
      clear h2z hbz
      by_cases hlt : k < len
      · have hltz : (k : Int) < (len : Int) := by omega
        obtain ⟨b, off, x, rfl, hb, hop⟩ := (hl.new HT.out.chg0).get hlt
        obtain ⟨what, ⟨ha, hp, hf, hw, hu, hx, hd⟩, nn⟩ := x
        obtain ⟨c0, c1, c2, c3, c4, c5, c6, c7, c8, hwf⟩ := hop
        simp only at c0 c1 c2 c3 c4 c5 c6 c7 c8 hwf
        have hco := (Chg.refl [] wr).alloc (.cells #[.int .i64 what, .int .i64 ha, .int .i64 hp, .int .i64 hf, .bool hw, .bool hu, .bool hx, .bool hd, .int .i64 nn] 33)
        have hT1 := HT.out.more (G := [wr.heap.size]) hco (by intro i hi; simp at hi; subst hi; simp)
        have hW1 := HW.out.chg hco (by simp)
        have hob := Blk.new wr 33 #[.int .i64 what, .int .i64 ha, .int .i64 hp, .int .i64 hf, .bool hw, .bool hu, .bool hx, .bool hd, .int .i64 nn]
        obtain ⟨o0, o1, o2, o3, o4, o5, o6, o7, o8⟩ := cells9 hob
        have hL300 : L.length < 512 := Nat.lt_of_le_of_lt HLE.out (by omega)
        have HL300 := Lib.hid hL300
        clear hL300 hco
        by_cases hw3 : what = 3
        · subst hw3
          as_aux_lemma =>
            by_cases ha1 : asid = ha
            · subst ha1
              by_cases hp1 : page = hp
              · subst hp1
                cases t with
                | true =>
                  have HV : Hid (Tells (dropT L asid page) asid page false wn) := HTL.out.drop_mine wn
                  have HN : Hid ((dropT L asid page).length ≤ k + 1) := Nat.le_trans (dropT_len _ _ _) (Nat.le_succ_of_le HLE.out)
                  have hD := TDrop_b asid page hT1
                  rw [HTL.out.1] at hD
                  go_wp2_with fail
                  refine hD.mono ?_; rintro e w3 ⟨rfl, h3, hf3⟩
                  have hob3 := hf3.blk hob (by simp)
                  have hW3 := hf3.blkH hW1 (by simp)
                  clear o0 o1 o2 o3 o4 o5 o6 o7 o8 hob hT1 hD hW1 hf3
                  obtain ⟨o0, o1, o2, o3, o4, o5, o6, o7, o8⟩ := cells9 hob3
                  go_wp2_with fail
                  have hg := TGet_b asid page h3
                  rw [HV.out.1, HV.out.get] at hg
                  simp only [Ht.v, Bool.false_eq_true, if_false, Ht.zero] at hg
                  refine hg.mono ?_; rintro e w4 ⟨rfl, h4, hc4⟩
                  have hW4 := hW3.chg hc4 (by simp)
                  clear hg
                  have hq := fun w => run_neH Ht.zero Ht.zero w
                  simp only [Ht.v, Ht.zero, Ht.eqb, beq_self_eq_true, Bool.and_self, Bool.not_true] at hq
                  clear o0 o1 o2 o3 o4 o5 o6 o7 o8
                  go_wp2_with fail
                  go_roundg (len - (k + 1))
                  case measure => omega
                  case rel => exact ⟨k + 1, dropT L asid page, false, wn, by omega, by omega, by go_num, rfl, (h4.new ((Chg.refl [] w4).alloc (.cells #[.int .i64 0, .int .i64 0, .int .i64 0, .bool false, .bool false, .bool false, .bool false] 31))).less (by simp), hW4.chg ((Chg.refl [] w4).alloc (.cells #[.int .i64 0, .int .i64 0, .int .i64 0, .bool false, .bool false, .bool false, .bool false] 31)) (by simp), HN.out, HV.out⟩
                | false =>
                  have HV : Hid (Tells (dropT L asid page) asid page false wn) := HTL.out.drop_mine wn
                  have HN : Hid ((dropT L asid page).length ≤ k + 1) := Nat.le_trans (dropT_len _ _ _) (Nat.le_succ_of_le HLE.out)
                  have hD := TDrop_b asid page hT1
                  rw [HTL.out.1] at hD
                  go_wp2_with fail
                  refine hD.mono ?_; rintro e w3 ⟨rfl, h3, hf3⟩
                  have hob3 := hf3.blk hob (by simp)
                  have hW3 := hf3.blkH hW1 (by simp)
                  clear o0 o1 o2 o3 o4 o5 o6 o7 o8 hob hT1 hD hW1 hf3
                  obtain ⟨o0, o1, o2, o3, o4, o5, o6, o7, o8⟩ := cells9 hob3
                  go_wp2_with fail
                  have hg := TGet_b asid page h3
                  rw [HV.out.1, HV.out.get] at hg
                  simp only [Ht.v, Bool.false_eq_true, if_false, Ht.zero] at hg
                  refine hg.mono ?_; rintro e w4 ⟨rfl, h4, hc4⟩
                  have hW4 := hW3.chg hc4 (by simp)
                  clear hg
                  have hq := fun w => run_neH Ht.zero Ht.zero w
                  simp only [Ht.v, Ht.zero, Ht.eqb, beq_self_eq_true, Bool.and_self, Bool.not_true] at hq
                  clear o0 o1 o2 o3 o4 o5 o6 o7 o8
                  go_wp2_with fail
                  go_roundg (len - (k + 1))
                  case measure => omega
                  case rel => exact ⟨k + 1, dropT L asid page, false, wn, by omega, by omega, by go_num, rfl, (h4.new ((Chg.refl [] w4).alloc (.cells #[.int .i64 0, .int .i64 0, .int .i64 0, .bool false, .bool false, .bool false, .bool false] 31))).less (by simp), hW4.chg ((Chg.refl [] w4).alloc (.cells #[.int .i64 0, .int .i64 0, .int .i64 0, .bool false, .bool false, .bool false, .bool false] 31)) (by simp), HN.out, HV.out⟩
              · have e2 : (hp == page) = false := by simp; exact fun e => hp1 e.symm
                have HM : Hid (¬ (asid = asid ∧ hp = page)) := fun e => hp1 e.2.symm
                clear hp1
                cases t with
                | true =>
                  have HV : Hid (Tells (dropT L asid hp) asid page true wn) := HTL.out.drop_other HM.out
                  have HN : Hid ((dropT L asid hp).length ≤ k + 1) := Nat.le_trans (dropT_len _ _ _) (Nat.le_succ_of_le HLE.out)
                  have hD := TDrop_b asid hp hT1
                  generalize hasT L asid hp = an at hD
                  cases an with
                  | true =>
                    go_wp2_with fail
                    refine hD.mono ?_; rintro e w3 ⟨rfl, h3, hf3⟩
                    have hob3 := hf3.blk hob (by simp)
                    have hW3 := hf3.blkH hW1 (by simp)
                    clear o0 o1 o2 o3 o4 o5 o6 o7 o8 hob hT1 hD hW1 hf3
                    obtain ⟨o0, o1, o2, o3, o4, o5, o6, o7, o8⟩ := cells9 hob3
                    go_wp2_with fail
                    have hg := TGet_b asid page h3
                    rw [HV.out.1, HV.out.get] at hg
                    simp only [Ht.v, if_true] at hg
                    refine hg.mono ?_; rintro e w4 ⟨rfl, h4, hc4⟩
                    have hW4 := hW3.chg hc4 (by simp)
                    clear hg
                    have hW5 := hW4.chg ((Chg.refl [] w4).alloc (.cells #[.int .i64 wn.a, .int .i64 wn.p, .int .i64 wn.f, .bool wn.w, .bool wn.u, .bool wn.x, .bool wn.d] 31)) (by simp)
                    obtain ⟨v0, v1, v2, v3, v4, v5, v6⟩ := hW5.cells
                    have hq := fun w => run_neH wn wn w
                    simp only [Ht.v, Ht.eqb_self, Bool.not_true] at hq
                    clear o0 o1 o2 o3 o4 o5 o6 o7 o8
                    go_wp2_with fail
                    go_roundg (len - (k + 1))
                    case measure => omega
                    case rel => exact ⟨k + 1, dropT L asid hp, true, wn, by omega, by omega, by go_num, rfl, (h4.new ((Chg.refl [] w4).alloc (.cells #[.int .i64 wn.a, .int .i64 wn.p, .int .i64 wn.f, .bool wn.w, .bool wn.u, .bool wn.x, .bool wn.d] 31))).less (by simp), hW4.chg ((Chg.refl [] w4).alloc (.cells #[.int .i64 wn.a, .int .i64 wn.p, .int .i64 wn.f, .bool wn.w, .bool wn.u, .bool wn.x, .bool wn.d] 31)) (by simp), HN.out, HV.out⟩
                  | false =>
                    go_wp2_with fail
                    refine hD.mono ?_; rintro e w3 ⟨rfl, h3, hf3⟩
                    have hob3 := hf3.blk hob (by simp)
                    have hW3 := hf3.blkH hW1 (by simp)
                    clear o0 o1 o2 o3 o4 o5 o6 o7 o8 hob hT1 hD hW1 hf3
                    obtain ⟨o0, o1, o2, o3, o4, o5, o6, o7, o8⟩ := cells9 hob3
                    go_wp2_with fail
                    have hg := TGet_b asid page h3
                    rw [HV.out.1, HV.out.get] at hg
                    simp only [Ht.v, if_true] at hg
                    refine hg.mono ?_; rintro e w4 ⟨rfl, h4, hc4⟩
                    have hW4 := hW3.chg hc4 (by simp)
                    clear hg
                    have hW5 := hW4.chg ((Chg.refl [] w4).alloc (.cells #[.int .i64 wn.a, .int .i64 wn.p, .int .i64 wn.f, .bool wn.w, .bool wn.u, .bool wn.x, .bool wn.d] 31)) (by simp)
                    obtain ⟨v0, v1, v2, v3, v4, v5, v6⟩ := hW5.cells
                    have hq := fun w => run_neH wn wn w
                    simp only [Ht.v, Ht.eqb_self, Bool.not_true] at hq
                    clear o0 o1 o2 o3 o4 o5 o6 o7 o8
                    go_wp2_with fail
                    go_roundg (len - (k + 1))
                    case measure => omega
                    case rel => exact ⟨k + 1, dropT L asid hp, true, wn, by omega, by omega, by go_num, rfl, (h4.new ((Chg.refl [] w4).alloc (.cells #[.int .i64 wn.a, .int .i64 wn.p, .int .i64 wn.f, .bool wn.w, .bool wn.u, .bool wn.x, .bool wn.d] 31))).less (by simp), hW4.chg ((Chg.refl [] w4).alloc (.cells #[.int .i64 wn.a, .int .i64 wn.p, .int .i64 wn.f, .bool wn.w, .bool wn.u, .bool wn.x, .bool wn.d] 31)) (by simp), HN.out, HV.out⟩
                | false =>
                  have HV : Hid (Tells (dropT L asid hp) asid page false wn) := HTL.out.drop_other HM.out
                  have HN : Hid ((dropT L asid hp).length ≤ k + 1) := Nat.le_trans (dropT_len _ _ _) (Nat.le_succ_of_le HLE.out)
                  have hD := TDrop_b asid hp hT1
                  generalize hasT L asid hp = an at hD
                  cases an with
                  | true =>
                    go_wp2_with fail
                    refine hD.mono ?_; rintro e w3 ⟨rfl, h3, hf3⟩
                    have hob3 := hf3.blk hob (by simp)
                    have hW3 := hf3.blkH hW1 (by simp)
                    clear o0 o1 o2 o3 o4 o5 o6 o7 o8 hob hT1 hD hW1 hf3
                    obtain ⟨o0, o1, o2, o3, o4, o5, o6, o7, o8⟩ := cells9 hob3
                    go_wp2_with fail
                    have hg := TGet_b asid page h3
                    rw [HV.out.1, HV.out.get] at hg
                    simp only [Ht.v, Bool.false_eq_true, if_false, Ht.zero] at hg
                    refine hg.mono ?_; rintro e w4 ⟨rfl, h4, hc4⟩
                    have hW4 := hW3.chg hc4 (by simp)
                    clear hg
                    have hq := fun w => run_neH Ht.zero Ht.zero w
                    simp only [Ht.v, Ht.zero, Ht.eqb, beq_self_eq_true, Bool.and_self, Bool.not_true] at hq
                    clear o0 o1 o2 o3 o4 o5 o6 o7 o8
                    go_wp2_with fail
                    go_roundg (len - (k + 1))
                    case measure => omega
                    case rel => exact ⟨k + 1, dropT L asid hp, false, wn, by omega, by omega, by go_num, rfl, (h4.new ((Chg.refl [] w4).alloc (.cells #[.int .i64 0, .int .i64 0, .int .i64 0, .bool false, .bool false, .bool false, .bool false] 31))).less (by simp), hW4.chg ((Chg.refl [] w4).alloc (.cells #[.int .i64 0, .int .i64 0, .int .i64 0, .bool false, .bool false, .bool false, .bool false] 31)) (by simp), HN.out, HV.out⟩
                  | false =>
                    go_wp2_with fail
                    refine hD.mono ?_; rintro e w3 ⟨rfl, h3, hf3⟩
                    have hob3 := hf3.blk hob (by simp)
                    have hW3 := hf3.blkH hW1 (by simp)
                    clear o0 o1 o2 o3 o4 o5 o6 o7 o8 hob hT1 hD hW1 hf3
                    obtain ⟨o0, o1, o2, o3, o4, o5, o6, o7, o8⟩ := cells9 hob3
                    go_wp2_with fail
                    have hg := TGet_b asid page h3
                    rw [HV.out.1, HV.out.get] at hg
                    simp only [Ht.v, Bool.false_eq_true, if_false, Ht.zero] at hg
                    refine hg.mono ?_; rintro e w4 ⟨rfl, h4, hc4⟩
                    have hW4 := hW3.chg hc4 (by simp)
                    clear hg
                    have hq := fun w => run_neH Ht.zero Ht.zero w
                    simp only [Ht.v, Ht.zero, Ht.eqb, beq_self_eq_true, Bool.and_self, Bool.not_true] at hq
                    clear o0 o1 o2 o3 o4 o5 o6 o7 o8
                    go_wp2_with fail
                    go_roundg (len - (k + 1))
                    case measure => omega
                    case rel => exact ⟨k + 1, dropT L asid hp, false, wn, by omega, by omega, by go_num, rfl, (h4.new ((Chg.refl [] w4).alloc (.cells #[.int .i64 0, .int .i64 0, .int .i64 0, .bool false, .bool false, .bool false, .bool false] 31))).less (by simp), hW4.chg ((Chg.refl [] w4).alloc (.cells #[.int .i64 0, .int .i64 0, .int .i64 0, .bool false, .bool false, .bool false, .bool false] 31)) (by simp), HN.out, HV.out⟩
            · have e1 : (ha == asid) = false := by simp; exact fun e => ha1 e.symm
              have e1n : (ha != asid) = true := by simp; exact fun e => ha1 e.symm
              have HM : Hid (¬ (ha = asid ∧ hp = page)) := fun e => ha1 e.1.symm
              have HA1 : Hid (ha ≠ asid) := fun e => ha1 e.symm
              clear ha1
              cases t with
              | true =>
                have HV : Hid (Tells (dropT L ha hp) asid page true wn) := HTL.out.drop_other HM.out
                have HN : Hid ((dropT L ha hp).length ≤ k + 1) := Nat.le_trans (dropT_len _ _ _) (Nat.le_succ_of_le HLE.out)
                have hD := TDrop_b ha hp hT1
                generalize hasT L ha hp = an at hD
                cases an with
                | true =>
                  go_wp2_with fail
                  refine hD.mono ?_; rintro e w3 ⟨rfl, h3, hf3⟩
                  have hob3 := hf3.blk hob (by simp)
                  have hW3 := hf3.blkH hW1 (by simp)
                  clear o0 o1 o2 o3 o4 o5 o6 o7 o8 hob hT1 hD hW1 hf3
                  obtain ⟨o0, o1, o2, o3, o4, o5, o6, o7, o8⟩ := cells9 hob3
                  go_wp2_with fail
                  have hg := TGet_b asid page h3
                  rw [HV.out.1, HV.out.get] at hg
                  simp only [Ht.v, if_true] at hg
                  refine hg.mono ?_; rintro e w4 ⟨rfl, h4, hc4⟩
                  have hW4 := hW3.chg hc4 (by simp)
                  clear hg
                  have hW5 := hW4.chg ((Chg.refl [] w4).alloc (.cells #[.int .i64 wn.a, .int .i64 wn.p, .int .i64 wn.f, .bool wn.w, .bool wn.u, .bool wn.x, .bool wn.d] 31)) (by simp)
                  obtain ⟨v0, v1, v2, v3, v4, v5, v6⟩ := hW5.cells
                  have hq := fun w => run_neH wn wn w
                  simp only [Ht.v, Ht.eqb_self, Bool.not_true] at hq
                  clear o0 o1 o2 o3 o4 o5 o6 o7 o8
                  go_wp2_with fail
                  go_roundg (len - (k + 1))
                  case measure => omega
                  case rel => exact ⟨k + 1, dropT L ha hp, true, wn, by omega, by omega, by go_num, rfl, (h4.new ((Chg.refl [] w4).alloc (.cells #[.int .i64 wn.a, .int .i64 wn.p, .int .i64 wn.f, .bool wn.w, .bool wn.u, .bool wn.x, .bool wn.d] 31))).less (by simp), hW4.chg ((Chg.refl [] w4).alloc (.cells #[.int .i64 wn.a, .int .i64 wn.p, .int .i64 wn.f, .bool wn.w, .bool wn.u, .bool wn.x, .bool wn.d] 31)) (by simp), HN.out, HV.out⟩
                | false =>
                  go_wp2_with fail
                  refine hD.mono ?_; rintro e w3 ⟨rfl, h3, hf3⟩
                  have hob3 := hf3.blk hob (by simp)
                  have hW3 := hf3.blkH hW1 (by simp)
                  clear o0 o1 o2 o3 o4 o5 o6 o7 o8 hob hT1 hD hW1 hf3
                  obtain ⟨o0, o1, o2, o3, o4, o5, o6, o7, o8⟩ := cells9 hob3
                  go_wp2_with fail
                  have hg := TGet_b asid page h3
                  rw [HV.out.1, HV.out.get] at hg
                  simp only [Ht.v, if_true] at hg
                  refine hg.mono ?_; rintro e w4 ⟨rfl, h4, hc4⟩
                  have hW4 := hW3.chg hc4 (by simp)
                  clear hg
                  have hW5 := hW4.chg ((Chg.refl [] w4).alloc (.cells #[.int .i64 wn.a, .int .i64 wn.p, .int .i64 wn.f, .bool wn.w, .bool wn.u, .bool wn.x, .bool wn.d] 31)) (by simp)
                  obtain ⟨v0, v1, v2, v3, v4, v5, v6⟩ := hW5.cells
                  have hq := fun w => run_neH wn wn w
                  simp only [Ht.v, Ht.eqb_self, Bool.not_true] at hq
                  clear o0 o1 o2 o3 o4 o5 o6 o7 o8
                  go_wp2_with fail
                  go_roundg (len - (k + 1))
                  case measure => omega
                  case rel => exact ⟨k + 1, dropT L ha hp, true, wn, by omega, by omega, by go_num, rfl, (h4.new ((Chg.refl [] w4).alloc (.cells #[.int .i64 wn.a, .int .i64 wn.p, .int .i64 wn.f, .bool wn.w, .bool wn.u, .bool wn.x, .bool wn.d] 31))).less (by simp), hW4.chg ((Chg.refl [] w4).alloc (.cells #[.int .i64 wn.a, .int .i64 wn.p, .int .i64 wn.f, .bool wn.w, .bool wn.u, .bool wn.x, .bool wn.d] 31)) (by simp), HN.out, HV.out⟩
              | false =>
                have HV : Hid (Tells (dropT L ha hp) asid page false wn) := HTL.out.drop_other HM.out
                have HN : Hid ((dropT L ha hp).length ≤ k + 1) := Nat.le_trans (dropT_len _ _ _) (Nat.le_succ_of_le HLE.out)
                have hD := TDrop_b ha hp hT1
                generalize hasT L ha hp = an at hD
                cases an with
                | true =>
                  go_wp2_with fail
                  refine hD.mono ?_; rintro e w3 ⟨rfl, h3, hf3⟩
                  have hob3 := hf3.blk hob (by simp)
                  have hW3 := hf3.blkH hW1 (by simp)
                  clear o0 o1 o2 o3 o4 o5 o6 o7 o8 hob hT1 hD hW1 hf3
                  obtain ⟨o0, o1, o2, o3, o4, o5, o6, o7, o8⟩ := cells9 hob3
                  go_wp2_with fail
                  have hg := TGet_b asid page h3
                  rw [HV.out.1, HV.out.get] at hg
                  simp only [Ht.v, Bool.false_eq_true, if_false, Ht.zero] at hg
                  refine hg.mono ?_; rintro e w4 ⟨rfl, h4, hc4⟩
                  have hW4 := hW3.chg hc4 (by simp)
                  clear hg
                  have hq := fun w => run_neH Ht.zero Ht.zero w
                  simp only [Ht.v, Ht.zero, Ht.eqb, beq_self_eq_true, Bool.and_self, Bool.not_true] at hq
                  clear o0 o1 o2 o3 o4 o5 o6 o7 o8
                  go_wp2_with fail
                  go_roundg (len - (k + 1))
                  case measure => omega
                  case rel => exact ⟨k + 1, dropT L ha hp, false, wn, by omega, by omega, by go_num, rfl, (h4.new ((Chg.refl [] w4).alloc (.cells #[.int .i64 0, .int .i64 0, .int .i64 0, .bool false, .bool false, .bool false, .bool false] 31))).less (by simp), hW4.chg ((Chg.refl [] w4).alloc (.cells #[.int .i64 0, .int .i64 0, .int .i64 0, .bool false, .bool false, .bool false, .bool false] 31)) (by simp), HN.out, HV.out⟩
                | false =>
                  go_wp2_with fail
                  refine hD.mono ?_; rintro e w3 ⟨rfl, h3, hf3⟩
                  have hob3 := hf3.blk hob (by simp)
                  have hW3 := hf3.blkH hW1 (by simp)
                  clear o0 o1 o2 o3 o4 o5 o6 o7 o8 hob hT1 hD hW1 hf3
                  obtain ⟨o0, o1, o2, o3, o4, o5, o6, o7, o8⟩ := cells9 hob3
                  go_wp2_with fail
                  have hg := TGet_b asid page h3
                  rw [HV.out.1, HV.out.get] at hg
                  simp only [Ht.v, Bool.false_eq_true, if_false, Ht.zero] at hg
                  refine hg.mono ?_; rintro e w4 ⟨rfl, h4, hc4⟩
                  have hW4 := hW3.chg hc4 (by simp)
                  clear hg
                  have hq := fun w => run_neH Ht.zero Ht.zero w
                  simp only [Ht.v, Ht.zero, Ht.eqb, beq_self_eq_true, Bool.and_self, Bool.not_true] at hq
                  clear o0 o1 o2 o3 o4 o5 o6 o7 o8
                  go_wp2_with fail
                  go_roundg (len - (k + 1))
                  case measure => omega
                  case rel => exact ⟨k + 1, dropT L ha hp, false, wn, by omega, by omega, by go_num, rfl, (h4.new ((Chg.refl [] w4).alloc (.cells #[.int .i64 0, .int .i64 0, .int .i64 0, .bool false, .bool false, .bool false, .bool false] 31))).less (by simp), hW4.chg ((Chg.refl [] w4).alloc (.cells #[.int .i64 0, .int .i64 0, .int .i64 0, .bool false, .bool false, .bool false, .bool false] 31)) (by simp), HN.out, HV.out⟩
        by_cases hw4 : what = 4
        · subst hw4
          as_aux_lemma =>
            by_cases ha1 : asid = ha
            · subst ha1
              by_cases hp1 : page = hp
              · subst hp1
                cases t with
                | true =>
                  have HV : Hid (Tells (flushT L asid) asid page false wn) := HTL.out.flush_mine wn
                  have HN : Hid ((flushT L asid).length ≤ k + 1) := Nat.le_trans (flushT_len _ _) (Nat.le_succ_of_le HLE.out)
                  go_wp2_with fail
                  refine (TFlush_b asid hT1).mono ?_; rintro e w3 ⟨rfl, h3, hf3⟩
                  have hob3 := hf3.blk hob (by simp)
                  have hW3 := hf3.blkH hW1 (by simp)
                  clear o0 o1 o2 o3 o4 o5 o6 o7 o8 hob hT1 hW1 hf3
                  obtain ⟨o0, o1, o2, o3, o4, o5, o6, o7, o8⟩ := cells9 hob3
                  go_wp2_with fail
                  have hg := TGet_b asid page h3
                  rw [HV.out.1, HV.out.get] at hg
                  simp only [Ht.v, Bool.false_eq_true, if_false, Ht.zero] at hg
                  refine hg.mono ?_; rintro e w4 ⟨rfl, h4, hc4⟩
                  have hW4 := hW3.chg hc4 (by simp)
                  clear hg
                  have hq := fun w => run_neH Ht.zero Ht.zero w
                  simp only [Ht.v, Ht.zero, Ht.eqb, beq_self_eq_true, Bool.and_self, Bool.not_true] at hq
                  clear o0 o1 o2 o3 o4 o5 o6 o7 o8
                  go_wp2_with fail
                  go_roundg (len - (k + 1))
                  case measure => omega
                  case rel => exact ⟨k + 1, flushT L asid, false, wn, by omega, by omega, by go_num, rfl, (h4.new ((Chg.refl [] w4).alloc (.cells #[.int .i64 0, .int .i64 0, .int .i64 0, .bool false, .bool false, .bool false, .bool false] 31))).less (by simp), hW4.chg ((Chg.refl [] w4).alloc (.cells #[.int .i64 0, .int .i64 0, .int .i64 0, .bool false, .bool false, .bool false, .bool false] 31)) (by simp), HN.out, HV.out⟩
                | false =>
                  have HV : Hid (Tells (flushT L asid) asid page false wn) := HTL.out.flush_mine wn
                  have HN : Hid ((flushT L asid).length ≤ k + 1) := Nat.le_trans (flushT_len _ _) (Nat.le_succ_of_le HLE.out)
                  go_wp2_with fail
                  refine (TFlush_b asid hT1).mono ?_; rintro e w3 ⟨rfl, h3, hf3⟩
                  have hob3 := hf3.blk hob (by simp)
                  have hW3 := hf3.blkH hW1 (by simp)
                  clear o0 o1 o2 o3 o4 o5 o6 o7 o8 hob hT1 hW1 hf3
                  obtain ⟨o0, o1, o2, o3, o4, o5, o6, o7, o8⟩ := cells9 hob3
                  go_wp2_with fail
                  have hg := TGet_b asid page h3
                  rw [HV.out.1, HV.out.get] at hg
                  simp only [Ht.v, Bool.false_eq_true, if_false, Ht.zero] at hg
                  refine hg.mono ?_; rintro e w4 ⟨rfl, h4, hc4⟩
                  have hW4 := hW3.chg hc4 (by simp)
                  clear hg
                  have hq := fun w => run_neH Ht.zero Ht.zero w
                  simp only [Ht.v, Ht.zero, Ht.eqb, beq_self_eq_true, Bool.and_self, Bool.not_true] at hq
                  clear o0 o1 o2 o3 o4 o5 o6 o7 o8
                  go_wp2_with fail
                  go_roundg (len - (k + 1))
                  case measure => omega
                  case rel => exact ⟨k + 1, flushT L asid, false, wn, by omega, by omega, by go_num, rfl, (h4.new ((Chg.refl [] w4).alloc (.cells #[.int .i64 0, .int .i64 0, .int .i64 0, .bool false, .bool false, .bool false, .bool false] 31))).less (by simp), hW4.chg ((Chg.refl [] w4).alloc (.cells #[.int .i64 0, .int .i64 0, .int .i64 0, .bool false, .bool false, .bool false, .bool false] 31)) (by simp), HN.out, HV.out⟩
              · have e2 : (hp == page) = false := by simp; exact fun e => hp1 e.symm
                have HM : Hid (¬ (asid = asid ∧ hp = page)) := fun e => hp1 e.2.symm
                clear hp1
                cases t with
                | true =>
                  have HV : Hid (Tells (flushT L asid) asid page false wn) := HTL.out.flush_mine wn
                  have HN : Hid ((flushT L asid).length ≤ k + 1) := Nat.le_trans (flushT_len _ _) (Nat.le_succ_of_le HLE.out)
                  go_wp2_with fail
                  refine (TFlush_b asid hT1).mono ?_; rintro e w3 ⟨rfl, h3, hf3⟩
                  have hob3 := hf3.blk hob (by simp)
                  have hW3 := hf3.blkH hW1 (by simp)
                  clear o0 o1 o2 o3 o4 o5 o6 o7 o8 hob hT1 hW1 hf3
                  obtain ⟨o0, o1, o2, o3, o4, o5, o6, o7, o8⟩ := cells9 hob3
                  go_wp2_with fail
                  have hg := TGet_b asid page h3
                  rw [HV.out.1, HV.out.get] at hg
                  simp only [Ht.v, Bool.false_eq_true, if_false, Ht.zero] at hg
                  refine hg.mono ?_; rintro e w4 ⟨rfl, h4, hc4⟩
                  have hW4 := hW3.chg hc4 (by simp)
                  clear hg
                  have hq := fun w => run_neH Ht.zero Ht.zero w
                  simp only [Ht.v, Ht.zero, Ht.eqb, beq_self_eq_true, Bool.and_self, Bool.not_true] at hq
                  clear o0 o1 o2 o3 o4 o5 o6 o7 o8
                  go_wp2_with fail
                  go_roundg (len - (k + 1))
                  case measure => omega
                  case rel => exact ⟨k + 1, flushT L asid, false, wn, by omega, by omega, by go_num, rfl, (h4.new ((Chg.refl [] w4).alloc (.cells #[.int .i64 0, .int .i64 0, .int .i64 0, .bool false, .bool false, .bool false, .bool false] 31))).less (by simp), hW4.chg ((Chg.refl [] w4).alloc (.cells #[.int .i64 0, .int .i64 0, .int .i64 0, .bool false, .bool false, .bool false, .bool false] 31)) (by simp), HN.out, HV.out⟩
                | false =>
                  have HV : Hid (Tells (flushT L asid) asid page false wn) := HTL.out.flush_mine wn
                  have HN : Hid ((flushT L asid).length ≤ k + 1) := Nat.le_trans (flushT_len _ _) (Nat.le_succ_of_le HLE.out)
                  go_wp2_with fail
                  refine (TFlush_b asid hT1).mono ?_; rintro e w3 ⟨rfl, h3, hf3⟩
                  have hob3 := hf3.blk hob (by simp)
                  have hW3 := hf3.blkH hW1 (by simp)
                  clear o0 o1 o2 o3 o4 o5 o6 o7 o8 hob hT1 hW1 hf3
                  obtain ⟨o0, o1, o2, o3, o4, o5, o6, o7, o8⟩ := cells9 hob3
                  go_wp2_with fail
                  have hg := TGet_b asid page h3
                  rw [HV.out.1, HV.out.get] at hg
                  simp only [Ht.v, Bool.false_eq_true, if_false, Ht.zero] at hg
                  refine hg.mono ?_; rintro e w4 ⟨rfl, h4, hc4⟩
                  have hW4 := hW3.chg hc4 (by simp)
                  clear hg
                  have hq := fun w => run_neH Ht.zero Ht.zero w
                  simp only [Ht.v, Ht.zero, Ht.eqb, beq_self_eq_true, Bool.and_self, Bool.not_true] at hq
                  clear o0 o1 o2 o3 o4 o5 o6 o7 o8
                  go_wp2_with fail
                  go_roundg (len - (k + 1))
                  case measure => omega
                  case rel => exact ⟨k + 1, flushT L asid, false, wn, by omega, by omega, by go_num, rfl, (h4.new ((Chg.refl [] w4).alloc (.cells #[.int .i64 0, .int .i64 0, .int .i64 0, .bool false, .bool false, .bool false, .bool false] 31))).less (by simp), hW4.chg ((Chg.refl [] w4).alloc (.cells #[.int .i64 0, .int .i64 0, .int .i64 0, .bool false, .bool false, .bool false, .bool false] 31)) (by simp), HN.out, HV.out⟩
            · have e1 : (ha == asid) = false := by simp; exact fun e => ha1 e.symm
              have e1n : (ha != asid) = true := by simp; exact fun e => ha1 e.symm
              have HM : Hid (¬ (ha = asid ∧ hp = page)) := fun e => ha1 e.1.symm
              have HA1 : Hid (ha ≠ asid) := fun e => ha1 e.symm
              clear ha1
              cases t with
              | true =>
                have HV : Hid (Tells (flushT L ha) asid page true wn) := HTL.out.flush_other HA1.out
                have HN : Hid ((flushT L ha).length ≤ k + 1) := Nat.le_trans (flushT_len _ _) (Nat.le_succ_of_le HLE.out)
                go_wp2_with fail
                refine (TFlush_b ha hT1).mono ?_; rintro e w3 ⟨rfl, h3, hf3⟩
                have hob3 := hf3.blk hob (by simp)
                have hW3 := hf3.blkH hW1 (by simp)
                clear o0 o1 o2 o3 o4 o5 o6 o7 o8 hob hT1 hW1 hf3
                obtain ⟨o0, o1, o2, o3, o4, o5, o6, o7, o8⟩ := cells9 hob3
                go_wp2_with fail
                have hg := TGet_b asid page h3
                rw [HV.out.1, HV.out.get] at hg
                simp only [Ht.v, if_true] at hg
                refine hg.mono ?_; rintro e w4 ⟨rfl, h4, hc4⟩
                have hW4 := hW3.chg hc4 (by simp)
                clear hg
                have hW5 := hW4.chg ((Chg.refl [] w4).alloc (.cells #[.int .i64 wn.a, .int .i64 wn.p, .int .i64 wn.f, .bool wn.w, .bool wn.u, .bool wn.x, .bool wn.d] 31)) (by simp)
                obtain ⟨v0, v1, v2, v3, v4, v5, v6⟩ := hW5.cells
                have hq := fun w => run_neH wn wn w
                simp only [Ht.v, Ht.eqb_self, Bool.not_true] at hq
                clear o0 o1 o2 o3 o4 o5 o6 o7 o8
                go_wp2_with fail
                go_roundg (len - (k + 1))
                case measure => omega
                case rel => exact ⟨k + 1, flushT L ha, true, wn, by omega, by omega, by go_num, rfl, (h4.new ((Chg.refl [] w4).alloc (.cells #[.int .i64 wn.a, .int .i64 wn.p, .int .i64 wn.f, .bool wn.w, .bool wn.u, .bool wn.x, .bool wn.d] 31))).less (by simp), hW4.chg ((Chg.refl [] w4).alloc (.cells #[.int .i64 wn.a, .int .i64 wn.p, .int .i64 wn.f, .bool wn.w, .bool wn.u, .bool wn.x, .bool wn.d] 31)) (by simp), HN.out, HV.out⟩
              | false =>
                have HV : Hid (Tells (flushT L ha) asid page false wn) := HTL.out.flush_other HA1.out
                have HN : Hid ((flushT L ha).length ≤ k + 1) := Nat.le_trans (flushT_len _ _) (Nat.le_succ_of_le HLE.out)
                go_wp2_with fail
                refine (TFlush_b ha hT1).mono ?_; rintro e w3 ⟨rfl, h3, hf3⟩
                have hob3 := hf3.blk hob (by simp)
                have hW3 := hf3.blkH hW1 (by simp)
                clear o0 o1 o2 o3 o4 o5 o6 o7 o8 hob hT1 hW1 hf3
                obtain ⟨o0, o1, o2, o3, o4, o5, o6, o7, o8⟩ := cells9 hob3
                go_wp2_with fail
                have hg := TGet_b asid page h3
                rw [HV.out.1, HV.out.get] at hg
                simp only [Ht.v, Bool.false_eq_true, if_false, Ht.zero] at hg
                refine hg.mono ?_; rintro e w4 ⟨rfl, h4, hc4⟩
                have hW4 := hW3.chg hc4 (by simp)
                clear hg
                have hq := fun w => run_neH Ht.zero Ht.zero w
                simp only [Ht.v, Ht.zero, Ht.eqb, beq_self_eq_true, Bool.and_self, Bool.not_true] at hq
                clear o0 o1 o2 o3 o4 o5 o6 o7 o8
                go_wp2_with fail
                go_roundg (len - (k + 1))
                case measure => omega
                case rel => exact ⟨k + 1, flushT L ha, false, wn, by omega, by omega, by go_num, rfl, (h4.new ((Chg.refl [] w4).alloc (.cells #[.int .i64 0, .int .i64 0, .int .i64 0, .bool false, .bool false, .bool false, .bool false] 31))).less (by simp), hW4.chg ((Chg.refl [] w4).alloc (.cells #[.int .i64 0, .int .i64 0, .int .i64 0, .bool false, .bool false, .bool false, .bool false] 31)) (by simp), HN.out, HV.out⟩
        by_cases hw5 : what = 5
        · subst hw5
          as_aux_lemma =>
            by_cases ha1 : asid = ha
            · subst ha1
              by_cases hp1 : page = hp
              · subst hp1
                cases t with
                | true =>
                  have HV : Hid (Tells [] asid page false wn) := Tells.nil _ _ _
                  have HN : Hid (([] : List Ht).length ≤ k + 1) := Nat.zero_le _
                  go_wp2_with fail
                  refine (TAll_b hT1).mono ?_; rintro e w3 ⟨rfl, h3, hf3⟩
                  have hob3 := hf3.blk hob (by simp)
                  have hW3 := hf3.blkH hW1 (by simp)
                  clear o0 o1 o2 o3 o4 o5 o6 o7 o8 hob hT1 hW1 hf3
                  obtain ⟨o0, o1, o2, o3, o4, o5, o6, o7, o8⟩ := cells9 hob3
                  go_wp2_with fail
                  have hg := TGet_b asid page h3
                  rw [HV.out.1, HV.out.get] at hg
                  simp only [Ht.v, Bool.false_eq_true, if_false, Ht.zero] at hg
                  refine hg.mono ?_; rintro e w4 ⟨rfl, h4, hc4⟩
                  have hW4 := hW3.chg hc4 (by simp)
                  clear hg
                  have hq := fun w => run_neH Ht.zero Ht.zero w
                  simp only [Ht.v, Ht.zero, Ht.eqb, beq_self_eq_true, Bool.and_self, Bool.not_true] at hq
                  clear o0 o1 o2 o3 o4 o5 o6 o7 o8
                  go_wp2_with fail
                  go_roundg (len - (k + 1))
                  case measure => omega
                  case rel => exact ⟨k + 1, [], false, wn, by omega, by omega, by go_num, rfl, (h4.new ((Chg.refl [] w4).alloc (.cells #[.int .i64 0, .int .i64 0, .int .i64 0, .bool false, .bool false, .bool false, .bool false] 31))).less (by simp), hW4.chg ((Chg.refl [] w4).alloc (.cells #[.int .i64 0, .int .i64 0, .int .i64 0, .bool false, .bool false, .bool false, .bool false] 31)) (by simp), HN.out, HV.out⟩
                | false =>
                  have HV : Hid (Tells [] asid page false wn) := Tells.nil _ _ _
                  have HN : Hid (([] : List Ht).length ≤ k + 1) := Nat.zero_le _
                  go_wp2_with fail
                  refine (TAll_b hT1).mono ?_; rintro e w3 ⟨rfl, h3, hf3⟩
                  have hob3 := hf3.blk hob (by simp)
                  have hW3 := hf3.blkH hW1 (by simp)
                  clear o0 o1 o2 o3 o4 o5 o6 o7 o8 hob hT1 hW1 hf3
                  obtain ⟨o0, o1, o2, o3, o4, o5, o6, o7, o8⟩ := cells9 hob3
                  go_wp2_with fail
                  have hg := TGet_b asid page h3
                  rw [HV.out.1, HV.out.get] at hg
                  simp only [Ht.v, Bool.false_eq_true, if_false, Ht.zero] at hg
                  refine hg.mono ?_; rintro e w4 ⟨rfl, h4, hc4⟩
                  have hW4 := hW3.chg hc4 (by simp)
                  clear hg
                  have hq := fun w => run_neH Ht.zero Ht.zero w
                  simp only [Ht.v, Ht.zero, Ht.eqb, beq_self_eq_true, Bool.and_self, Bool.not_true] at hq
                  clear o0 o1 o2 o3 o4 o5 o6 o7 o8
                  go_wp2_with fail
                  go_roundg (len - (k + 1))
                  case measure => omega
                  case rel => exact ⟨k + 1, [], false, wn, by omega, by omega, by go_num, rfl, (h4.new ((Chg.refl [] w4).alloc (.cells #[.int .i64 0, .int .i64 0, .int .i64 0, .bool false, .bool false, .bool false, .bool false] 31))).less (by simp), hW4.chg ((Chg.refl [] w4).alloc (.cells #[.int .i64 0, .int .i64 0, .int .i64 0, .bool false, .bool false, .bool false, .bool false] 31)) (by simp), HN.out, HV.out⟩
              · have e2 : (hp == page) = false := by simp; exact fun e => hp1 e.symm
                have HM : Hid (¬ (asid = asid ∧ hp = page)) := fun e => hp1 e.2.symm
                clear hp1
                cases t with
                | true =>
                  have HV : Hid (Tells [] asid page false wn) := Tells.nil _ _ _
                  have HN : Hid (([] : List Ht).length ≤ k + 1) := Nat.zero_le _
                  go_wp2_with fail
                  refine (TAll_b hT1).mono ?_; rintro e w3 ⟨rfl, h3, hf3⟩
                  have hob3 := hf3.blk hob (by simp)
                  have hW3 := hf3.blkH hW1 (by simp)
                  clear o0 o1 o2 o3 o4 o5 o6 o7 o8 hob hT1 hW1 hf3
                  obtain ⟨o0, o1, o2, o3, o4, o5, o6, o7, o8⟩ := cells9 hob3
                  go_wp2_with fail
                  have hg := TGet_b asid page h3
                  rw [HV.out.1, HV.out.get] at hg
                  simp only [Ht.v, Bool.false_eq_true, if_false, Ht.zero] at hg
                  refine hg.mono ?_; rintro e w4 ⟨rfl, h4, hc4⟩
                  have hW4 := hW3.chg hc4 (by simp)
                  clear hg
                  have hq := fun w => run_neH Ht.zero Ht.zero w
                  simp only [Ht.v, Ht.zero, Ht.eqb, beq_self_eq_true, Bool.and_self, Bool.not_true] at hq
                  clear o0 o1 o2 o3 o4 o5 o6 o7 o8
                  go_wp2_with fail
                  go_roundg (len - (k + 1))
                  case measure => omega
                  case rel => exact ⟨k + 1, [], false, wn, by omega, by omega, by go_num, rfl, (h4.new ((Chg.refl [] w4).alloc (.cells #[.int .i64 0, .int .i64 0, .int .i64 0, .bool false, .bool false, .bool false, .bool false] 31))).less (by simp), hW4.chg ((Chg.refl [] w4).alloc (.cells #[.int .i64 0, .int .i64 0, .int .i64 0, .bool false, .bool false, .bool false, .bool false] 31)) (by simp), HN.out, HV.out⟩
                | false =>
                  have HV : Hid (Tells [] asid page false wn) := Tells.nil _ _ _
                  have HN : Hid (([] : List Ht).length ≤ k + 1) := Nat.zero_le _
                  go_wp2_with fail
                  refine (TAll_b hT1).mono ?_; rintro e w3 ⟨rfl, h3, hf3⟩
                  have hob3 := hf3.blk hob (by simp)
                  have hW3 := hf3.blkH hW1 (by simp)
                  clear o0 o1 o2 o3 o4 o5 o6 o7 o8 hob hT1 hW1 hf3
                  obtain ⟨o0, o1, o2, o3, o4, o5, o6, o7, o8⟩ := cells9 hob3
                  go_wp2_with fail
                  have hg := TGet_b asid page h3
                  rw [HV.out.1, HV.out.get] at hg
                  simp only [Ht.v, Bool.false_eq_true, if_false, Ht.zero] at hg
                  refine hg.mono ?_; rintro e w4 ⟨rfl, h4, hc4⟩
                  have hW4 := hW3.chg hc4 (by simp)
                  clear hg
                  have hq := fun w => run_neH Ht.zero Ht.zero w
                  simp only [Ht.v, Ht.zero, Ht.eqb, beq_self_eq_true, Bool.and_self, Bool.not_true] at hq
                  clear o0 o1 o2 o3 o4 o5 o6 o7 o8
                  go_wp2_with fail
                  go_roundg (len - (k + 1))
                  case measure => omega
                  case rel => exact ⟨k + 1, [], false, wn, by omega, by omega, by go_num, rfl, (h4.new ((Chg.refl [] w4).alloc (.cells #[.int .i64 0, .int .i64 0, .int .i64 0, .bool false, .bool false, .bool false, .bool false] 31))).less (by simp), hW4.chg ((Chg.refl [] w4).alloc (.cells #[.int .i64 0, .int .i64 0, .int .i64 0, .bool false, .bool false, .bool false, .bool false] 31)) (by simp), HN.out, HV.out⟩
            · have e1 : (ha == asid) = false := by simp; exact fun e => ha1 e.symm
              have e1n : (ha != asid) = true := by simp; exact fun e => ha1 e.symm
              have HM : Hid (¬ (ha = asid ∧ hp = page)) := fun e => ha1 e.1.symm
              have HA1 : Hid (ha ≠ asid) := fun e => ha1 e.symm
              clear ha1
              cases t with
              | true =>
                have HV : Hid (Tells [] asid page false wn) := Tells.nil _ _ _
                have HN : Hid (([] : List Ht).length ≤ k + 1) := Nat.zero_le _
                go_wp2_with fail
                refine (TAll_b hT1).mono ?_; rintro e w3 ⟨rfl, h3, hf3⟩
                have hob3 := hf3.blk hob (by simp)
                have hW3 := hf3.blkH hW1 (by simp)
                clear o0 o1 o2 o3 o4 o5 o6 o7 o8 hob hT1 hW1 hf3
                obtain ⟨o0, o1, o2, o3, o4, o5, o6, o7, o8⟩ := cells9 hob3
                go_wp2_with fail
                have hg := TGet_b asid page h3
                rw [HV.out.1, HV.out.get] at hg
                simp only [Ht.v, Bool.false_eq_true, if_false, Ht.zero] at hg
                refine hg.mono ?_; rintro e w4 ⟨rfl, h4, hc4⟩
                have hW4 := hW3.chg hc4 (by simp)
                clear hg
                have hq := fun w => run_neH Ht.zero Ht.zero w
                simp only [Ht.v, Ht.zero, Ht.eqb, beq_self_eq_true, Bool.and_self, Bool.not_true] at hq
                clear o0 o1 o2 o3 o4 o5 o6 o7 o8
                go_wp2_with fail
                go_roundg (len - (k + 1))
                case measure => omega
                case rel => exact ⟨k + 1, [], false, wn, by omega, by omega, by go_num, rfl, (h4.new ((Chg.refl [] w4).alloc (.cells #[.int .i64 0, .int .i64 0, .int .i64 0, .bool false, .bool false, .bool false, .bool false] 31))).less (by simp), hW4.chg ((Chg.refl [] w4).alloc (.cells #[.int .i64 0, .int .i64 0, .int .i64 0, .bool false, .bool false, .bool false, .bool false] 31)) (by simp), HN.out, HV.out⟩
              | false =>
                have HV : Hid (Tells [] asid page false wn) := Tells.nil _ _ _
                have HN : Hid (([] : List Ht).length ≤ k + 1) := Nat.zero_le _
                go_wp2_with fail
                refine (TAll_b hT1).mono ?_; rintro e w3 ⟨rfl, h3, hf3⟩
                have hob3 := hf3.blk hob (by simp)
                have hW3 := hf3.blkH hW1 (by simp)
                clear o0 o1 o2 o3 o4 o5 o6 o7 o8 hob hT1 hW1 hf3
                obtain ⟨o0, o1, o2, o3, o4, o5, o6, o7, o8⟩ := cells9 hob3
                go_wp2_with fail
                have hg := TGet_b asid page h3
                rw [HV.out.1, HV.out.get] at hg
                simp only [Ht.v, Bool.false_eq_true, if_false, Ht.zero] at hg
                refine hg.mono ?_; rintro e w4 ⟨rfl, h4, hc4⟩
                have hW4 := hW3.chg hc4 (by simp)
                clear hg
                have hq := fun w => run_neH Ht.zero Ht.zero w
                simp only [Ht.v, Ht.zero, Ht.eqb, beq_self_eq_true, Bool.and_self, Bool.not_true] at hq
                clear o0 o1 o2 o3 o4 o5 o6 o7 o8
                go_wp2_with fail
                go_roundg (len - (k + 1))
                case measure => omega
                case rel => exact ⟨k + 1, [], false, wn, by omega, by omega, by go_num, rfl, (h4.new ((Chg.refl [] w4).alloc (.cells #[.int .i64 0, .int .i64 0, .int .i64 0, .bool false, .bool false, .bool false, .bool false] 31))).less (by simp), hW4.chg ((Chg.refl [] w4).alloc (.cells #[.int .i64 0, .int .i64 0, .int .i64 0, .bool false, .bool false, .bool false, .bool false] 31)) (by simp), HN.out, HV.out⟩
        by_cases hw0 : what = 0
        · subst hw0
          focus
            by_cases ha1 : asid = ha
            · subst ha1
              by_cases hp1 : page = hp
              · subst hp1
                cases t with
                | true =>
                  have HV : Hid (Tells (putT 512 L ⟨asid, page, hf, hw, hu, hx, hd⟩) asid page true ⟨asid, page, hf, hw, hu, hx, hd⟩) := HTL.out.put_mine HL300.out ⟨rfl, rfl⟩
                  have HN : Hid ((putT 512 L ⟨asid, page, hf, hw, hu, hx, hd⟩).length ≤ k + 1) := Nat.le_trans (putT_len1 _ _) (Nat.succ_le_succ HLE.out)
                  have hP := TPut_b ⟨asid, page, hf, hw, hu, hx, hd⟩ hT1
                  simp only [Ht.v] at hP
                  go_wp2_with fail
                  refine hP.mono ?_; rintro e w3 ⟨rfl, h3, hf3⟩
                  have hob3 := hf3.blk hob (by simp)
                  have hW3 := hf3.blkH hW1 (by simp)
                  clear o0 o1 o2 o3 o4 o5 o6 o7 o8 hob hT1 hP hW1 hf3
                  obtain ⟨o0, o1, o2, o3, o4, o5, o6, o7, o8⟩ := cells9 hob3
                  obtain ⟨v0, v1, v2, v3, v4, v5, v6⟩ := hW3.cells
                  obtain ⟨f0, f1, f2, f3, f4, f5, f6⟩ := hW3.frozens
                  go_wp2_with fail
                  have hset := hW3.set ⟨asid, page, hf, hw, hu, hx, hd⟩
                  have hcs : Chg [wb] w3 (w3.setCells wb 0 (Ht.cl ⟨asid, page, hf, hw, hu, hx, hd⟩)) := Chg.setCells (by simp) _ _ _ (Chg.refl _ _)
                  have h3s := h3.other hcs (by simp) (by simpa using hwb0)
                  clear v0 v1 v2 v3 v4 v5 v6 f0 f1 f2 f3 f4 f5 f6 hW3 h3
                  simp only [Ht.cl, World.setCells, Nat.zero_add, Nat.reduceAdd] at hset h3s
                  have hW3 := hset
                  have h3 := h3s
                  clear hset h3s hcs
                  have hg := TGet_b asid page h3
                  rw [HV.out.1, HV.out.get] at hg
                  simp only [Ht.v, if_true] at hg
                  refine hg.mono ?_; rintro e w4 ⟨rfl, h4, hc4⟩
                  have hW4 := hW3.chg hc4 (by simp)
                  clear hg
                  have hW5 := hW4.chg ((Chg.refl [] w4).alloc (.cells #[.int .i64 (⟨asid, page, hf, hw, hu, hx, hd⟩ : Ht).a, .int .i64 (⟨asid, page, hf, hw, hu, hx, hd⟩ : Ht).p, .int .i64 (⟨asid, page, hf, hw, hu, hx, hd⟩ : Ht).f, .bool (⟨asid, page, hf, hw, hu, hx, hd⟩ : Ht).w, .bool (⟨asid, page, hf, hw, hu, hx, hd⟩ : Ht).u, .bool (⟨asid, page, hf, hw, hu, hx, hd⟩ : Ht).x, .bool (⟨asid, page, hf, hw, hu, hx, hd⟩ : Ht).d] 31)) (by simp)
                  obtain ⟨v0, v1, v2, v3, v4, v5, v6⟩ := hW5.cells
                  have hq := fun w => run_neH ⟨asid, page, hf, hw, hu, hx, hd⟩ ⟨asid, page, hf, hw, hu, hx, hd⟩ w
                  simp only [Ht.v, Ht.eqb_self, Bool.not_true] at hq
                  clear o0 o1 o2 o3 o4 o5 o6 o7 o8
                  go_wp2_with fail
                  go_roundg (len - (k + 1))
                  case measure => omega
                  case rel => exact ⟨k + 1, putT 512 L ⟨asid, page, hf, hw, hu, hx, hd⟩, true, ⟨asid, page, hf, hw, hu, hx, hd⟩, by omega, by omega, by go_num, rfl, (h4.new ((Chg.refl [] w4).alloc (.cells #[.int .i64 (⟨asid, page, hf, hw, hu, hx, hd⟩ : Ht).a, .int .i64 (⟨asid, page, hf, hw, hu, hx, hd⟩ : Ht).p, .int .i64 (⟨asid, page, hf, hw, hu, hx, hd⟩ : Ht).f, .bool (⟨asid, page, hf, hw, hu, hx, hd⟩ : Ht).w, .bool (⟨asid, page, hf, hw, hu, hx, hd⟩ : Ht).u, .bool (⟨asid, page, hf, hw, hu, hx, hd⟩ : Ht).x, .bool (⟨asid, page, hf, hw, hu, hx, hd⟩ : Ht).d] 31))).less (by simp), hW4.chg ((Chg.refl [] w4).alloc (.cells #[.int .i64 (⟨asid, page, hf, hw, hu, hx, hd⟩ : Ht).a, .int .i64 (⟨asid, page, hf, hw, hu, hx, hd⟩ : Ht).p, .int .i64 (⟨asid, page, hf, hw, hu, hx, hd⟩ : Ht).f, .bool (⟨asid, page, hf, hw, hu, hx, hd⟩ : Ht).w, .bool (⟨asid, page, hf, hw, hu, hx, hd⟩ : Ht).u, .bool (⟨asid, page, hf, hw, hu, hx, hd⟩ : Ht).x, .bool (⟨asid, page, hf, hw, hu, hx, hd⟩ : Ht).d] 31)) (by simp), HN.out, HV.out⟩
                | false =>
                  have HV : Hid (Tells (putT 512 L ⟨asid, page, hf, hw, hu, hx, hd⟩) asid page true ⟨asid, page, hf, hw, hu, hx, hd⟩) := HTL.out.put_mine HL300.out ⟨rfl, rfl⟩
                  have HN : Hid ((putT 512 L ⟨asid, page, hf, hw, hu, hx, hd⟩).length ≤ k + 1) := Nat.le_trans (putT_len1 _ _) (Nat.succ_le_succ HLE.out)
                  have hP := TPut_b ⟨asid, page, hf, hw, hu, hx, hd⟩ hT1
                  simp only [Ht.v] at hP
                  go_wp2_with fail
                  refine hP.mono ?_; rintro e w3 ⟨rfl, h3, hf3⟩
                  have hob3 := hf3.blk hob (by simp)
                  have hW3 := hf3.blkH hW1 (by simp)
                  clear o0 o1 o2 o3 o4 o5 o6 o7 o8 hob hT1 hP hW1 hf3
                  obtain ⟨o0, o1, o2, o3, o4, o5, o6, o7, o8⟩ := cells9 hob3
                  obtain ⟨v0, v1, v2, v3, v4, v5, v6⟩ := hW3.cells
                  obtain ⟨f0, f1, f2, f3, f4, f5, f6⟩ := hW3.frozens
                  go_wp2_with fail
                  have hset := hW3.set ⟨asid, page, hf, hw, hu, hx, hd⟩
                  have hcs : Chg [wb] w3 (w3.setCells wb 0 (Ht.cl ⟨asid, page, hf, hw, hu, hx, hd⟩)) := Chg.setCells (by simp) _ _ _ (Chg.refl _ _)
                  have h3s := h3.other hcs (by simp) (by simpa using hwb0)
                  clear v0 v1 v2 v3 v4 v5 v6 f0 f1 f2 f3 f4 f5 f6 hW3 h3
                  simp only [Ht.cl, World.setCells, Nat.zero_add, Nat.reduceAdd] at hset h3s
                  have hW3 := hset
                  have h3 := h3s
                  clear hset h3s hcs
                  have hg := TGet_b asid page h3
                  rw [HV.out.1, HV.out.get] at hg
                  simp only [Ht.v, if_true] at hg
                  refine hg.mono ?_; rintro e w4 ⟨rfl, h4, hc4⟩
                  have hW4 := hW3.chg hc4 (by simp)
                  clear hg
                  have hW5 := hW4.chg ((Chg.refl [] w4).alloc (.cells #[.int .i64 (⟨asid, page, hf, hw, hu, hx, hd⟩ : Ht).a, .int .i64 (⟨asid, page, hf, hw, hu, hx, hd⟩ : Ht).p, .int .i64 (⟨asid, page, hf, hw, hu, hx, hd⟩ : Ht).f, .bool (⟨asid, page, hf, hw, hu, hx, hd⟩ : Ht).w, .bool (⟨asid, page, hf, hw, hu, hx, hd⟩ : Ht).u, .bool (⟨asid, page, hf, hw, hu, hx, hd⟩ : Ht).x, .bool (⟨asid, page, hf, hw, hu, hx, hd⟩ : Ht).d] 31)) (by simp)
                  obtain ⟨v0, v1, v2, v3, v4, v5, v6⟩ := hW5.cells
                  have hq := fun w => run_neH ⟨asid, page, hf, hw, hu, hx, hd⟩ ⟨asid, page, hf, hw, hu, hx, hd⟩ w
                  simp only [Ht.v, Ht.eqb_self, Bool.not_true] at hq
                  clear o0 o1 o2 o3 o4 o5 o6 o7 o8
                  go_wp2_with fail
                  go_roundg (len - (k + 1))
                  case measure => omega
                  case rel => exact ⟨k + 1, putT 512 L ⟨asid, page, hf, hw, hu, hx, hd⟩, true, ⟨asid, page, hf, hw, hu, hx, hd⟩, by omega, by omega, by go_num, rfl, (h4.new ((Chg.refl [] w4).alloc (.cells #[.int .i64 (⟨asid, page, hf, hw, hu, hx, hd⟩ : Ht).a, .int .i64 (⟨asid, page, hf, hw, hu, hx, hd⟩ : Ht).p, .int .i64 (⟨asid, page, hf, hw, hu, hx, hd⟩ : Ht).f, .bool (⟨asid, page, hf, hw, hu, hx, hd⟩ : Ht).w, .bool (⟨asid, page, hf, hw, hu, hx, hd⟩ : Ht).u, .bool (⟨asid, page, hf, hw, hu, hx, hd⟩ : Ht).x, .bool (⟨asid, page, hf, hw, hu, hx, hd⟩ : Ht).d] 31))).less (by simp), hW4.chg ((Chg.refl [] w4).alloc (.cells #[.int .i64 (⟨asid, page, hf, hw, hu, hx, hd⟩ : Ht).a, .int .i64 (⟨asid, page, hf, hw, hu, hx, hd⟩ : Ht).p, .int .i64 (⟨asid, page, hf, hw, hu, hx, hd⟩ : Ht).f, .bool (⟨asid, page, hf, hw, hu, hx, hd⟩ : Ht).w, .bool (⟨asid, page, hf, hw, hu, hx, hd⟩ : Ht).u, .bool (⟨asid, page, hf, hw, hu, hx, hd⟩ : Ht).x, .bool (⟨asid, page, hf, hw, hu, hx, hd⟩ : Ht).d] 31)) (by simp), HN.out, HV.out⟩
              · have e2 : (hp == page) = false := by simp; exact fun e => hp1 e.symm
                have HM : Hid (¬ (asid = asid ∧ hp = page)) := fun e => hp1 e.2.symm
                clear hp1
                cases t with
                | true =>
                  as_aux_lemma =>
                    have HV : Hid (Tells (putT 512 L ⟨asid, hp, hf, hw, hu, hx, hd⟩) asid page true wn) := HTL.out.put_other HL300.out HM.out
                    have HN : Hid ((putT 512 L ⟨asid, hp, hf, hw, hu, hx, hd⟩).length ≤ k + 1) := Nat.le_trans (putT_len1 _ _) (Nat.succ_le_succ HLE.out)
                    have hP := TPut_b ⟨asid, hp, hf, hw, hu, hx, hd⟩ hT1
                    simp only [Ht.v] at hP
                    go_wp2_with fail
                    refine hP.mono ?_; rintro e w3 ⟨rfl, h3, hf3⟩
                    have hob3 := hf3.blk hob (by simp)
                    have hW3 := hf3.blkH hW1 (by simp)
                    clear o0 o1 o2 o3 o4 o5 o6 o7 o8 hob hT1 hP hW1 hf3
                    obtain ⟨o0, o1, o2, o3, o4, o5, o6, o7, o8⟩ := cells9 hob3
                    go_wp2_with fail
                    have hg := TGet_b asid page h3
                    rw [HV.out.1, HV.out.get] at hg
                    simp only [Ht.v, if_true] at hg
                    refine hg.mono ?_; rintro e w4 ⟨rfl, h4, hc4⟩
                    have hW4 := hW3.chg hc4 (by simp)
                    clear hg
                    have hW5 := hW4.chg ((Chg.refl [] w4).alloc (.cells #[.int .i64 wn.a, .int .i64 wn.p, .int .i64 wn.f, .bool wn.w, .bool wn.u, .bool wn.x, .bool wn.d] 31)) (by simp)
                    obtain ⟨v0, v1, v2, v3, v4, v5, v6⟩ := hW5.cells
                    have hq := fun w => run_neH wn wn w
                    simp only [Ht.v, Ht.eqb_self, Bool.not_true] at hq
                    clear o0 o1 o2 o3 o4 o5 o6 o7 o8
                    go_wp2_with fail
                    go_roundg (len - (k + 1))
                    case measure => omega
                    case rel => exact ⟨k + 1, putT 512 L ⟨asid, hp, hf, hw, hu, hx, hd⟩, true, wn, by omega, by omega, by go_num, rfl, (h4.new ((Chg.refl [] w4).alloc (.cells #[.int .i64 wn.a, .int .i64 wn.p, .int .i64 wn.f, .bool wn.w, .bool wn.u, .bool wn.x, .bool wn.d] 31))).less (by simp), hW4.chg ((Chg.refl [] w4).alloc (.cells #[.int .i64 wn.a, .int .i64 wn.p, .int .i64 wn.f, .bool wn.w, .bool wn.u, .bool wn.x, .bool wn.d] 31)) (by simp), HN.out, HV.out⟩
                | false =>
                  as_aux_lemma =>
                    have HV : Hid (Tells (putT 512 L ⟨asid, hp, hf, hw, hu, hx, hd⟩) asid page false wn) := HTL.out.put_other HL300.out HM.out
                    have HN : Hid ((putT 512 L ⟨asid, hp, hf, hw, hu, hx, hd⟩).length ≤ k + 1) := Nat.le_trans (putT_len1 _ _) (Nat.succ_le_succ HLE.out)
                    have hP := TPut_b ⟨asid, hp, hf, hw, hu, hx, hd⟩ hT1
                    simp only [Ht.v] at hP
                    go_wp2_with fail
                    refine hP.mono ?_; rintro e w3 ⟨rfl, h3, hf3⟩
                    have hob3 := hf3.blk hob (by simp)
                    have hW3 := hf3.blkH hW1 (by simp)
                    clear o0 o1 o2 o3 o4 o5 o6 o7 o8 hob hT1 hP hW1 hf3
                    obtain ⟨o0, o1, o2, o3, o4, o5, o6, o7, o8⟩ := cells9 hob3
                    go_wp2_with fail
                    have hg := TGet_b asid page h3
                    rw [HV.out.1, HV.out.get] at hg
                    simp only [Ht.v, Bool.false_eq_true, if_false, Ht.zero] at hg
                    refine hg.mono ?_; rintro e w4 ⟨rfl, h4, hc4⟩
                    have hW4 := hW3.chg hc4 (by simp)
                    clear hg
                    have hq := fun w => run_neH Ht.zero Ht.zero w
                    simp only [Ht.v, Ht.zero, Ht.eqb, beq_self_eq_true, Bool.and_self, Bool.not_true] at hq
                    clear o0 o1 o2 o3 o4 o5 o6 o7 o8
                    go_wp2_with fail
                    go_roundg (len - (k + 1))
                    case measure => omega
                    case rel => exact ⟨k + 1, putT 512 L ⟨asid, hp, hf, hw, hu, hx, hd⟩, false, wn, by omega, by omega, by go_num, rfl, (h4.new ((Chg.refl [] w4).alloc (.cells #[.int .i64 0, .int .i64 0, .int .i64 0, .bool false, .bool false, .bool false, .bool false] 31))).less (by simp), hW4.chg ((Chg.refl [] w4).alloc (.cells #[.int .i64 0, .int .i64 0, .int .i64 0, .bool false, .bool false, .bool false, .bool false] 31)) (by simp), HN.out, HV.out⟩
            · have e1 : (ha == asid) = false := by simp; exact fun e => ha1 e.symm
              have e1n : (ha != asid) = true := by simp; exact fun e => ha1 e.symm
              have HM : Hid (¬ (ha = asid ∧ hp = page)) := fun e => ha1 e.1.symm
              have HA1 : Hid (ha ≠ asid) := fun e => ha1 e.symm
              clear ha1
              cases t with
              | true =>
                as_aux_lemma =>
                  have HV : Hid (Tells (putT 512 L ⟨ha, hp, hf, hw, hu, hx, hd⟩) asid page true wn) := HTL.out.put_other HL300.out HM.out
                  have HN : Hid ((putT 512 L ⟨ha, hp, hf, hw, hu, hx, hd⟩).length ≤ k + 1) := Nat.le_trans (putT_len1 _ _) (Nat.succ_le_succ HLE.out)
                  have hP := TPut_b ⟨ha, hp, hf, hw, hu, hx, hd⟩ hT1
                  simp only [Ht.v] at hP
                  go_wp2_with fail
                  refine hP.mono ?_; rintro e w3 ⟨rfl, h3, hf3⟩
                  have hob3 := hf3.blk hob (by simp)
                  have hW3 := hf3.blkH hW1 (by simp)
                  clear o0 o1 o2 o3 o4 o5 o6 o7 o8 hob hT1 hP hW1 hf3
                  obtain ⟨o0, o1, o2, o3, o4, o5, o6, o7, o8⟩ := cells9 hob3
                  go_wp2_with fail
                  have hg := TGet_b asid page h3
                  rw [HV.out.1, HV.out.get] at hg
                  simp only [Ht.v, if_true] at hg
                  refine hg.mono ?_; rintro e w4 ⟨rfl, h4, hc4⟩
                  have hW4 := hW3.chg hc4 (by simp)
                  clear hg
                  have hW5 := hW4.chg ((Chg.refl [] w4).alloc (.cells #[.int .i64 wn.a, .int .i64 wn.p, .int .i64 wn.f, .bool wn.w, .bool wn.u, .bool wn.x, .bool wn.d] 31)) (by simp)
                  obtain ⟨v0, v1, v2, v3, v4, v5, v6⟩ := hW5.cells
                  have hq := fun w => run_neH wn wn w
                  simp only [Ht.v, Ht.eqb_self, Bool.not_true] at hq
                  clear o0 o1 o2 o3 o4 o5 o6 o7 o8
                  go_wp2_with fail
                  go_roundg (len - (k + 1))
                  case measure => omega
                  case rel => exact ⟨k + 1, putT 512 L ⟨ha, hp, hf, hw, hu, hx, hd⟩, true, wn, by omega, by omega, by go_num, rfl, (h4.new ((Chg.refl [] w4).alloc (.cells #[.int .i64 wn.a, .int .i64 wn.p, .int .i64 wn.f, .bool wn.w, .bool wn.u, .bool wn.x, .bool wn.d] 31))).less (by simp), hW4.chg ((Chg.refl [] w4).alloc (.cells #[.int .i64 wn.a, .int .i64 wn.p, .int .i64 wn.f, .bool wn.w, .bool wn.u, .bool wn.x, .bool wn.d] 31)) (by simp), HN.out, HV.out⟩
              | false =>
                as_aux_lemma =>
                  have HV : Hid (Tells (putT 512 L ⟨ha, hp, hf, hw, hu, hx, hd⟩) asid page false wn) := HTL.out.put_other HL300.out HM.out
                  have HN : Hid ((putT 512 L ⟨ha, hp, hf, hw, hu, hx, hd⟩).length ≤ k + 1) := Nat.le_trans (putT_len1 _ _) (Nat.succ_le_succ HLE.out)
                  have hP := TPut_b ⟨ha, hp, hf, hw, hu, hx, hd⟩ hT1
                  simp only [Ht.v] at hP
                  go_wp2_with fail
                  refine hP.mono ?_; rintro e w3 ⟨rfl, h3, hf3⟩
                  have hob3 := hf3.blk hob (by simp)
                  have hW3 := hf3.blkH hW1 (by simp)
                  clear o0 o1 o2 o3 o4 o5 o6 o7 o8 hob hT1 hP hW1 hf3
                  obtain ⟨o0, o1, o2, o3, o4, o5, o6, o7, o8⟩ := cells9 hob3
                  go_wp2_with fail
                  have hg := TGet_b asid page h3
                  rw [HV.out.1, HV.out.get] at hg
                  simp only [Ht.v, Bool.false_eq_true, if_false, Ht.zero] at hg
                  refine hg.mono ?_; rintro e w4 ⟨rfl, h4, hc4⟩
                  have hW4 := hW3.chg hc4 (by simp)
                  clear hg
                  have hq := fun w => run_neH Ht.zero Ht.zero w
                  simp only [Ht.v, Ht.zero, Ht.eqb, beq_self_eq_true, Bool.and_self, Bool.not_true] at hq
                  clear o0 o1 o2 o3 o4 o5 o6 o7 o8
                  go_wp2_with fail
                  go_roundg (len - (k + 1))
                  case measure => omega
                  case rel => exact ⟨k + 1, putT 512 L ⟨ha, hp, hf, hw, hu, hx, hd⟩, false, wn, by omega, by omega, by go_num, rfl, (h4.new ((Chg.refl [] w4).alloc (.cells #[.int .i64 0, .int .i64 0, .int .i64 0, .bool false, .bool false, .bool false, .bool false] 31))).less (by simp), hW4.chg ((Chg.refl [] w4).alloc (.cells #[.int .i64 0, .int .i64 0, .int .i64 0, .bool false, .bool false, .bool false, .bool false] 31)) (by simp), HN.out, HV.out⟩
        by_cases hw1 : what = 1
        · subst hw1
          focus
            by_cases ha1 : asid = ha
            · subst ha1
              by_cases hp1 : page = hp
              · subst hp1
                cases t with
                | true =>
                  have HV : Hid (Tells (putT 512 L ⟨asid, page, hf, hw, hu, hx, hd⟩) asid page true ⟨asid, page, hf, hw, hu, hx, hd⟩) := HTL.out.put_mine HL300.out ⟨rfl, rfl⟩
                  have HN : Hid ((putT 512 L ⟨asid, page, hf, hw, hu, hx, hd⟩).length ≤ k + 1) := Nat.le_trans (putT_len1 _ _) (Nat.succ_le_succ HLE.out)
                  have hP := TPut_b ⟨asid, page, hf, hw, hu, hx, hd⟩ hT1
                  simp only [Ht.v] at hP
                  go_wp2_with fail
                  refine hP.mono ?_; rintro e w3 ⟨rfl, h3, hf3⟩
                  have hob3 := hf3.blk hob (by simp)
                  have hW3 := hf3.blkH hW1 (by simp)
                  clear o0 o1 o2 o3 o4 o5 o6 o7 o8 hob hT1 hP hW1 hf3
                  obtain ⟨o0, o1, o2, o3, o4, o5, o6, o7, o8⟩ := cells9 hob3
                  obtain ⟨v0, v1, v2, v3, v4, v5, v6⟩ := hW3.cells
                  obtain ⟨f0, f1, f2, f3, f4, f5, f6⟩ := hW3.frozens
                  go_wp2_with fail
                  have hset := hW3.set ⟨asid, page, hf, hw, hu, hx, hd⟩
                  have hcs : Chg [wb] w3 (w3.setCells wb 0 (Ht.cl ⟨asid, page, hf, hw, hu, hx, hd⟩)) := Chg.setCells (by simp) _ _ _ (Chg.refl _ _)
                  have h3s := h3.other hcs (by simp) (by simpa using hwb0)
                  clear v0 v1 v2 v3 v4 v5 v6 f0 f1 f2 f3 f4 f5 f6 hW3 h3
                  simp only [Ht.cl, World.setCells, Nat.zero_add, Nat.reduceAdd] at hset h3s
                  have hW3 := hset
                  have h3 := h3s
                  clear hset h3s hcs
                  have hg := TGet_b asid page h3
                  rw [HV.out.1, HV.out.get] at hg
                  simp only [Ht.v, if_true] at hg
                  refine hg.mono ?_; rintro e w4 ⟨rfl, h4, hc4⟩
                  have hW4 := hW3.chg hc4 (by simp)
                  clear hg
                  have hW5 := hW4.chg ((Chg.refl [] w4).alloc (.cells #[.int .i64 (⟨asid, page, hf, hw, hu, hx, hd⟩ : Ht).a, .int .i64 (⟨asid, page, hf, hw, hu, hx, hd⟩ : Ht).p, .int .i64 (⟨asid, page, hf, hw, hu, hx, hd⟩ : Ht).f, .bool (⟨asid, page, hf, hw, hu, hx, hd⟩ : Ht).w, .bool (⟨asid, page, hf, hw, hu, hx, hd⟩ : Ht).u, .bool (⟨asid, page, hf, hw, hu, hx, hd⟩ : Ht).x, .bool (⟨asid, page, hf, hw, hu, hx, hd⟩ : Ht).d] 31)) (by simp)
                  obtain ⟨v0, v1, v2, v3, v4, v5, v6⟩ := hW5.cells
                  have hq := fun w => run_neH ⟨asid, page, hf, hw, hu, hx, hd⟩ ⟨asid, page, hf, hw, hu, hx, hd⟩ w
                  simp only [Ht.v, Ht.eqb_self, Bool.not_true] at hq
                  clear o0 o1 o2 o3 o4 o5 o6 o7 o8
                  go_wp2_with fail
                  go_roundg (len - (k + 1))
                  case measure => omega
                  case rel => exact ⟨k + 1, putT 512 L ⟨asid, page, hf, hw, hu, hx, hd⟩, true, ⟨asid, page, hf, hw, hu, hx, hd⟩, by omega, by omega, by go_num, rfl, (h4.new ((Chg.refl [] w4).alloc (.cells #[.int .i64 (⟨asid, page, hf, hw, hu, hx, hd⟩ : Ht).a, .int .i64 (⟨asid, page, hf, hw, hu, hx, hd⟩ : Ht).p, .int .i64 (⟨asid, page, hf, hw, hu, hx, hd⟩ : Ht).f, .bool (⟨asid, page, hf, hw, hu, hx, hd⟩ : Ht).w, .bool (⟨asid, page, hf, hw, hu, hx, hd⟩ : Ht).u, .bool (⟨asid, page, hf, hw, hu, hx, hd⟩ : Ht).x, .bool (⟨asid, page, hf, hw, hu, hx, hd⟩ : Ht).d] 31))).less (by simp), hW4.chg ((Chg.refl [] w4).alloc (.cells #[.int .i64 (⟨asid, page, hf, hw, hu, hx, hd⟩ : Ht).a, .int .i64 (⟨asid, page, hf, hw, hu, hx, hd⟩ : Ht).p, .int .i64 (⟨asid, page, hf, hw, hu, hx, hd⟩ : Ht).f, .bool (⟨asid, page, hf, hw, hu, hx, hd⟩ : Ht).w, .bool (⟨asid, page, hf, hw, hu, hx, hd⟩ : Ht).u, .bool (⟨asid, page, hf, hw, hu, hx, hd⟩ : Ht).x, .bool (⟨asid, page, hf, hw, hu, hx, hd⟩ : Ht).d] 31)) (by simp), HN.out, HV.out⟩
                | false =>
                  have HV : Hid (Tells (putT 512 L ⟨asid, page, hf, hw, hu, hx, hd⟩) asid page true ⟨asid, page, hf, hw, hu, hx, hd⟩) := HTL.out.put_mine HL300.out ⟨rfl, rfl⟩
                  have HN : Hid ((putT 512 L ⟨asid, page, hf, hw, hu, hx, hd⟩).length ≤ k + 1) := Nat.le_trans (putT_len1 _ _) (Nat.succ_le_succ HLE.out)
                  have hP := TPut_b ⟨asid, page, hf, hw, hu, hx, hd⟩ hT1
                  simp only [Ht.v] at hP
                  go_wp2_with fail
                  refine hP.mono ?_; rintro e w3 ⟨rfl, h3, hf3⟩
                  have hob3 := hf3.blk hob (by simp)
                  have hW3 := hf3.blkH hW1 (by simp)
                  clear o0 o1 o2 o3 o4 o5 o6 o7 o8 hob hT1 hP hW1 hf3
                  obtain ⟨o0, o1, o2, o3, o4, o5, o6, o7, o8⟩ := cells9 hob3
                  obtain ⟨v0, v1, v2, v3, v4, v5, v6⟩ := hW3.cells
                  obtain ⟨f0, f1, f2, f3, f4, f5, f6⟩ := hW3.frozens
                  go_wp2_with fail
                  have hset := hW3.set ⟨asid, page, hf, hw, hu, hx, hd⟩
                  have hcs : Chg [wb] w3 (w3.setCells wb 0 (Ht.cl ⟨asid, page, hf, hw, hu, hx, hd⟩)) := Chg.setCells (by simp) _ _ _ (Chg.refl _ _)
                  have h3s := h3.other hcs (by simp) (by simpa using hwb0)
                  clear v0 v1 v2 v3 v4 v5 v6 f0 f1 f2 f3 f4 f5 f6 hW3 h3
                  simp only [Ht.cl, World.setCells, Nat.zero_add, Nat.reduceAdd] at hset h3s
                  have hW3 := hset
                  have h3 := h3s
                  clear hset h3s hcs
                  have hg := TGet_b asid page h3
                  rw [HV.out.1, HV.out.get] at hg
                  simp only [Ht.v, if_true] at hg
                  refine hg.mono ?_; rintro e w4 ⟨rfl, h4, hc4⟩
                  have hW4 := hW3.chg hc4 (by simp)
                  clear hg
                  have hW5 := hW4.chg ((Chg.refl [] w4).alloc (.cells #[.int .i64 (⟨asid, page, hf, hw, hu, hx, hd⟩ : Ht).a, .int .i64 (⟨asid, page, hf, hw, hu, hx, hd⟩ : Ht).p, .int .i64 (⟨asid, page, hf, hw, hu, hx, hd⟩ : Ht).f, .bool (⟨asid, page, hf, hw, hu, hx, hd⟩ : Ht).w, .bool (⟨asid, page, hf, hw, hu, hx, hd⟩ : Ht).u, .bool (⟨asid, page, hf, hw, hu, hx, hd⟩ : Ht).x, .bool (⟨asid, page, hf, hw, hu, hx, hd⟩ : Ht).d] 31)) (by simp)
                  obtain ⟨v0, v1, v2, v3, v4, v5, v6⟩ := hW5.cells
                  have hq := fun w => run_neH ⟨asid, page, hf, hw, hu, hx, hd⟩ ⟨asid, page, hf, hw, hu, hx, hd⟩ w
                  simp only [Ht.v, Ht.eqb_self, Bool.not_true] at hq
                  clear o0 o1 o2 o3 o4 o5 o6 o7 o8
                  go_wp2_with fail
                  go_roundg (len - (k + 1))
                  case measure => omega
                  case rel => exact ⟨k + 1, putT 512 L ⟨asid, page, hf, hw, hu, hx, hd⟩, true, ⟨asid, page, hf, hw, hu, hx, hd⟩, by omega, by omega, by go_num, rfl, (h4.new ((Chg.refl [] w4).alloc (.cells #[.int .i64 (⟨asid, page, hf, hw, hu, hx, hd⟩ : Ht).a, .int .i64 (⟨asid, page, hf, hw, hu, hx, hd⟩ : Ht).p, .int .i64 (⟨asid, page, hf, hw, hu, hx, hd⟩ : Ht).f, .bool (⟨asid, page, hf, hw, hu, hx, hd⟩ : Ht).w, .bool (⟨asid, page, hf, hw, hu, hx, hd⟩ : Ht).u, .bool (⟨asid, page, hf, hw, hu, hx, hd⟩ : Ht).x, .bool (⟨asid, page, hf, hw, hu, hx, hd⟩ : Ht).d] 31))).less (by simp), hW4.chg ((Chg.refl [] w4).alloc (.cells #[.int .i64 (⟨asid, page, hf, hw, hu, hx, hd⟩ : Ht).a, .int .i64 (⟨asid, page, hf, hw, hu, hx, hd⟩ : Ht).p, .int .i64 (⟨asid, page, hf, hw, hu, hx, hd⟩ : Ht).f, .bool (⟨asid, page, hf, hw, hu, hx, hd⟩ : Ht).w, .bool (⟨asid, page, hf, hw, hu, hx, hd⟩ : Ht).u, .bool (⟨asid, page, hf, hw, hu, hx, hd⟩ : Ht).x, .bool (⟨asid, page, hf, hw, hu, hx, hd⟩ : Ht).d] 31)) (by simp), HN.out, HV.out⟩
              · have e2 : (hp == page) = false := by simp; exact fun e => hp1 e.symm
                have HM : Hid (¬ (asid = asid ∧ hp = page)) := fun e => hp1 e.2.symm
                clear hp1
                cases t with
                | true =>
                  as_aux_lemma =>
                    have HV : Hid (Tells (putT 512 L ⟨asid, hp, hf, hw, hu, hx, hd⟩) asid page true wn) := HTL.out.put_other HL300.out HM.out
                    have HN : Hid ((putT 512 L ⟨asid, hp, hf, hw, hu, hx, hd⟩).length ≤ k + 1) := Nat.le_trans (putT_len1 _ _) (Nat.succ_le_succ HLE.out)
                    have hP := TPut_b ⟨asid, hp, hf, hw, hu, hx, hd⟩ hT1
                    simp only [Ht.v] at hP
                    go_wp2_with fail
                    refine hP.mono ?_; rintro e w3 ⟨rfl, h3, hf3⟩
                    have hob3 := hf3.blk hob (by simp)
                    have hW3 := hf3.blkH hW1 (by simp)
                    clear o0 o1 o2 o3 o4 o5 o6 o7 o8 hob hT1 hP hW1 hf3
                    obtain ⟨o0, o1, o2, o3, o4, o5, o6, o7, o8⟩ := cells9 hob3
                    go_wp2_with fail
                    have hg := TGet_b asid page h3
                    rw [HV.out.1, HV.out.get] at hg
                    simp only [Ht.v, if_true] at hg
                    refine hg.mono ?_; rintro e w4 ⟨rfl, h4, hc4⟩
                    have hW4 := hW3.chg hc4 (by simp)
                    clear hg
                    have hW5 := hW4.chg ((Chg.refl [] w4).alloc (.cells #[.int .i64 wn.a, .int .i64 wn.p, .int .i64 wn.f, .bool wn.w, .bool wn.u, .bool wn.x, .bool wn.d] 31)) (by simp)
                    obtain ⟨v0, v1, v2, v3, v4, v5, v6⟩ := hW5.cells
                    have hq := fun w => run_neH wn wn w
                    simp only [Ht.v, Ht.eqb_self, Bool.not_true] at hq
                    clear o0 o1 o2 o3 o4 o5 o6 o7 o8
                    go_wp2_with fail
                    go_roundg (len - (k + 1))
                    case measure => omega
                    case rel => exact ⟨k + 1, putT 512 L ⟨asid, hp, hf, hw, hu, hx, hd⟩, true, wn, by omega, by omega, by go_num, rfl, (h4.new ((Chg.refl [] w4).alloc (.cells #[.int .i64 wn.a, .int .i64 wn.p, .int .i64 wn.f, .bool wn.w, .bool wn.u, .bool wn.x, .bool wn.d] 31))).less (by simp), hW4.chg ((Chg.refl [] w4).alloc (.cells #[.int .i64 wn.a, .int .i64 wn.p, .int .i64 wn.f, .bool wn.w, .bool wn.u, .bool wn.x, .bool wn.d] 31)) (by simp), HN.out, HV.out⟩
                | false =>
                  as_aux_lemma =>
                    have HV : Hid (Tells (putT 512 L ⟨asid, hp, hf, hw, hu, hx, hd⟩) asid page false wn) := HTL.out.put_other HL300.out HM.out
                    have HN : Hid ((putT 512 L ⟨asid, hp, hf, hw, hu, hx, hd⟩).length ≤ k + 1) := Nat.le_trans (putT_len1 _ _) (Nat.succ_le_succ HLE.out)
                    have hP := TPut_b ⟨asid, hp, hf, hw, hu, hx, hd⟩ hT1
                    simp only [Ht.v] at hP
                    go_wp2_with fail
                    refine hP.mono ?_; rintro e w3 ⟨rfl, h3, hf3⟩
                    have hob3 := hf3.blk hob (by simp)
                    have hW3 := hf3.blkH hW1 (by simp)
                    clear o0 o1 o2 o3 o4 o5 o6 o7 o8 hob hT1 hP hW1 hf3
                    obtain ⟨o0, o1, o2, o3, o4, o5, o6, o7, o8⟩ := cells9 hob3
                    go_wp2_with fail
                    have hg := TGet_b asid page h3
                    rw [HV.out.1, HV.out.get] at hg
                    simp only [Ht.v, Bool.false_eq_true, if_false, Ht.zero] at hg
                    refine hg.mono ?_; rintro e w4 ⟨rfl, h4, hc4⟩
                    have hW4 := hW3.chg hc4 (by simp)
                    clear hg
                    have hq := fun w => run_neH Ht.zero Ht.zero w
                    simp only [Ht.v, Ht.zero, Ht.eqb, beq_self_eq_true, Bool.and_self, Bool.not_true] at hq
                    clear o0 o1 o2 o3 o4 o5 o6 o7 o8
                    go_wp2_with fail
                    go_roundg (len - (k + 1))
                    case measure => omega
                    case rel => exact ⟨k + 1, putT 512 L ⟨asid, hp, hf, hw, hu, hx, hd⟩, false, wn, by omega, by omega, by go_num, rfl, (h4.new ((Chg.refl [] w4).alloc (.cells #[.int .i64 0, .int .i64 0, .int .i64 0, .bool false, .bool false, .bool false, .bool false] 31))).less (by simp), hW4.chg ((Chg.refl [] w4).alloc (.cells #[.int .i64 0, .int .i64 0, .int .i64 0, .bool false, .bool false, .bool false, .bool false] 31)) (by simp), HN.out, HV.out⟩
            · have e1 : (ha == asid) = false := by simp; exact fun e => ha1 e.symm
              have e1n : (ha != asid) = true := by simp; exact fun e => ha1 e.symm
              have HM : Hid (¬ (ha = asid ∧ hp = page)) := fun e => ha1 e.1.symm
              have HA1 : Hid (ha ≠ asid) := fun e => ha1 e.symm
              clear ha1
              cases t with
              | true =>
                as_aux_lemma =>
                  have HV : Hid (Tells (putT 512 L ⟨ha, hp, hf, hw, hu, hx, hd⟩) asid page true wn) := HTL.out.put_other HL300.out HM.out
                  have HN : Hid ((putT 512 L ⟨ha, hp, hf, hw, hu, hx, hd⟩).length ≤ k + 1) := Nat.le_trans (putT_len1 _ _) (Nat.succ_le_succ HLE.out)
                  have hP := TPut_b ⟨ha, hp, hf, hw, hu, hx, hd⟩ hT1
                  simp only [Ht.v] at hP
                  go_wp2_with fail
                  refine hP.mono ?_; rintro e w3 ⟨rfl, h3, hf3⟩
                  have hob3 := hf3.blk hob (by simp)
                  have hW3 := hf3.blkH hW1 (by simp)
                  clear o0 o1 o2 o3 o4 o5 o6 o7 o8 hob hT1 hP hW1 hf3
                  obtain ⟨o0, o1, o2, o3, o4, o5, o6, o7, o8⟩ := cells9 hob3
                  go_wp2_with fail
                  have hg := TGet_b asid page h3
                  rw [HV.out.1, HV.out.get] at hg
                  simp only [Ht.v, if_true] at hg
                  refine hg.mono ?_; rintro e w4 ⟨rfl, h4, hc4⟩
                  have hW4 := hW3.chg hc4 (by simp)
                  clear hg
                  have hW5 := hW4.chg ((Chg.refl [] w4).alloc (.cells #[.int .i64 wn.a, .int .i64 wn.p, .int .i64 wn.f, .bool wn.w, .bool wn.u, .bool wn.x, .bool wn.d] 31)) (by simp)
                  obtain ⟨v0, v1, v2, v3, v4, v5, v6⟩ := hW5.cells
                  have hq := fun w => run_neH wn wn w
                  simp only [Ht.v, Ht.eqb_self, Bool.not_true] at hq
                  clear o0 o1 o2 o3 o4 o5 o6 o7 o8
                  go_wp2_with fail
                  go_roundg (len - (k + 1))
                  case measure => omega
                  case rel => exact ⟨k + 1, putT 512 L ⟨ha, hp, hf, hw, hu, hx, hd⟩, true, wn, by omega, by omega, by go_num, rfl, (h4.new ((Chg.refl [] w4).alloc (.cells #[.int .i64 wn.a, .int .i64 wn.p, .int .i64 wn.f, .bool wn.w, .bool wn.u, .bool wn.x, .bool wn.d] 31))).less (by simp), hW4.chg ((Chg.refl [] w4).alloc (.cells #[.int .i64 wn.a, .int .i64 wn.p, .int .i64 wn.f, .bool wn.w, .bool wn.u, .bool wn.x, .bool wn.d] 31)) (by simp), HN.out, HV.out⟩
              | false =>
                as_aux_lemma =>
                  have HV : Hid (Tells (putT 512 L ⟨ha, hp, hf, hw, hu, hx, hd⟩) asid page false wn) := HTL.out.put_other HL300.out HM.out
                  have HN : Hid ((putT 512 L ⟨ha, hp, hf, hw, hu, hx, hd⟩).length ≤ k + 1) := Nat.le_trans (putT_len1 _ _) (Nat.succ_le_succ HLE.out)
                  have hP := TPut_b ⟨ha, hp, hf, hw, hu, hx, hd⟩ hT1
                  simp only [Ht.v] at hP
                  go_wp2_with fail
                  refine hP.mono ?_; rintro e w3 ⟨rfl, h3, hf3⟩
                  have hob3 := hf3.blk hob (by simp)
                  have hW3 := hf3.blkH hW1 (by simp)
                  clear o0 o1 o2 o3 o4 o5 o6 o7 o8 hob hT1 hP hW1 hf3
                  obtain ⟨o0, o1, o2, o3, o4, o5, o6, o7, o8⟩ := cells9 hob3
                  go_wp2_with fail
                  have hg := TGet_b asid page h3
                  rw [HV.out.1, HV.out.get] at hg
                  simp only [Ht.v, Bool.false_eq_true, if_false, Ht.zero] at hg
                  refine hg.mono ?_; rintro e w4 ⟨rfl, h4, hc4⟩
                  have hW4 := hW3.chg hc4 (by simp)
                  clear hg
                  have hq := fun w => run_neH Ht.zero Ht.zero w
                  simp only [Ht.v, Ht.zero, Ht.eqb, beq_self_eq_true, Bool.and_self, Bool.not_true] at hq
                  clear o0 o1 o2 o3 o4 o5 o6 o7 o8
                  go_wp2_with fail
                  go_roundg (len - (k + 1))
                  case measure => omega
                  case rel => exact ⟨k + 1, putT 512 L ⟨ha, hp, hf, hw, hu, hx, hd⟩, false, wn, by omega, by omega, by go_num, rfl, (h4.new ((Chg.refl [] w4).alloc (.cells #[.int .i64 0, .int .i64 0, .int .i64 0, .bool false, .bool false, .bool false, .bool false] 31))).less (by simp), hW4.chg ((Chg.refl [] w4).alloc (.cells #[.int .i64 0, .int .i64 0, .int .i64 0, .bool false, .bool false, .bool false, .bool false] 31)) (by simp), HN.out, HV.out⟩
        by_cases hw2 : what = 2
        · subst hw2
          focus
            by_cases ha1 : asid = ha
            · subst ha1
              by_cases hp1 : page = hp
              · subst hp1
                cases t with
                | true =>
                  have HV : Hid (Tells (putT 512 L ⟨asid, page, hf, hw, hu, hx, hd⟩) asid page true ⟨asid, page, hf, hw, hu, hx, hd⟩) := HTL.out.put_mine HL300.out ⟨rfl, rfl⟩
                  have HN : Hid ((putT 512 L ⟨asid, page, hf, hw, hu, hx, hd⟩).length ≤ k + 1) := Nat.le_trans (putT_len1 _ _) (Nat.succ_le_succ HLE.out)
                  have hP := TPut_b ⟨asid, page, hf, hw, hu, hx, hd⟩ hT1
                  simp only [Ht.v] at hP
                  go_wp2_with fail
                  refine hP.mono ?_; rintro e w3 ⟨rfl, h3, hf3⟩
                  have hob3 := hf3.blk hob (by simp)
                  have hW3 := hf3.blkH hW1 (by simp)
                  clear o0 o1 o2 o3 o4 o5 o6 o7 o8 hob hT1 hP hW1 hf3
                  obtain ⟨o0, o1, o2, o3, o4, o5, o6, o7, o8⟩ := cells9 hob3
                  obtain ⟨v0, v1, v2, v3, v4, v5, v6⟩ := hW3.cells
                  obtain ⟨f0, f1, f2, f3, f4, f5, f6⟩ := hW3.frozens
                  go_wp2_with fail
                  have hset := hW3.set ⟨asid, page, hf, hw, hu, hx, hd⟩
                  have hcs : Chg [wb] w3 (w3.setCells wb 0 (Ht.cl ⟨asid, page, hf, hw, hu, hx, hd⟩)) := Chg.setCells (by simp) _ _ _ (Chg.refl _ _)
                  have h3s := h3.other hcs (by simp) (by simpa using hwb0)
                  clear v0 v1 v2 v3 v4 v5 v6 f0 f1 f2 f3 f4 f5 f6 hW3 h3
                  simp only [Ht.cl, World.setCells, Nat.zero_add, Nat.reduceAdd] at hset h3s
                  have hW3 := hset
                  have h3 := h3s
                  clear hset h3s hcs
                  have hg := TGet_b asid page h3
                  rw [HV.out.1, HV.out.get] at hg
                  simp only [Ht.v, if_true] at hg
                  refine hg.mono ?_; rintro e w4 ⟨rfl, h4, hc4⟩
                  have hW4 := hW3.chg hc4 (by simp)
                  clear hg
                  have hW5 := hW4.chg ((Chg.refl [] w4).alloc (.cells #[.int .i64 (⟨asid, page, hf, hw, hu, hx, hd⟩ : Ht).a, .int .i64 (⟨asid, page, hf, hw, hu, hx, hd⟩ : Ht).p, .int .i64 (⟨asid, page, hf, hw, hu, hx, hd⟩ : Ht).f, .bool (⟨asid, page, hf, hw, hu, hx, hd⟩ : Ht).w, .bool (⟨asid, page, hf, hw, hu, hx, hd⟩ : Ht).u, .bool (⟨asid, page, hf, hw, hu, hx, hd⟩ : Ht).x, .bool (⟨asid, page, hf, hw, hu, hx, hd⟩ : Ht).d] 31)) (by simp)
                  obtain ⟨v0, v1, v2, v3, v4, v5, v6⟩ := hW5.cells
                  have hq := fun w => run_neH ⟨asid, page, hf, hw, hu, hx, hd⟩ ⟨asid, page, hf, hw, hu, hx, hd⟩ w
                  simp only [Ht.v, Ht.eqb_self, Bool.not_true] at hq
                  clear o0 o1 o2 o3 o4 o5 o6 o7 o8
                  go_wp2_with fail
                  go_roundg (len - (k + 1))
                  case measure => omega
                  case rel => exact ⟨k + 1, putT 512 L ⟨asid, page, hf, hw, hu, hx, hd⟩, true, ⟨asid, page, hf, hw, hu, hx, hd⟩, by omega, by omega, by go_num, rfl, (h4.new ((Chg.refl [] w4).alloc (.cells #[.int .i64 (⟨asid, page, hf, hw, hu, hx, hd⟩ : Ht).a, .int .i64 (⟨asid, page, hf, hw, hu, hx, hd⟩ : Ht).p, .int .i64 (⟨asid, page, hf, hw, hu, hx, hd⟩ : Ht).f, .bool (⟨asid, page, hf, hw, hu, hx, hd⟩ : Ht).w, .bool (⟨asid, page, hf, hw, hu, hx, hd⟩ : Ht).u, .bool (⟨asid, page, hf, hw, hu, hx, hd⟩ : Ht).x, .bool (⟨asid, page, hf, hw, hu, hx, hd⟩ : Ht).d] 31))).less (by simp), hW4.chg ((Chg.refl [] w4).alloc (.cells #[.int .i64 (⟨asid, page, hf, hw, hu, hx, hd⟩ : Ht).a, .int .i64 (⟨asid, page, hf, hw, hu, hx, hd⟩ : Ht).p, .int .i64 (⟨asid, page, hf, hw, hu, hx, hd⟩ : Ht).f, .bool (⟨asid, page, hf, hw, hu, hx, hd⟩ : Ht).w, .bool (⟨asid, page, hf, hw, hu, hx, hd⟩ : Ht).u, .bool (⟨asid, page, hf, hw, hu, hx, hd⟩ : Ht).x, .bool (⟨asid, page, hf, hw, hu, hx, hd⟩ : Ht).d] 31)) (by simp), HN.out, HV.out⟩
                | false =>
                  have HV : Hid (Tells (putT 512 L ⟨asid, page, hf, hw, hu, hx, hd⟩) asid page true ⟨asid, page, hf, hw, hu, hx, hd⟩) := HTL.out.put_mine HL300.out ⟨rfl, rfl⟩
                  have HN : Hid ((putT 512 L ⟨asid, page, hf, hw, hu, hx, hd⟩).length ≤ k + 1) := Nat.le_trans (putT_len1 _ _) (Nat.succ_le_succ HLE.out)
                  have hP := TPut_b ⟨asid, page, hf, hw, hu, hx, hd⟩ hT1
                  simp only [Ht.v] at hP
                  go_wp2_with fail
                  refine hP.mono ?_; rintro e w3 ⟨rfl, h3, hf3⟩
                  have hob3 := hf3.blk hob (by simp)
                  have hW3 := hf3.blkH hW1 (by simp)
                  clear o0 o1 o2 o3 o4 o5 o6 o7 o8 hob hT1 hP hW1 hf3
                  obtain ⟨o0, o1, o2, o3, o4, o5, o6, o7, o8⟩ := cells9 hob3
                  obtain ⟨v0, v1, v2, v3, v4, v5, v6⟩ := hW3.cells
                  obtain ⟨f0, f1, f2, f3, f4, f5, f6⟩ := hW3.frozens
                  go_wp2_with fail
                  have hset := hW3.set ⟨asid, page, hf, hw, hu, hx, hd⟩
                  have hcs : Chg [wb] w3 (w3.setCells wb 0 (Ht.cl ⟨asid, page, hf, hw, hu, hx, hd⟩)) := Chg.setCells (by simp) _ _ _ (Chg.refl _ _)
                  have h3s := h3.other hcs (by simp) (by simpa using hwb0)
                  clear v0 v1 v2 v3 v4 v5 v6 f0 f1 f2 f3 f4 f5 f6 hW3 h3
                  simp only [Ht.cl, World.setCells, Nat.zero_add, Nat.reduceAdd] at hset h3s
                  have hW3 := hset
                  have h3 := h3s
                  clear hset h3s hcs
                  have hg := TGet_b asid page h3
                  rw [HV.out.1, HV.out.get] at hg
                  simp only [Ht.v, if_true] at hg
                  refine hg.mono ?_; rintro e w4 ⟨rfl, h4, hc4⟩
                  have hW4 := hW3.chg hc4 (by simp)
                  clear hg
                  have hW5 := hW4.chg ((Chg.refl [] w4).alloc (.cells #[.int .i64 (⟨asid, page, hf, hw, hu, hx, hd⟩ : Ht).a, .int .i64 (⟨asid, page, hf, hw, hu, hx, hd⟩ : Ht).p, .int .i64 (⟨asid, page, hf, hw, hu, hx, hd⟩ : Ht).f, .bool (⟨asid, page, hf, hw, hu, hx, hd⟩ : Ht).w, .bool (⟨asid, page, hf, hw, hu, hx, hd⟩ : Ht).u, .bool (⟨asid, page, hf, hw, hu, hx, hd⟩ : Ht).x, .bool (⟨asid, page, hf, hw, hu, hx, hd⟩ : Ht).d] 31)) (by simp)
                  obtain ⟨v0, v1, v2, v3, v4, v5, v6⟩ := hW5.cells
                  have hq := fun w => run_neH ⟨asid, page, hf, hw, hu, hx, hd⟩ ⟨asid, page, hf, hw, hu, hx, hd⟩ w
                  simp only [Ht.v, Ht.eqb_self, Bool.not_true] at hq
                  clear o0 o1 o2 o3 o4 o5 o6 o7 o8
                  go_wp2_with fail
                  go_roundg (len - (k + 1))
                  case measure => omega
                  case rel => exact ⟨k + 1, putT 512 L ⟨asid, page, hf, hw, hu, hx, hd⟩, true, ⟨asid, page, hf, hw, hu, hx, hd⟩, by omega, by omega, by go_num, rfl, (h4.new ((Chg.refl [] w4).alloc (.cells #[.int .i64 (⟨asid, page, hf, hw, hu, hx, hd⟩ : Ht).a, .int .i64 (⟨asid, page, hf, hw, hu, hx, hd⟩ : Ht).p, .int .i64 (⟨asid, page, hf, hw, hu, hx, hd⟩ : Ht).f, .bool (⟨asid, page, hf, hw, hu, hx, hd⟩ : Ht).w, .bool (⟨asid, page, hf, hw, hu, hx, hd⟩ : Ht).u, .bool (⟨asid, page, hf, hw, hu, hx, hd⟩ : Ht).x, .bool (⟨asid, page, hf, hw, hu, hx, hd⟩ : Ht).d] 31))).less (by simp), hW4.chg ((Chg.refl [] w4).alloc (.cells #[.int .i64 (⟨asid, page, hf, hw, hu, hx, hd⟩ : Ht).a, .int .i64 (⟨asid, page, hf, hw, hu, hx, hd⟩ : Ht).p, .int .i64 (⟨asid, page, hf, hw, hu, hx, hd⟩ : Ht).f, .bool (⟨asid, page, hf, hw, hu, hx, hd⟩ : Ht).w, .bool (⟨asid, page, hf, hw, hu, hx, hd⟩ : Ht).u, .bool (⟨asid, page, hf, hw, hu, hx, hd⟩ : Ht).x, .bool (⟨asid, page, hf, hw, hu, hx, hd⟩ : Ht).d] 31)) (by simp), HN.out, HV.out⟩
              · have e2 : (hp == page) = false := by simp; exact fun e => hp1 e.symm
                have HM : Hid (¬ (asid = asid ∧ hp = page)) := fun e => hp1 e.2.symm
                clear hp1
                cases t with
                | true =>
                  as_aux_lemma =>
                    have HV : Hid (Tells (putT 512 L ⟨asid, hp, hf, hw, hu, hx, hd⟩) asid page true wn) := HTL.out.put_other HL300.out HM.out
                    have HN : Hid ((putT 512 L ⟨asid, hp, hf, hw, hu, hx, hd⟩).length ≤ k + 1) := Nat.le_trans (putT_len1 _ _) (Nat.succ_le_succ HLE.out)
                    have hP := TPut_b ⟨asid, hp, hf, hw, hu, hx, hd⟩ hT1
                    simp only [Ht.v] at hP
                    go_wp2_with fail
                    refine hP.mono ?_; rintro e w3 ⟨rfl, h3, hf3⟩
                    have hob3 := hf3.blk hob (by simp)
                    have hW3 := hf3.blkH hW1 (by simp)
                    clear o0 o1 o2 o3 o4 o5 o6 o7 o8 hob hT1 hP hW1 hf3
                    obtain ⟨o0, o1, o2, o3, o4, o5, o6, o7, o8⟩ := cells9 hob3
                    go_wp2_with fail
                    have hg := TGet_b asid page h3
                    rw [HV.out.1, HV.out.get] at hg
                    simp only [Ht.v, if_true] at hg
                    refine hg.mono ?_; rintro e w4 ⟨rfl, h4, hc4⟩
                    have hW4 := hW3.chg hc4 (by simp)
                    clear hg
                    have hW5 := hW4.chg ((Chg.refl [] w4).alloc (.cells #[.int .i64 wn.a, .int .i64 wn.p, .int .i64 wn.f, .bool wn.w, .bool wn.u, .bool wn.x, .bool wn.d] 31)) (by simp)
                    obtain ⟨v0, v1, v2, v3, v4, v5, v6⟩ := hW5.cells
                    have hq := fun w => run_neH wn wn w
                    simp only [Ht.v, Ht.eqb_self, Bool.not_true] at hq
                    clear o0 o1 o2 o3 o4 o5 o6 o7 o8
                    go_wp2_with fail
                    go_roundg (len - (k + 1))
                    case measure => omega
                    case rel => exact ⟨k + 1, putT 512 L ⟨asid, hp, hf, hw, hu, hx, hd⟩, true, wn, by omega, by omega, by go_num, rfl, (h4.new ((Chg.refl [] w4).alloc (.cells #[.int .i64 wn.a, .int .i64 wn.p, .int .i64 wn.f, .bool wn.w, .bool wn.u, .bool wn.x, .bool wn.d] 31))).less (by simp), hW4.chg ((Chg.refl [] w4).alloc (.cells #[.int .i64 wn.a, .int .i64 wn.p, .int .i64 wn.f, .bool wn.w, .bool wn.u, .bool wn.x, .bool wn.d] 31)) (by simp), HN.out, HV.out⟩
                | false =>
                  as_aux_lemma =>
                    have HV : Hid (Tells (putT 512 L ⟨asid, hp, hf, hw, hu, hx, hd⟩) asid page false wn) := HTL.out.put_other HL300.out HM.out
                    have HN : Hid ((putT 512 L ⟨asid, hp, hf, hw, hu, hx, hd⟩).length ≤ k + 1) := Nat.le_trans (putT_len1 _ _) (Nat.succ_le_succ HLE.out)
                    have hP := TPut_b ⟨asid, hp, hf, hw, hu, hx, hd⟩ hT1
                    simp only [Ht.v] at hP
                    go_wp2_with fail
                    refine hP.mono ?_; rintro e w3 ⟨rfl, h3, hf3⟩
                    have hob3 := hf3.blk hob (by simp)
                    have hW3 := hf3.blkH hW1 (by simp)
                    clear o0 o1 o2 o3 o4 o5 o6 o7 o8 hob hT1 hP hW1 hf3
                    obtain ⟨o0, o1, o2, o3, o4, o5, o6, o7, o8⟩ := cells9 hob3
                    go_wp2_with fail
                    have hg := TGet_b asid page h3
                    rw [HV.out.1, HV.out.get] at hg
                    simp only [Ht.v, Bool.false_eq_true, if_false, Ht.zero] at hg
                    refine hg.mono ?_; rintro e w4 ⟨rfl, h4, hc4⟩
                    have hW4 := hW3.chg hc4 (by simp)
                    clear hg
                    have hq := fun w => run_neH Ht.zero Ht.zero w
                    simp only [Ht.v, Ht.zero, Ht.eqb, beq_self_eq_true, Bool.and_self, Bool.not_true] at hq
                    clear o0 o1 o2 o3 o4 o5 o6 o7 o8
                    go_wp2_with fail
                    go_roundg (len - (k + 1))
                    case measure => omega
                    case rel => exact ⟨k + 1, putT 512 L ⟨asid, hp, hf, hw, hu, hx, hd⟩, false, wn, by omega, by omega, by go_num, rfl, (h4.new ((Chg.refl [] w4).alloc (.cells #[.int .i64 0, .int .i64 0, .int .i64 0, .bool false, .bool false, .bool false, .bool false] 31))).less (by simp), hW4.chg ((Chg.refl [] w4).alloc (.cells #[.int .i64 0, .int .i64 0, .int .i64 0, .bool false, .bool false, .bool false, .bool false] 31)) (by simp), HN.out, HV.out⟩
            · have e1 : (ha == asid) = false := by simp; exact fun e => ha1 e.symm
              have e1n : (ha != asid) = true := by simp; exact fun e => ha1 e.symm
              have HM : Hid (¬ (ha = asid ∧ hp = page)) := fun e => ha1 e.1.symm
              have HA1 : Hid (ha ≠ asid) := fun e => ha1 e.symm
              clear ha1
              cases t with
              | true =>
                as_aux_lemma =>
                  have HV : Hid (Tells (putT 512 L ⟨ha, hp, hf, hw, hu, hx, hd⟩) asid page true wn) := HTL.out.put_other HL300.out HM.out
                  have HN : Hid ((putT 512 L ⟨ha, hp, hf, hw, hu, hx, hd⟩).length ≤ k + 1) := Nat.le_trans (putT_len1 _ _) (Nat.succ_le_succ HLE.out)
                  have hP := TPut_b ⟨ha, hp, hf, hw, hu, hx, hd⟩ hT1
                  simp only [Ht.v] at hP
                  go_wp2_with fail
                  refine hP.mono ?_; rintro e w3 ⟨rfl, h3, hf3⟩
                  have hob3 := hf3.blk hob (by simp)
                  have hW3 := hf3.blkH hW1 (by simp)
                  clear o0 o1 o2 o3 o4 o5 o6 o7 o8 hob hT1 hP hW1 hf3
                  obtain ⟨o0, o1, o2, o3, o4, o5, o6, o7, o8⟩ := cells9 hob3
                  go_wp2_with fail
                  have hg := TGet_b asid page h3
                  rw [HV.out.1, HV.out.get] at hg
                  simp only [Ht.v, if_true] at hg
                  refine hg.mono ?_; rintro e w4 ⟨rfl, h4, hc4⟩
                  have hW4 := hW3.chg hc4 (by simp)
                  clear hg
                  have hW5 := hW4.chg ((Chg.refl [] w4).alloc (.cells #[.int .i64 wn.a, .int .i64 wn.p, .int .i64 wn.f, .bool wn.w, .bool wn.u, .bool wn.x, .bool wn.d] 31)) (by simp)
                  obtain ⟨v0, v1, v2, v3, v4, v5, v6⟩ := hW5.cells
                  have hq := fun w => run_neH wn wn w
                  simp only [Ht.v, Ht.eqb_self, Bool.not_true] at hq
                  clear o0 o1 o2 o3 o4 o5 o6 o7 o8
                  go_wp2_with fail
                  go_roundg (len - (k + 1))
                  case measure => omega
                  case rel => exact ⟨k + 1, putT 512 L ⟨ha, hp, hf, hw, hu, hx, hd⟩, true, wn, by omega, by omega, by go_num, rfl, (h4.new ((Chg.refl [] w4).alloc (.cells #[.int .i64 wn.a, .int .i64 wn.p, .int .i64 wn.f, .bool wn.w, .bool wn.u, .bool wn.x, .bool wn.d] 31))).less (by simp), hW4.chg ((Chg.refl [] w4).alloc (.cells #[.int .i64 wn.a, .int .i64 wn.p, .int .i64 wn.f, .bool wn.w, .bool wn.u, .bool wn.x, .bool wn.d] 31)) (by simp), HN.out, HV.out⟩
              | false =>
                as_aux_lemma =>
                  have HV : Hid (Tells (putT 512 L ⟨ha, hp, hf, hw, hu, hx, hd⟩) asid page false wn) := HTL.out.put_other HL300.out HM.out
                  have HN : Hid ((putT 512 L ⟨ha, hp, hf, hw, hu, hx, hd⟩).length ≤ k + 1) := Nat.le_trans (putT_len1 _ _) (Nat.succ_le_succ HLE.out)
                  have hP := TPut_b ⟨ha, hp, hf, hw, hu, hx, hd⟩ hT1
                  simp only [Ht.v] at hP
                  go_wp2_with fail
                  refine hP.mono ?_; rintro e w3 ⟨rfl, h3, hf3⟩
                  have hob3 := hf3.blk hob (by simp)
                  have hW3 := hf3.blkH hW1 (by simp)
                  clear o0 o1 o2 o3 o4 o5 o6 o7 o8 hob hT1 hP hW1 hf3
                  obtain ⟨o0, o1, o2, o3, o4, o5, o6, o7, o8⟩ := cells9 hob3
                  go_wp2_with fail
                  have hg := TGet_b asid page h3
                  rw [HV.out.1, HV.out.get] at hg
                  simp only [Ht.v, Bool.false_eq_true, if_false, Ht.zero] at hg
                  refine hg.mono ?_; rintro e w4 ⟨rfl, h4, hc4⟩
                  have hW4 := hW3.chg hc4 (by simp)
                  clear hg
                  have hq := fun w => run_neH Ht.zero Ht.zero w
                  simp only [Ht.v, Ht.zero, Ht.eqb, beq_self_eq_true, Bool.and_self, Bool.not_true] at hq
                  clear o0 o1 o2 o3 o4 o5 o6 o7 o8
                  go_wp2_with fail
                  go_roundg (len - (k + 1))
                  case measure => omega
                  case rel => exact ⟨k + 1, putT 512 L ⟨ha, hp, hf, hw, hu, hx, hd⟩, false, wn, by omega, by omega, by go_num, rfl, (h4.new ((Chg.refl [] w4).alloc (.cells #[.int .i64 0, .int .i64 0, .int .i64 0, .bool false, .bool false, .bool false, .bool false] 31))).less (by simp), hW4.chg ((Chg.refl [] w4).alloc (.cells #[.int .i64 0, .int .i64 0, .int .i64 0, .bool false, .bool false, .bool false, .bool false] 31)) (by simp), HN.out, HV.out⟩
        have hw3' : (what == 3) = false := by simp [hw3]
        have hw4' : (what == 4) = false := by simp [hw4]
        have hw5' : (what == 5) = false := by simp [hw5]
        have hw0' : (what == 0) = false := by simp [hw0]
        have hw1' : (what == 1) = false := by simp [hw1]
        have hw2' : (what == 2) = false := by simp [hw2]
        clear hw3 hw4 hw5 hw0 hw1 hw2
        as_aux_lemma =>
          by_cases ha1 : asid = ha
          · subst ha1
            by_cases hp1 : page = hp
            · subst hp1
              cases t with
              | true =>
                have HV : Hid (Tells L asid page true wn) := HTL.out
                have HN : Hid (L.length ≤ k + 1) := Nat.le_succ_of_le HLE.out
                have h3 := hT1
                have hW3 := hW1
                go_wp2_with fail
                have hg := TGet_b asid page h3
                rw [HV.out.1, HV.out.get] at hg
                simp only [Ht.v, if_true] at hg
                refine hg.mono ?_; rintro e w4 ⟨rfl, h4, hc4⟩
                have hW4 := hW3.chg hc4 (by simp)
                clear hg
                have hW5 := hW4.chg ((Chg.refl [] w4).alloc (.cells #[.int .i64 wn.a, .int .i64 wn.p, .int .i64 wn.f, .bool wn.w, .bool wn.u, .bool wn.x, .bool wn.d] 31)) (by simp)
                obtain ⟨v0, v1, v2, v3, v4, v5, v6⟩ := hW5.cells
                have hq := fun w => run_neH wn wn w
                simp only [Ht.v, Ht.eqb_self, Bool.not_true] at hq
                clear o0 o1 o2 o3 o4 o5 o6 o7 o8
                go_wp2_with fail
                go_roundg (len - (k + 1))
                case measure => omega
                case rel => exact ⟨k + 1, L, true, wn, by omega, by omega, by go_num, rfl, (h4.new ((Chg.refl [] w4).alloc (.cells #[.int .i64 wn.a, .int .i64 wn.p, .int .i64 wn.f, .bool wn.w, .bool wn.u, .bool wn.x, .bool wn.d] 31))).less (by simp), hW4.chg ((Chg.refl [] w4).alloc (.cells #[.int .i64 wn.a, .int .i64 wn.p, .int .i64 wn.f, .bool wn.w, .bool wn.u, .bool wn.x, .bool wn.d] 31)) (by simp), HN.out, HV.out⟩
              | false =>
                have HV : Hid (Tells L asid page false wn) := HTL.out
                have HN : Hid (L.length ≤ k + 1) := Nat.le_succ_of_le HLE.out
                have h3 := hT1
                have hW3 := hW1
                go_wp2_with fail
                have hg := TGet_b asid page h3
                rw [HV.out.1, HV.out.get] at hg
                simp only [Ht.v, Bool.false_eq_true, if_false, Ht.zero] at hg
                refine hg.mono ?_; rintro e w4 ⟨rfl, h4, hc4⟩
                have hW4 := hW3.chg hc4 (by simp)
                clear hg
                have hq := fun w => run_neH Ht.zero Ht.zero w
                simp only [Ht.v, Ht.zero, Ht.eqb, beq_self_eq_true, Bool.and_self, Bool.not_true] at hq
                clear o0 o1 o2 o3 o4 o5 o6 o7 o8
                go_wp2_with fail
                go_roundg (len - (k + 1))
                case measure => omega
                case rel => exact ⟨k + 1, L, false, wn, by omega, by omega, by go_num, rfl, (h4.new ((Chg.refl [] w4).alloc (.cells #[.int .i64 0, .int .i64 0, .int .i64 0, .bool false, .bool false, .bool false, .bool false] 31))).less (by simp), hW4.chg ((Chg.refl [] w4).alloc (.cells #[.int .i64 0, .int .i64 0, .int .i64 0, .bool false, .bool false, .bool false, .bool false] 31)) (by simp), HN.out, HV.out⟩
            · have e2 : (hp == page) = false := by simp; exact fun e => hp1 e.symm
              have HM : Hid (¬ (asid = asid ∧ hp = page)) := fun e => hp1 e.2.symm
              clear hp1
              cases t with
              | true =>
                have HV : Hid (Tells L asid page true wn) := HTL.out
                have HN : Hid (L.length ≤ k + 1) := Nat.le_succ_of_le HLE.out
                have h3 := hT1
                have hW3 := hW1
                go_wp2_with fail
                have hg := TGet_b asid page h3
                rw [HV.out.1, HV.out.get] at hg
                simp only [Ht.v, if_true] at hg
                refine hg.mono ?_; rintro e w4 ⟨rfl, h4, hc4⟩
                have hW4 := hW3.chg hc4 (by simp)
                clear hg
                have hW5 := hW4.chg ((Chg.refl [] w4).alloc (.cells #[.int .i64 wn.a, .int .i64 wn.p, .int .i64 wn.f, .bool wn.w, .bool wn.u, .bool wn.x, .bool wn.d] 31)) (by simp)
                obtain ⟨v0, v1, v2, v3, v4, v5, v6⟩ := hW5.cells
                have hq := fun w => run_neH wn wn w
                simp only [Ht.v, Ht.eqb_self, Bool.not_true] at hq
                clear o0 o1 o2 o3 o4 o5 o6 o7 o8
                go_wp2_with fail
                go_roundg (len - (k + 1))
                case measure => omega
                case rel => exact ⟨k + 1, L, true, wn, by omega, by omega, by go_num, rfl, (h4.new ((Chg.refl [] w4).alloc (.cells #[.int .i64 wn.a, .int .i64 wn.p, .int .i64 wn.f, .bool wn.w, .bool wn.u, .bool wn.x, .bool wn.d] 31))).less (by simp), hW4.chg ((Chg.refl [] w4).alloc (.cells #[.int .i64 wn.a, .int .i64 wn.p, .int .i64 wn.f, .bool wn.w, .bool wn.u, .bool wn.x, .bool wn.d] 31)) (by simp), HN.out, HV.out⟩
              | false =>
                have HV : Hid (Tells L asid page false wn) := HTL.out
                have HN : Hid (L.length ≤ k + 1) := Nat.le_succ_of_le HLE.out
                have h3 := hT1
                have hW3 := hW1
                go_wp2_with fail
                have hg := TGet_b asid page h3
                rw [HV.out.1, HV.out.get] at hg
                simp only [Ht.v, Bool.false_eq_true, if_false, Ht.zero] at hg
                refine hg.mono ?_; rintro e w4 ⟨rfl, h4, hc4⟩
                have hW4 := hW3.chg hc4 (by simp)
                clear hg
                have hq := fun w => run_neH Ht.zero Ht.zero w
                simp only [Ht.v, Ht.zero, Ht.eqb, beq_self_eq_true, Bool.and_self, Bool.not_true] at hq
                clear o0 o1 o2 o3 o4 o5 o6 o7 o8
                go_wp2_with fail
                go_roundg (len - (k + 1))
                case measure => omega
                case rel => exact ⟨k + 1, L, false, wn, by omega, by omega, by go_num, rfl, (h4.new ((Chg.refl [] w4).alloc (.cells #[.int .i64 0, .int .i64 0, .int .i64 0, .bool false, .bool false, .bool false, .bool false] 31))).less (by simp), hW4.chg ((Chg.refl [] w4).alloc (.cells #[.int .i64 0, .int .i64 0, .int .i64 0, .bool false, .bool false, .bool false, .bool false] 31)) (by simp), HN.out, HV.out⟩
          · have e1 : (ha == asid) = false := by simp; exact fun e => ha1 e.symm
            have e1n : (ha != asid) = true := by simp; exact fun e => ha1 e.symm
            have HM : Hid (¬ (ha = asid ∧ hp = page)) := fun e => ha1 e.1.symm
            have HA1 : Hid (ha ≠ asid) := fun e => ha1 e.symm
            clear ha1
            cases t with
            | true =>
              have HV : Hid (Tells L asid page true wn) := HTL.out
              have HN : Hid (L.length ≤ k + 1) := Nat.le_succ_of_le HLE.out
              have h3 := hT1
              have hW3 := hW1
              go_wp2_with fail
              have hg := TGet_b asid page h3
              rw [HV.out.1, HV.out.get] at hg
              simp only [Ht.v, if_true] at hg
              refine hg.mono ?_; rintro e w4 ⟨rfl, h4, hc4⟩
              have hW4 := hW3.chg hc4 (by simp)
              clear hg
              have hW5 := hW4.chg ((Chg.refl [] w4).alloc (.cells #[.int .i64 wn.a, .int .i64 wn.p, .int .i64 wn.f, .bool wn.w, .bool wn.u, .bool wn.x, .bool wn.d] 31)) (by simp)
              obtain ⟨v0, v1, v2, v3, v4, v5, v6⟩ := hW5.cells
              have hq := fun w => run_neH wn wn w
              simp only [Ht.v, Ht.eqb_self, Bool.not_true] at hq
              clear o0 o1 o2 o3 o4 o5 o6 o7 o8
              go_wp2_with fail
              go_roundg (len - (k + 1))
              case measure => omega
              case rel => exact ⟨k + 1, L, true, wn, by omega, by omega, by go_num, rfl, (h4.new ((Chg.refl [] w4).alloc (.cells #[.int .i64 wn.a, .int .i64 wn.p, .int .i64 wn.f, .bool wn.w, .bool wn.u, .bool wn.x, .bool wn.d] 31))).less (by simp), hW4.chg ((Chg.refl [] w4).alloc (.cells #[.int .i64 wn.a, .int .i64 wn.p, .int .i64 wn.f, .bool wn.w, .bool wn.u, .bool wn.x, .bool wn.d] 31)) (by simp), HN.out, HV.out⟩
            | false =>
              have HV : Hid (Tells L asid page false wn) := HTL.out
              have HN : Hid (L.length ≤ k + 1) := Nat.le_succ_of_le HLE.out
              have h3 := hT1
              have hW3 := hW1
              go_wp2_with fail
              have hg := TGet_b asid page h3
              rw [HV.out.1, HV.out.get] at hg
              simp only [Ht.v, Bool.false_eq_true, if_false, Ht.zero] at hg
              refine hg.mono ?_; rintro e w4 ⟨rfl, h4, hc4⟩
              have hW4 := hW3.chg hc4 (by simp)
              clear hg
              have hq := fun w => run_neH Ht.zero Ht.zero w
              simp only [Ht.v, Ht.zero, Ht.eqb, beq_self_eq_true, Bool.and_self, Bool.not_true] at hq
              clear o0 o1 o2 o3 o4 o5 o6 o7 o8
              go_wp2_with fail
              go_roundg (len - (k + 1))
              case measure => omega
              case rel => exact ⟨k + 1, L, false, wn, by omega, by omega, by go_num, rfl, (h4.new ((Chg.refl [] w4).alloc (.cells #[.int .i64 0, .int .i64 0, .int .i64 0, .bool false, .bool false, .bool false, .bool false] 31))).less (by simp), hW4.chg ((Chg.refl [] w4).alloc (.cells #[.int .i64 0, .int .i64 0, .int .i64 0, .bool false, .bool false, .bool false, .bool false] 31)) (by simp), HN.out, HV.out⟩
      · have hltz : ¬ (k : Int) < (len : Int) := by omega
        clear hlt hl
        go_wp2_with fail
        go_ret
        exact ⟨rfl, HT.out.chg0⟩

end Go.Proofs.Ytikdoldmhlbklaa
