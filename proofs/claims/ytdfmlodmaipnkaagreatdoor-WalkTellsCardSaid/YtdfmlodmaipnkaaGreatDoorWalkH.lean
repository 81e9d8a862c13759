/-
  The laws' own helpers: two paths that are alike; a guest of 16 frames, with words.
-/
import Derived.Test.YtdfmlodmaipnkaaGreatDoorWalkA
import Derived.Test.YtdfmlodmaipnkaaGreatDoorWalkE
import Derived.Test.YtdfmlodmaipnkaaGreatDoorWalkS
import Derived.Test.YtdfmlodmaipnkaaGreatDoorGmapHead
import Derived.Test.YtdfmlodmaipnkaaGreatDoorGmapArg
import Derived.Test.YtdfmlodmaipnkaaGreatDoorRightA
import Derived.Test.YtdfmlodmaipnkaaGreatDoorFrameAt
import Derived.BigQuiet
import Derived.StillTailTactics
import Derived.Maps.Ext
namespace Go.Proofs.YtdfmlodmaipnkaaGreatDoor
open Go.RowKit Go.Maps

def eqA (a b : Int × Int) : Bool := a.1 == b.1 && a.2 == b.2
theorem eqA_iff (a b : Int × Int) : eqA a b = true ↔ a = b := by
  obtain ⟨a1, a2⟩ := a; obtain ⟨b1, b2⟩ := b
  simp [eqA]
theorem eqA_dec (a b : Int × Int) : eqA a b = decide (a = b) := by rw [Bool.eq_iff_iff, eqA_iff]; simp
set_option maxRecDepth 100000 in
theorem run_inA (a b : Int × Int) (w : World) : (Op.equalIn 10000 51 (.agg #[.int .i64 a.1, .int .i64 a.2]) (.agg #[.int .i64 b.1, .int .i64 b.2])).run Tryz.prog w = .ok (eqA a b) w := by
  rw [run_equalIn_struct w 9999 _ _ _ (by kernel_rfl) (by kernel_rfl)]
  simp only [Program.fieldsOf, Tryz.underlying51]
  refine fields_step (c := a.1 == b.1) (r := a.2 == b.2) (by decide) (part_int w _ .i64 Tryz.underlying3 _ 0 a.1 rfl) (part_int w _ .i64 Tryz.underlying3 _ 0 b.1 rfl) (run_equalIn_int w 9998 _ .i64 .i64 a.1 b.1 Tryz.underlying3) ?_
  exact fields_int Tryz.underlying3 (by decide) rfl (part_int w _ .i64 Tryz.underlying3 _ 1 a.2 rfl) (part_int w _ .i64 Tryz.underlying3 _ 1 b.2 rfl) fields_nil
theorem run_eqlA (g i g' i' : Int) (w : World) : (binOp .eql 51 (.agg #[.int .i64 g, .int .i64 i]) (.agg #[.int .i64 g', .int .i64 i'])).run Tryz.prog w = .ok (.bool (eqA (g, i) (g', i'))) w := by
  rw [run_eql_struct, run_inA (g, i) (g', i')]; rfl
theorem run_nelA (g i g' i' : Int) (w : World) : (binOp .neq 51 (.agg #[.int .i64 g, .int .i64 i]) (.agg #[.int .i64 g', .int .i64 i'])).run Tryz.prog w = .ok (.bool (!eqA (g, i) (g', i'))) w := by
  rw [run_neq_struct, run_inA (g, i) (g', i')]; rfl
theorem run_neA (g i : Int) (w : World) : (binOp .neq 51 (.agg #[.int .i64 g, .int .i64 i]) (.agg #[.int .i64 g, .int .i64 i])).run Tryz.prog w = .ok (.bool false) w := by
  rw [run_nelA, (eqA_iff (g, i) (g, i)).2 rfl]; rfl

set_option maxRecDepth 100000 in
set_option maxHeartbeats 8000000 in
theorem Same_eq (A B : Option Addr) (c d : Nat) (P : Pa) (w : World) (hA : SlA w A P.ats.length P.ats) (hB : SlA w B P.ats.length P.ats) (hN : P.ats.length ≤ 9223372036854775807) :
    Calls Tryz.prog 9 #[.agg (pathV A c P), .agg (pathV B d P)] w fun e w' => e = .returned (.bool true) ∧ Chg [] w w' := by
  obtain ⟨ats, pg, ⟨rw, ru, rx⟩, lg, dy⟩ := P
  simp only [pathV] at *
  have hq := fun w0 => run_eqR ⟨rw, ru, rx⟩ ⟨rw, ru, rx⟩ w0
  simp only [Rg.cs, Rg.eqb_self] at hq
  have h1 := (Blk.new w 32 #[.slice A ats.length c, .int .i64 pg, .bool rw, .bool ru, .bool rx, .bool lg, .bool dy]).alloc (.cells #[.slice B ats.length d, .int .i64 pg, .bool rw, .bool ru, .bool rx, .bool lg, .bool dy] 32)
  have h2 := Blk.new (w.alloc (.cells #[.slice A ats.length c, .int .i64 pg, .bool rw, .bool ru, .bool rx, .bool lg, .bool dy] 32)) 32 #[.slice B ats.length d, .int .i64 pg, .bool rw, .bool ru, .bool rx, .bool lg, .bool dy]
  rw [World.size_alloc] at h2
  have hc0 := ((Chg.refl [] w).alloc (.cells #[.slice A ats.length c, .int .i64 pg, .bool rw, .bool ru, .bool rx, .bool lg, .bool dy] 32)).alloc (.cells #[.slice B ats.length d, .int .i64 pg, .bool rw, .bool ru, .bool rx, .bool lg, .bool dy] 32)
  obtain ⟨a0, a1, a2, a3, a4, a5, a6, _, _, _, _, _, _, _⟩ := blk7 h1
  obtain ⟨b0, b1, b2, b3, b4, b5, b6, _, _, _, _, _, _, _⟩ := blk7 h2
  go_enter Tryz.func9, Tryz.ntmps9
  go_wp2_with fail
  generalize (w.alloc (.cells #[.slice A ats.length c, .int .i64 pg, .bool rw, .bool ru, .bool rx, .bool lg, .bool dy] 32)).alloc (.cells #[.slice B ats.length d, .int .i64 pg, .bool rw, .bool ru, .bool rx, .bool lg, .bool dy] 32) = w0 at *
  generalize w.heap.size = g at *
  clear a0 a1 a2 a3 a4 a5 a6 b0 b1 b2 b3 b4 b5 b6
  go_loopw [5] (fun i w' => ∃ k : Nat, k ≤ ats.length ∧ i = .int .i64 k ∧ Chg [] w0 w') (fun i _ => ats.length - (intOf i).toNat)
  case atStart => exact ⟨0, by omega, rfl, Chg.refl [] w0⟩
  case round =>
    obtain ⟨k, hk, rfl, hc⟩ := hrel
    have h1k := h1.chg_ hc (by simp)
    have h2k := h2.chg_ hc (by simp)
    by_cases hlt : k < ats.length
    · obtain ⟨ab, ao, rfl, _, _, x0, x1⟩ := ((hA.self hc0).self hc).get hlt
      obtain ⟨bb, bo, rfl, _, _, y0, y1⟩ := ((hB.self hc0).self hc).get hlt
      generalize ats.getD k (0, 0) = gi at *
      obtain ⟨gg, ii⟩ := gi
      simp only at x0 x1 y0 y1
      have hne := fun w0 => run_neA gg ii w0
      have a0 := h1k.cell 0
      have b0 := h2k.cell 0
      simp only [List.getElem?_toArray, List.getElem?_cons_zero] at a0 b0
      have ka := fun nq : Cls wr => nq.cell a0
      have kb := fun nq : Cls wr => nq.cell b0
      have kx0 := fun nq : Cls wr => nq.cell x0
      have kx1 := fun nq : Cls wr => nq.cell x1
      have ky0 := fun nq : Cls wr => nq.cell y0
      have ky1 := fun nq : Cls wr => nq.cell y1
      go_wp2_with fail
      refine wp_region_cls (by kernel_rfl) (by kernel_rfl) ?_
      repeat (go_big_quiet_step (fail "no call"))
      refine wpQuiet_nil ?_
      rintro _ ⟨nq, rfl⟩
      go_wp2_with fail
      go_roundw
      case rel => exact ⟨k + 1, by omega, by go_num, hc.trans nq.ok (by simp)⟩
      case measure => simp [intOf]; omega
    · obtain rfl : k = ats.length := by omega
      obtain ⟨a0, a1, a2, a3, a4, a5, a6, _, _, _, _, _, _, _⟩ := blk7 h1k
      obtain ⟨b0, b1, b2, b3, b4, b5, b6, _, _, _, _, _, _, _⟩ := blk7 h2k
      clear hA hB
      go_wp2_with fail
      go_ret
      exact ⟨ret_bool (by simp), hc0.trans hc (by simp)⟩

set_option maxRecDepth 100000 in
set_option maxHeartbeats 8000000 in
theorem Made_at (A : Option Addr) (m c : Nat) (l : List Pu) (w : World) (h : SlP w A m l) :
    Calls Tryz.prog 5 #[.slice A m c] w fun e w' => ∃ q S p hh b, e = .returned (.pointer (some ⟨q, 0, none⟩)) ∧ Chg [] w w' ∧ GuIn w' q S p L16 hh b 16 (madeW l) ∧ w.heap.size ≤ b := by
  have hl := h.le
  have hlen := h.len
  obtain ⟨i0, hi0, hz0, hz1, hz2⟩ := info_parts int_info
  go_enter Tryz.func5, Tryz.ntmps5
  go_wp2_with fail
  go_loopw [3, 4] (fun v i w' => ∃ k : Nat, k ≤ 16 ∧ i = .int .i64 k ∧ Chg [] w w' ∧ w'.ownsRow w.heap.size 3 1 v k (vals .i64 (L16.take k))) (fun _ i _ => 16 - (intOf i).toNat)
  case atStart => exact ⟨0, by omega, rfl, Chg.refl [] w, World.ownsRow_nil _ _ _ _⟩
  case round =>
    obtain ⟨k, hk, rfl, hc, ho⟩ := hrel
    by_cases hlt : k < 16
    · have hk1 : vals .i64 (L16.take (k + 1)) = vals .i64 (L16.take k) ++ [.int .i64 (k : Int)] := by
        have : ∀ j : Fin 16, L16.take (j.val + 1) = L16.take j.val ++ [(j.val : Int)] := by decide
        rw [this ⟨k, hlt⟩, vals_app]; rfl
      have HK1 := Lib.hid hk1
      have hws := hc.size
      clear hk1
      obtain ⟨A1, c1, rfl, _, _⟩ := own_form ho
      go_wp2_with (at_builtin; refine wpList_append_src rfl _ _ 52 rfl w.heap.size 3 i0 _ 1 8 Tryz.underlying52 hi0 hz0 hz1 hz2 rfl (by omega) _ _ _ rfl (World.ownsRow.alloc ho _) (some ⟨wr.heap.size, 0, none⟩) 1 1 [.int .i64 k] rfl (src_one (Blk.new wr 3 #[.int .i64 (k : Int)])) (by simp [maxLen]; omega) (by omega) (by simp; omega) ?_; intro v3 w3 hown3 hc3 hv3)
      go_roundw
      case rel =>
        refine ⟨k + 1, by omega, by go_num, (hc.alloc (.cells #[.int .i64 (k : Int)] 3)).trans hc3 (fun i hi hm => ?_), by rw [HK1.out]; exact hown3⟩
        have := own_low ho i hm
        omega
      case measure => simp [intOf]; omega
    · obtain rfl : k = 16 := by omega
      rw [show L16.take 16 = L16 by decide] at ho
      clear hlt hk
      obtain ⟨A1, c1, rfl, _, _⟩ := own_form ho
      have hoI : OwnI wr 3 .i64 (.slice A1 16 c1) L16 := own_weak ho (Nat.zero_le _)
      clear ho
      go_wp2_with fail
      refine (New_at 16 _ (by omega) (by omega)).mono ?_; rintro e w2 ⟨hp, b, rfl, hc2, hm2, hh, hb⟩
      have hca := hc.trans hc2 (by simp)
      have hbw : w.heap.size ≤ b := by have := hc.size; omega
      have hsk := (hoI.chg hc2 (by simp)).slk (fun x hx => by
        have h16 : ∀ y ∈ L16, 0 ≤ y ∧ y ≤ 15 := by decide
        have := h16 x hx
        simp [IntKind.min, IntKind.max, IntKind.signed, IntKind.bits]; omega) (by decide)
      clear hoI hc hc2 hh hb
      go_wp2_with fail
      refine (GNew_ok A1 16 c1 L16 16 _ hsk L16_ok).mono ?_; rintro e w3 ⟨p, S, rfl, hc3, h3, hS⟩
      have hm3 := hm2.chg hc3 (by simp) (by simp)
      have hcb : Chg [] w w3 := hca.trans hc3 (by simp)
      clear hca hc3 hm2 hS hsk
      go_wp2_with fail
      refine (GuNew_at p hp _).mono ?_; rintro e w4 ⟨q, rfl, hc4, h4, hq⟩
      have g4 : GuIn w4 q S p L16 hp b 16 (zeros (8 * 16)) := ⟨h4, h3.self hc4, hm3.chg hc4 (by simp) (by simp), L16_ok.inh⟩
      have hcc : Chg [] w w4 := hcb.trans hc4 (by simp)
      clear hcb hc4 h4 h3 hm3 hq
      rw [← made_nil, show ([] : List Pu) = l.take 0 from rfl] at g4
      go_wp2_with fail
      go_loopw [8] (fun i w' => ∃ k : Nat, k ≤ m ∧ i = .int .i64 k ∧ Chg [] w w' ∧ GuIn w' q S p L16 hp b 16 (madeW (l.take k))) (fun i _ => m - (intOf i).toNat)
      case atStart => exact ⟨0, by omega, rfl, hcc, g4⟩
      case round =>
        clear hcc g4
        obtain ⟨k, hk, rfl, hc, g⟩ := hrel
        by_cases hlt : k < m
        · obtain ⟨ob, off, x, rfl, _, hx, c1, c2, c3⟩ := (h.self hc).get hlt
          have HSN := Lib.hid (made_snoc hx)
          generalize madeW (l.take k) = Wk at *
          obtain ⟨xg, xi, xv⟩ := x
          simp only at c1 c2 c3
          have hset := GuSet_at q S p L16 hp b 16 Wk xg xi xv wr.drew (g.self (Chg.refl [] wr).drew)
          clear hx hlen
          go_wp2_with fail
          refine wp_region_still_tail 16 (by kernel_rfl) (by kernel_rfl) ?_
          simp only [List.take_succ_cons, List.take_zero, List.drop_succ_cons, List.drop_zero]
          change wpStill _ _ (World.drew _) _ _ _
          iterate 16 still_step
          refine wpStill_nil ?_
          change wpList _ _ _ _ _ (World.drew wr)
          go_wp2_with fail
          refine hset.mono ?_; rintro e w3 ⟨rfl, hc3, g3⟩
          clear hset c1 c2 c3
          have hcw : Chg [] w w3 := ((hc.trans (Chg.refl [] wr).drew (by simp)).trans hc3 (by intro i hi hm; simp at hm; omega))
          go_wp2_with fail
          go_roundw
          case rel => exact ⟨k + 1, by omega, by go_num, hcw, by rw [HSN.out]; exact g3⟩
          case measure => simp [intOf]; omega
        · obtain rfl : k = m := by omega
          rw [← hlen, List.take_length] at g
          clear hlt hk hlen
          go_wp2_with fail
          go_ret
          exact ⟨q, S, p, hp, b, rfl, hc, g, hbw⟩

end Go.Proofs.YtdfmlodmaipnkaaGreatDoor
