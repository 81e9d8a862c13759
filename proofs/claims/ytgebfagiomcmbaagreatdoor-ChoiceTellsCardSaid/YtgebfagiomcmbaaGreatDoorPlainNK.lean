/-
  The document's guest, with all its blocks.
-/
import Derived.Test.YtgebfagiomcmbaaGreatDoorG10rK
import Derived.Test.YtgebfagiomcmbaaGreatDoorG10cK
namespace Go.Proofs.YtgebfagiomcmbaaGreatDoor
open Go.RowKit Go.Shelf Go.Maps

set_option maxRecDepth 100000 in
set_option maxHeartbeats 8000000 in
theorem PlainN_at (A : Option Addr) (m c : Nat) (l : List Pu) (w : World) (h : SlP w A m l) :
    Calls Tryz.prog 11 #[.slice A m c] w fun e w' => ∃ q S p hh b, e = .returned (.pointer (some ⟨q, 0, none⟩)) ∧ Chg [] w w' ∧ RGuIn w' q S p L16 hh b 16 (madeW l) ∧ ∀ i ∈ b :: q :: hh :: S, w.heap.size ≤ i := by
  have hl := h.le
  have hlen := h.len
  obtain ⟨i0, hi0, hz0, hz1, hz2⟩ := info_parts int_info
  go_enter Tryz.func11, Tryz.ntmps11
  go_wp2_with fail
  go_loopw [3, 4] (fun v i w' => ∃ k : Nat, k ≤ 16 ∧ i = .int .i64 k ∧ Chg [] w w' ∧ w'.ownsRow w.heap.size 3 1 v k (vals .i64 (L16.take k))) (fun _ i _ => 16 - (intOf i).toNat)
  case atStart => exact ⟨0, by omega, rfl, Chg.refl [] w, World.ownsRow_nil _ _ _ _⟩
  case round =>
    obtain ⟨k, hk, rfl, hc, ho⟩ := hrel
    by_cases hlt : k < 16
    · have hk1 : vals .i64 (L16.take (k + 1)) = vals .i64 (L16.take k) ++ [.int .i64 (k : Int)] := by
        have : ∀ j : Fin 16, L16.take (j.val + 1) = L16.take j.val ++ [(j.val : Int)] := by decide
        rw [this ⟨k, hlt⟩, vals_app]; rfl
      have HK1 := Lib.hid hk1
      have hws := hc.size
      clear hk1
      obtain ⟨A1, c1, rfl, _, _⟩ := own_form ho
      go_wp2_with (at_builtin; refine wpList_append_src rfl _ _ 74 rfl w.heap.size 3 i0 _ 1 8 Tryz.underlying74 hi0 hz0 hz1 hz2 rfl (by omega) _ _ _ rfl (World.ownsRow.alloc ho _) (some ⟨wr.heap.size, 0, none⟩) 1 1 [.int .i64 k] rfl (src_one (Blk.new wr 3 #[.int .i64 (k : Int)])) (by simp [maxLen]; omega) (by omega) (by simp; omega) ?_; intro v3 w3 hown3 hc3 hv3)
      go_roundw
      case rel =>
        refine ⟨k + 1, by omega, by go_num, (hc.alloc (.cells #[.int .i64 (k : Int)] 3)).trans hc3 (fun i hi hm => ?_), by rw [HK1.out]; exact hown3⟩
        have := own_low ho i hm
        omega
      case measure => simp [intOf]; omega
    · obtain rfl : k = 16 := by omega
      rw [show L16.take 16 = L16 by decide] at ho
      clear hlt hk
      obtain ⟨A1, c1, rfl, _, _⟩ := own_form ho
      have hoI : OwnI wr 3 .i64 (.slice A1 16 c1) L16 := own_weak ho (Nat.zero_le _)
      clear ho
      go_wp2_with fail
      refine (RNew_at 16 _ (by omega) (by omega)).mono ?_; rintro e w2 ⟨hp, b, rfl, hc2, hm2, hh, hb⟩
      have hca := hc.trans hc2 (by simp)
      have hbw : w.heap.size ≤ b := by have := hc.size; omega
      have hhw : w.heap.size ≤ hp := by have := hc.size; omega
      have hsk := (hoI.chg hc2 (by simp)).slk (fun x hx => by
        have h16 : ∀ y ∈ L16, 0 ≤ y ∧ y ≤ 15 := by decide
        have := h16 x hx
        simp [IntKind.min, IntKind.max, IntKind.signed, IntKind.bits]; omega) (by decide)
      clear hoI hc hc2 hh hb
      go_wp2_with fail
      refine (RGNew_ok A1 16 c1 L16 16 _ hsk L16_ok).mono ?_; rintro e w3 ⟨p, S, rfl, hc3, h3, hS⟩
      have hm3 := hm2.chg hc3 (by simp) (by simp)
      have hcb : Chg [] w w3 := hca.trans hc3 (by simp)
      have hS2 := Lib.hid (show ∀ i ∈ S, w.heap.size ≤ i from fun i hi => Nat.le_trans hca.size (hS i hi))
      clear hca hc3 hm2 hS hsk
      go_wp2_with fail
      refine (RGuNew_at p hp _).mono ?_; rintro e w4 ⟨q, rfl, hc4, h4, hq⟩
      have g4 : RGuIn w4 q S p L16 hp b 16 (zeros (8 * 16)) := ⟨h4, h3.self hc4, hm3.chg hc4 (by simp) (by simp), L16_ok.inh⟩
      have hcc : Chg [] w w4 := hcb.trans hc4 (by simp)
      have hall := Lib.hid (show ∀ i ∈ b :: q :: hp :: S, w.heap.size ≤ i from fun i hi => by
        simp only [List.mem_cons] at hi
        rcases hi with rfl | rfl | rfl | hi
        · exact hbw
        · exact Nat.le_trans hcb.size hq
        · exact hhw
        · exact hS2.out i hi)
      clear hS2 hhw
      clear hcb hc4 h4 h3 hm3 hq
      rw [← made_nil, show ([] : List Pu) = l.take 0 from rfl] at g4
      go_wp2_with fail
      go_loopw [6] (fun i w' => ∃ k : Nat, k ≤ m ∧ i = .int .i64 k ∧ Chg [] w w' ∧ RGuIn w' q S p L16 hp b 16 (madeW (l.take k))) (fun i _ => m - (intOf i).toNat)
      case atStart => exact ⟨0, by omega, rfl, hcc, g4⟩
      case round =>
        clear hcc g4
        obtain ⟨k, hk, rfl, hc, g⟩ := hrel
        by_cases hlt : k < m
        · obtain ⟨ob, off, x, rfl, _, hx, c1, c2, c3⟩ := (h.self hc).get hlt
          have HSN := Lib.hid (made_snoc hx)
          generalize madeW (l.take k) = Wk at *
          obtain ⟨xg, xi, xv⟩ := x
          simp only at c1 c2 c3
          have hset := RGuSet_at q S p L16 hp b 16 Wk xg xi xv wr.drew (g.self (Chg.refl [] wr).drew)
          clear hx hlen
          go_wp2_with fail
          refine wp_region_still_tail 16 (by kernel_rfl) (by kernel_rfl) ?_
          simp only [List.take_succ_cons, List.take_zero, List.drop_succ_cons, List.drop_zero]
          change wpStill _ _ (World.drew _) _ _ _
          iterate 16 still_step
          refine wpStill_nil ?_
          change wpList _ _ _ _ _ (World.drew wr)
          go_wp2_with fail
          refine hset.mono ?_; rintro e w3 ⟨rfl, hc3, g3⟩
          clear hset c1 c2 c3
          have hcw : Chg [] w w3 := ((hc.trans (Chg.refl [] wr).drew (by simp)).trans hc3 (by intro i hi hm; simp at hm; omega))
          go_wp2_with fail
          go_roundw
          case rel => exact ⟨k + 1, by omega, by go_num, hcw, by rw [HSN.out]; exact g3⟩
          case measure => simp [intOf]; omega
        · obtain rfl : k = m := by omega
          rw [← hlen, List.take_length] at g
          clear hlt hk hlen
          go_wp2_with fail
          go_ret
          exact ⟨q, S, p, hp, b, rfl, hc, g, hall.out⟩

end Go.Proofs.YtgebfagiomcmbaaGreatDoor
