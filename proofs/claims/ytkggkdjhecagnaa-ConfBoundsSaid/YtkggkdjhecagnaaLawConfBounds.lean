/-
  ConfBounds: the law, walked from contracts.
-/
import Derived.Test.YtkggkdjhecagnaaConfHead
namespace Go.Proofs.Ytkggkdjhecagnaa
open Go.RowKit Go.Maps


set_option maxRecDepth 100000 in
set_option maxHeartbeats 8000000 in
theorem ConfBounds_walk (c : Cf) (A : Option Addr) (n k : Nat) (at_ : Int) (w : World) (hin : CfIn c A n w) (hb : 0 ≤ at_ ∧ at_ ≤ 255) :
    Calls Try.prog 5 #[.agg (c.cs A n k), .int .u8 at_] w fun e w' => e = .returned (.bool true) ∧ Chg [] w w' := by
  have hsl := hin.sl
  have hwf := hin.wf
  have hlen := hsl.len
  have hle := hsl.le
  obtain ⟨h, L, f, m, t, a, r⟩ := c
  unfold Cf.cs
  simp only at *
  by_cases hn : 900 < n
  · have hnz : (900 : Int) < (n : Int) := by omega
    have hng : decide ((n : Int) > 900) = true := by simpa using hnz
    go_enter Try.func5, Try.ntmps5
    go_wp2_with fail
    have b1 := Blk.new w 24 #[.int .i64 h, .slice A n k, .int .i64 f, .int .i64 m, .int .i64 t, .int .i64 a, .int .i64 r]
    refine (Chead_any _).mono ?_; rintro e w1 ⟨rfl, k1⟩
    replace b1 := b1.chg_ k1 (by simp)
    have hc : Chg [] w w1 := ((Chg.refl [] w).alloc _).trans k1 (by simp)
    replace hsl := hsl.chg hc
    clear k1
    obtain ⟨c0, c1, c2, c3, c4, c5, c6⟩ := cfc7 b1
    clear hlen hle
    go_wp2_with fail
    go_ret
    exact ⟨rfl, hc⟩
  · have hnz : ¬ (900 : Int) < (n : Int) := by omega
    have hng : decide ((n : Int) > 900) = false := by simpa using hnz
    cases hR : Cf.right ⟨h, L, f, m, t, a, r⟩ with
    | false =>
      go_enter Try.func5, Try.ntmps5
      go_wp2_with fail
      have b1 := Blk.new w 24 #[.int .i64 h, .slice A n k, .int .i64 f, .int .i64 m, .int .i64 t, .int .i64 a, .int .i64 r]
      refine (Chead_any _).mono ?_; rintro e w1 ⟨rfl, k1⟩
      replace b1 := b1.chg_ k1 (by simp)
      have hc : Chg [] w w1 := ((Chg.refl [] w).alloc _).trans k1 (by simp)
      replace hsl := hsl.chg hc
      clear k1
      obtain ⟨c0, c1, c2, c3, c4, c5, c6⟩ := cfc7 b1
      clear hlen hle
      go_wp2_with fail
      refine (CRight_lit h L f m t a r A n k false _ hsl hwf hR).mono ?_; rintro e w2 ⟨rfl, k2⟩
      go_wp2_with fail
      go_ret
      exact ⟨rfl, hc.trans k2 (by simp)⟩
    | true =>
      have hok := (Cf.right_iff _).1 hR
      have ok1 := hok.host
      have ok2 := hok.first
      have ok3 := hok.many
      have ok4 := hok.room
      simp only at ok1 ok2 ok3 ok4
      have ok5 := hok.map.1
      simp only at ok5
      obtain ⟨q, rfl⟩ := Int.eq_ofNat_of_zero_le hb.1
      have hrem : ((q : Int)).tmod (n : Int) = ((q % n : Nat) : Int) := by rw [Int.tmod_eq_emod_of_nonneg (by omega)]; omega
      have hj : q % n < n := Nat.mod_lt _ (by omega)
      have hcv : IntKind.i64.wrap (q : Int) = q := IntWalk.i64_in _ (by omega)
      obtain ⟨sb, off, rfl, _, _, hx64⟩ := hsl.get hj
      have hmem : L.getD (q % n) 0 ∈ L := by rw [List.getD_eq_getElem?_getD, List.getElem?_eq_getElem (by omega)]; exact List.getElem_mem _
      have hx64' : I64 (L.getD (q % n) 0) := getD_wf hsl.wf _ (by omega)
      generalize hjj : q % n = j at *
      have HJJ := Lib.hid hjj
      clear hjj hx64
      have hjz : (j : Int) < (n : Int) := by omega
      have hcj : IntKind.i64.wrap (j : Int) = j := IntWalk.i64_in _ (by omega)
      have hn0 : ¬ n = 0 := by omega
      have hw1 : Cf.Wf ⟨h, L, f, m, 65, a, r⟩ := hd_wf L ⟨hwf.1, hwf.2, hwf.3, by unfold I64; omega, hwf.5, hwf.6⟩
      have hw2 : Cf.Wf ⟨h, L, f, m, t, 9, r⟩ := hd_wf L ⟨hwf.1, hwf.2, hwf.3, hwf.4, by unfold I64; omega, hwf.6⟩
      have hw3 : Cf.Wf ⟨h, L, f, m, t, a, -1⟩ := hd_wf L ⟨hwf.1, hwf.2, hwf.3, hwf.4, hwf.5, by unfold I64; omega⟩
      have hw4 : Cf.Wf ⟨h, L, f, h - f + 1, t, a, r⟩ := hd_wf L ⟨hwf.1, hwf.2, by unfold I64; omega, hwf.4, hwf.5, hwf.6⟩
      have hw5 : Cf.Wf ⟨h, L, L.getD j 0, 1, t, a, r⟩ := hd_wf L ⟨hwf.1, hx64', by unfold I64; omega, hwf.4, hwf.5, hwf.6⟩
      have hr1 : Cf.right ⟨h, L, f, m, 65, a, r⟩ = false := Cf.right_no fun hh => by have := hh.tlb; simp only at this; omega
      have hr2 : Cf.right ⟨h, L, f, m, t, 9, r⟩ = false := Cf.right_no fun hh => by have := hh.asids; simp only at this; omega
      have hr3 : Cf.right ⟨h, L, f, m, t, a, -1⟩ = false := Cf.right_no fun hh => by have := hh.root; simp only at this; omega
      have hr4 : Cf.right ⟨h, L, f, h - f + 1, t, a, r⟩ = false := Cf.right_no fun hh => by have := hh.room; simp only at this; omega
      have hr5 : Cf.right ⟨h, L, L.getD j 0, 1, t, a, r⟩ = false := Cf.right_no fun hh => by have := hh.apart _ hmem; unfold Cf.pool at this; simp only [decide_eq_false_iff_not] at this; omega
      generalize hxx : L.getD j 0 = x at *
      have HXX := Lib.hid hxx
      clear hxx hmem hx64' hrem
      have hrem : ((q : Int)).tmod (n : Int) = (j : Int) := by rw [Int.tmod_eq_emod_of_nonneg (by omega)]; have := HJJ.out; omega
      have hwr1 : wrap64 (h - f) = h - f := by unfold wrap64; omega
      have hwr2 : wrap64 (h - f + 1) = h - f + 1 := by unfold wrap64; omega
      clear hlen hok hj
      go_enter Try.func5, Try.ntmps5
      go_wp2_with fail
      have b1 := Blk.new w 24 #[.int .i64 h, .slice (some ⟨sb, off, none⟩) n k, .int .i64 f, .int .i64 m, .int .i64 t, .int .i64 a, .int .i64 r]
      refine (Chead_any _).mono ?_; rintro e w1 ⟨rfl, k1⟩
      replace b1 := b1.chg_ k1 (by simp)
      have hc : Chg [] w w1 := ((Chg.refl [] w).alloc _).trans k1 (by simp)
      replace hsl := hsl.chg hc
      clear k1
      obtain ⟨c0, c1, c2, c3, c4, c5, c6⟩ := cfc7 b1
      go_wp2_with fail
      refine (CRight_lit h L f m t a r (some ⟨sb, off, none⟩) n k true _ hsl hwf hR).mono ?_; rintro e w2 ⟨rfl, k2⟩
      replace b1 := b1.chg_ k2 (by simp)
      replace hc := hc.trans k2 (by simp)
      replace hsl := hsl.chg k2
      clear k2 c0 c1 c2 c3 c4 c5 c6
      obtain ⟨c0, c1, c2, c3, c4, c5, c6⟩ := cfc7 b1
      obtain ⟨sb', off', e', hsb, hx, _⟩ := hsl.get (show j < n by omega)
      injection e' with e'; injection e' with e1 e2; subst e1; subst e2
      rw [HXX.out] at hx
      have bn0 := (b1).alloc (.cells #[.int .i64 h, .slice (some ⟨sb, off, none⟩) n k, .int .i64 f, .int .i64 m, .int .i64 65, .int .i64 a, .int .i64 r] 24)
      obtain ⟨g0_0, g0_1, g0_2, g0_3, g0_4, g0_5, g0_6⟩ := cfc7 bn0
      have bn1 := ((b1).alloc (.cells #[.int .i64 h, .slice (some ⟨sb, off, none⟩) n k, .int .i64 f, .int .i64 m, .int .i64 65, .int .i64 a, .int .i64 r] 24)).alloc (.cells #[.int .i64 h, .slice (some ⟨sb, off, none⟩) n k, .int .i64 f, .int .i64 m, .int .i64 t, .int .i64 9, .int .i64 r] 24)
      obtain ⟨g1_0, g1_1, g1_2, g1_3, g1_4, g1_5, g1_6⟩ := cfc7 bn1
      have bn2 := (((b1).alloc (.cells #[.int .i64 h, .slice (some ⟨sb, off, none⟩) n k, .int .i64 f, .int .i64 m, .int .i64 65, .int .i64 a, .int .i64 r] 24)).alloc (.cells #[.int .i64 h, .slice (some ⟨sb, off, none⟩) n k, .int .i64 f, .int .i64 m, .int .i64 t, .int .i64 9, .int .i64 r] 24)).alloc (.cells #[.int .i64 h, .slice (some ⟨sb, off, none⟩) n k, .int .i64 f, .int .i64 m, .int .i64 t, .int .i64 a, .int .i64 (-1)] 24)
      obtain ⟨g2_0, g2_1, g2_2, g2_3, g2_4, g2_5, g2_6⟩ := cfc7 bn2
      have bm3 := ((((b1).alloc (.cells #[.int .i64 h, .slice (some ⟨sb, off, none⟩) n k, .int .i64 f, .int .i64 m, .int .i64 65, .int .i64 a, .int .i64 r] 24)).alloc (.cells #[.int .i64 h, .slice (some ⟨sb, off, none⟩) n k, .int .i64 f, .int .i64 m, .int .i64 t, .int .i64 9, .int .i64 r] 24)).alloc (.cells #[.int .i64 h, .slice (some ⟨sb, off, none⟩) n k, .int .i64 f, .int .i64 m, .int .i64 t, .int .i64 a, .int .i64 (-1)] 24)).alloc (.cells #[.int .i64 h, .slice (some ⟨sb, off, none⟩) n k, .int .i64 f, .int .i64 m, .int .i64 t, .int .i64 a, .int .i64 r] 24)
      obtain ⟨e3_0, e3_1, e3_2, e3_3, e3_4, e3_5, e3_6⟩ := cfc7 bm3
      have bn3 := ((((b1).alloc (.cells #[.int .i64 h, .slice (some ⟨sb, off, none⟩) n k, .int .i64 f, .int .i64 m, .int .i64 65, .int .i64 a, .int .i64 r] 24)).alloc (.cells #[.int .i64 h, .slice (some ⟨sb, off, none⟩) n k, .int .i64 f, .int .i64 m, .int .i64 t, .int .i64 9, .int .i64 r] 24)).alloc (.cells #[.int .i64 h, .slice (some ⟨sb, off, none⟩) n k, .int .i64 f, .int .i64 m, .int .i64 t, .int .i64 a, .int .i64 (-1)] 24)).alloc (.cells #[.int .i64 h, .slice (some ⟨sb, off, none⟩) n k, .int .i64 f, .int .i64 (h - f + 1), .int .i64 t, .int .i64 a, .int .i64 r] 24)
      obtain ⟨g3_0, g3_1, g3_2, g3_3, g3_4, g3_5, g3_6⟩ := cfc7 bn3
      have hlt1 : w.heap.size < w2.heap.size := b1.lt
      go_wp2_with fail
      have hcn : Chg [] w2 (((((w2.alloc (.cells #[.int .i64 h, .slice (some ⟨sb, off, none⟩) n k, .int .i64 f, .int .i64 m, .int .i64 65, .int .i64 a, .int .i64 r] 24)).alloc (.cells #[.int .i64 h, .slice (some ⟨sb, off, none⟩) n k, .int .i64 f, .int .i64 m, .int .i64 t, .int .i64 9, .int .i64 r] 24)).alloc (.cells #[.int .i64 h, .slice (some ⟨sb, off, none⟩) n k, .int .i64 f, .int .i64 m, .int .i64 t, .int .i64 a, .int .i64 (-1)] 24)).alloc (.cells #[.int .i64 h, .slice (some ⟨sb, off, none⟩) n k, .int .i64 f, .int .i64 (h - f + 1), .int .i64 t, .int .i64 a, .int .i64 r] 24)).alloc (.cells #[.int .i64 h, .slice (some ⟨sb, off, none⟩) n k, .int .i64 f, .int .i64 m, .int .i64 t, .int .i64 a, .int .i64 r] 24)) := ((((((Chg.refl [] w2).alloc _).alloc _).alloc _).alloc _).alloc _)
      have b6 : Blk (((((w2.alloc (.cells #[.int .i64 h, .slice (some ⟨sb, off, none⟩) n k, .int .i64 f, .int .i64 m, .int .i64 65, .int .i64 a, .int .i64 r] 24)).alloc (.cells #[.int .i64 h, .slice (some ⟨sb, off, none⟩) n k, .int .i64 f, .int .i64 m, .int .i64 t, .int .i64 9, .int .i64 r] 24)).alloc (.cells #[.int .i64 h, .slice (some ⟨sb, off, none⟩) n k, .int .i64 f, .int .i64 m, .int .i64 t, .int .i64 a, .int .i64 (-1)] 24)).alloc (.cells #[.int .i64 h, .slice (some ⟨sb, off, none⟩) n k, .int .i64 f, .int .i64 (h - f + 1), .int .i64 t, .int .i64 a, .int .i64 r] 24)).alloc (.cells #[.int .i64 h, .slice (some ⟨sb, off, none⟩) n k, .int .i64 f, .int .i64 m, .int .i64 t, .int .i64 a, .int .i64 r] 24)) (w2.heap.size) 24 #[.int .i64 h, .slice (some ⟨sb, off, none⟩) n k, .int .i64 f, .int .i64 m, .int .i64 65, .int .i64 a, .int .i64 r] := by have := ((((Blk.new w2 24 #[.int .i64 h, .slice (some ⟨sb, off, none⟩) n k, .int .i64 f, .int .i64 m, .int .i64 65, .int .i64 a, .int .i64 r]).alloc (.cells #[.int .i64 h, .slice (some ⟨sb, off, none⟩) n k, .int .i64 f, .int .i64 m, .int .i64 t, .int .i64 9, .int .i64 r] 24)).alloc (.cells #[.int .i64 h, .slice (some ⟨sb, off, none⟩) n k, .int .i64 f, .int .i64 m, .int .i64 t, .int .i64 a, .int .i64 (-1)] 24)).alloc (.cells #[.int .i64 h, .slice (some ⟨sb, off, none⟩) n k, .int .i64 f, .int .i64 (h - f + 1), .int .i64 t, .int .i64 a, .int .i64 r] 24)).alloc (.cells #[.int .i64 h, .slice (some ⟨sb, off, none⟩) n k, .int .i64 f, .int .i64 m, .int .i64 t, .int .i64 a, .int .i64 r] 24); simpa using this
      have b7 : Blk (((((w2.alloc (.cells #[.int .i64 h, .slice (some ⟨sb, off, none⟩) n k, .int .i64 f, .int .i64 m, .int .i64 65, .int .i64 a, .int .i64 r] 24)).alloc (.cells #[.int .i64 h, .slice (some ⟨sb, off, none⟩) n k, .int .i64 f, .int .i64 m, .int .i64 t, .int .i64 9, .int .i64 r] 24)).alloc (.cells #[.int .i64 h, .slice (some ⟨sb, off, none⟩) n k, .int .i64 f, .int .i64 m, .int .i64 t, .int .i64 a, .int .i64 (-1)] 24)).alloc (.cells #[.int .i64 h, .slice (some ⟨sb, off, none⟩) n k, .int .i64 f, .int .i64 (h - f + 1), .int .i64 t, .int .i64 a, .int .i64 r] 24)).alloc (.cells #[.int .i64 h, .slice (some ⟨sb, off, none⟩) n k, .int .i64 f, .int .i64 m, .int .i64 t, .int .i64 a, .int .i64 r] 24)) (w2.heap.size + 1) 24 #[.int .i64 h, .slice (some ⟨sb, off, none⟩) n k, .int .i64 f, .int .i64 m, .int .i64 t, .int .i64 9, .int .i64 r] := by have := (((Blk.new (w2.alloc (.cells #[.int .i64 h, .slice (some ⟨sb, off, none⟩) n k, .int .i64 f, .int .i64 m, .int .i64 65, .int .i64 a, .int .i64 r] 24)) 24 #[.int .i64 h, .slice (some ⟨sb, off, none⟩) n k, .int .i64 f, .int .i64 m, .int .i64 t, .int .i64 9, .int .i64 r]).alloc (.cells #[.int .i64 h, .slice (some ⟨sb, off, none⟩) n k, .int .i64 f, .int .i64 m, .int .i64 t, .int .i64 a, .int .i64 (-1)] 24)).alloc (.cells #[.int .i64 h, .slice (some ⟨sb, off, none⟩) n k, .int .i64 f, .int .i64 (h - f + 1), .int .i64 t, .int .i64 a, .int .i64 r] 24)).alloc (.cells #[.int .i64 h, .slice (some ⟨sb, off, none⟩) n k, .int .i64 f, .int .i64 m, .int .i64 t, .int .i64 a, .int .i64 r] 24); simpa using this
      have b8 : Blk (((((w2.alloc (.cells #[.int .i64 h, .slice (some ⟨sb, off, none⟩) n k, .int .i64 f, .int .i64 m, .int .i64 65, .int .i64 a, .int .i64 r] 24)).alloc (.cells #[.int .i64 h, .slice (some ⟨sb, off, none⟩) n k, .int .i64 f, .int .i64 m, .int .i64 t, .int .i64 9, .int .i64 r] 24)).alloc (.cells #[.int .i64 h, .slice (some ⟨sb, off, none⟩) n k, .int .i64 f, .int .i64 m, .int .i64 t, .int .i64 a, .int .i64 (-1)] 24)).alloc (.cells #[.int .i64 h, .slice (some ⟨sb, off, none⟩) n k, .int .i64 f, .int .i64 (h - f + 1), .int .i64 t, .int .i64 a, .int .i64 r] 24)).alloc (.cells #[.int .i64 h, .slice (some ⟨sb, off, none⟩) n k, .int .i64 f, .int .i64 m, .int .i64 t, .int .i64 a, .int .i64 r] 24)) (w2.heap.size + 1 + 1) 24 #[.int .i64 h, .slice (some ⟨sb, off, none⟩) n k, .int .i64 f, .int .i64 m, .int .i64 t, .int .i64 a, .int .i64 (-1)] := by have := ((Blk.new ((w2.alloc (.cells #[.int .i64 h, .slice (some ⟨sb, off, none⟩) n k, .int .i64 f, .int .i64 m, .int .i64 65, .int .i64 a, .int .i64 r] 24)).alloc (.cells #[.int .i64 h, .slice (some ⟨sb, off, none⟩) n k, .int .i64 f, .int .i64 m, .int .i64 t, .int .i64 9, .int .i64 r] 24)) 24 #[.int .i64 h, .slice (some ⟨sb, off, none⟩) n k, .int .i64 f, .int .i64 m, .int .i64 t, .int .i64 a, .int .i64 (-1)]).alloc (.cells #[.int .i64 h, .slice (some ⟨sb, off, none⟩) n k, .int .i64 f, .int .i64 (h - f + 1), .int .i64 t, .int .i64 a, .int .i64 r] 24)).alloc (.cells #[.int .i64 h, .slice (some ⟨sb, off, none⟩) n k, .int .i64 f, .int .i64 m, .int .i64 t, .int .i64 a, .int .i64 r] 24); simpa using this
      have b9 : Blk (((((w2.alloc (.cells #[.int .i64 h, .slice (some ⟨sb, off, none⟩) n k, .int .i64 f, .int .i64 m, .int .i64 65, .int .i64 a, .int .i64 r] 24)).alloc (.cells #[.int .i64 h, .slice (some ⟨sb, off, none⟩) n k, .int .i64 f, .int .i64 m, .int .i64 t, .int .i64 9, .int .i64 r] 24)).alloc (.cells #[.int .i64 h, .slice (some ⟨sb, off, none⟩) n k, .int .i64 f, .int .i64 m, .int .i64 t, .int .i64 a, .int .i64 (-1)] 24)).alloc (.cells #[.int .i64 h, .slice (some ⟨sb, off, none⟩) n k, .int .i64 f, .int .i64 (h - f + 1), .int .i64 t, .int .i64 a, .int .i64 r] 24)).alloc (.cells #[.int .i64 h, .slice (some ⟨sb, off, none⟩) n k, .int .i64 f, .int .i64 m, .int .i64 t, .int .i64 a, .int .i64 r] 24)) (w2.heap.size + 1 + 1 + 1) 24 #[.int .i64 h, .slice (some ⟨sb, off, none⟩) n k, .int .i64 f, .int .i64 (h - f + 1), .int .i64 t, .int .i64 a, .int .i64 r] := by have := (Blk.new (((w2.alloc (.cells #[.int .i64 h, .slice (some ⟨sb, off, none⟩) n k, .int .i64 f, .int .i64 m, .int .i64 65, .int .i64 a, .int .i64 r] 24)).alloc (.cells #[.int .i64 h, .slice (some ⟨sb, off, none⟩) n k, .int .i64 f, .int .i64 m, .int .i64 t, .int .i64 9, .int .i64 r] 24)).alloc (.cells #[.int .i64 h, .slice (some ⟨sb, off, none⟩) n k, .int .i64 f, .int .i64 m, .int .i64 t, .int .i64 a, .int .i64 (-1)] 24)) 24 #[.int .i64 h, .slice (some ⟨sb, off, none⟩) n k, .int .i64 f, .int .i64 (h - f + 1), .int .i64 t, .int .i64 a, .int .i64 r]).alloc (.cells #[.int .i64 h, .slice (some ⟨sb, off, none⟩) n k, .int .i64 f, .int .i64 m, .int .i64 t, .int .i64 a, .int .i64 r] 24); simpa using this
      have b10 : Blk (((((w2.alloc (.cells #[.int .i64 h, .slice (some ⟨sb, off, none⟩) n k, .int .i64 f, .int .i64 m, .int .i64 65, .int .i64 a, .int .i64 r] 24)).alloc (.cells #[.int .i64 h, .slice (some ⟨sb, off, none⟩) n k, .int .i64 f, .int .i64 m, .int .i64 t, .int .i64 9, .int .i64 r] 24)).alloc (.cells #[.int .i64 h, .slice (some ⟨sb, off, none⟩) n k, .int .i64 f, .int .i64 m, .int .i64 t, .int .i64 a, .int .i64 (-1)] 24)).alloc (.cells #[.int .i64 h, .slice (some ⟨sb, off, none⟩) n k, .int .i64 f, .int .i64 (h - f + 1), .int .i64 t, .int .i64 a, .int .i64 r] 24)).alloc (.cells #[.int .i64 h, .slice (some ⟨sb, off, none⟩) n k, .int .i64 f, .int .i64 m, .int .i64 t, .int .i64 a, .int .i64 r] 24)) (w2.heap.size + 1 + 1 + 1 + 1) 24 #[.int .i64 h, .slice (some ⟨sb, off, none⟩) n k, .int .i64 f, .int .i64 m, .int .i64 t, .int .i64 a, .int .i64 r] := by have := Blk.new ((((w2.alloc (.cells #[.int .i64 h, .slice (some ⟨sb, off, none⟩) n k, .int .i64 f, .int .i64 m, .int .i64 65, .int .i64 a, .int .i64 r] 24)).alloc (.cells #[.int .i64 h, .slice (some ⟨sb, off, none⟩) n k, .int .i64 f, .int .i64 m, .int .i64 t, .int .i64 9, .int .i64 r] 24)).alloc (.cells #[.int .i64 h, .slice (some ⟨sb, off, none⟩) n k, .int .i64 f, .int .i64 m, .int .i64 t, .int .i64 a, .int .i64 (-1)] 24)).alloc (.cells #[.int .i64 h, .slice (some ⟨sb, off, none⟩) n k, .int .i64 f, .int .i64 (h - f + 1), .int .i64 t, .int .i64 a, .int .i64 r] 24)) 24 #[.int .i64 h, .slice (some ⟨sb, off, none⟩) n k, .int .i64 f, .int .i64 m, .int .i64 t, .int .i64 a, .int .i64 r]; simpa using this
      replace b1 := b1.chg_ hcn (by simp)
      replace hc := hc.trans hcn (by simp)
      replace hsl := hsl.chg hcn
      replace hx := (hcn.cell (p := ⟨sb, off + j, none⟩) hsb (by simp)).trans hx
      generalize (((((w2.alloc (.cells #[.int .i64 h, .slice (some ⟨sb, off, none⟩) n k, .int .i64 f, .int .i64 m, .int .i64 65, .int .i64 a, .int .i64 r] 24)).alloc (.cells #[.int .i64 h, .slice (some ⟨sb, off, none⟩) n k, .int .i64 f, .int .i64 m, .int .i64 t, .int .i64 9, .int .i64 r] 24)).alloc (.cells #[.int .i64 h, .slice (some ⟨sb, off, none⟩) n k, .int .i64 f, .int .i64 m, .int .i64 t, .int .i64 a, .int .i64 (-1)] 24)).alloc (.cells #[.int .i64 h, .slice (some ⟨sb, off, none⟩) n k, .int .i64 f, .int .i64 (h - f + 1), .int .i64 t, .int .i64 a, .int .i64 r] 24)).alloc (.cells #[.int .i64 h, .slice (some ⟨sb, off, none⟩) n k, .int .i64 f, .int .i64 m, .int .i64 t, .int .i64 a, .int .i64 r] 24)) = w3 at *
      clear hcn
      clear c0 c1 c2 c3 c4 c5 c6
      clear g0_0 g0_1 g0_2 g0_3 g0_4 g0_5 g0_6 g1_0 g1_1 g1_2 g1_3 g1_4 g1_5 g1_6 g2_0 g2_1 g2_2 g2_3 g2_4 g2_5 g2_6 e3_0 e3_1 e3_2 e3_3 e3_4 e3_5 e3_6 g3_0 g3_1 g3_2 g3_3 g3_4 g3_5 g3_6
      have g2_ := b10.frozen 2
      have g3_ := b10.frozen 3
      obtain ⟨p0, p1, p2, p3, p4, p5, p6⟩ := cfc7 b10
      refine wp_region_noPanic ?_
      refine wp_region_held_drew (S := (fun w' => Chg [(w2.heap.size + 1 + 1 + 1 + 1)] w3 w')) (by kernel_rfl) ?_ (fun hHeld => ?_)
      · exact (Chg.refl [(w2.heap.size + 1 + 1 + 1 + 1)] w3).drew
      (refine take_on 0 (some 37) (v := ?_) rfl rfl (by kernel_rfl) (by kernel_rfl) (by kernel_rfl) (fun _ _ _ h => h) (by rfl) (by assumption) ?_ ?_; rotate_left; · (intro w hSw; go_simp; (try with_reducible rfl)))
      (try simp only [Act.put, List.setIfInBounds_toArray, List.set_cons_zero, List.set_cons_succ])
      (refine take_on 1 (some 38) (v := ?_) rfl rfl (by kernel_rfl) (by kernel_rfl) (by kernel_rfl) (fun _ _ _ h => h) (by rfl) (by assumption) ?_ ?_; rotate_left; · (intro w hSw; (try dsimp only at hSw); have b_ := b1.chg_ hSw (by simp; omega); obtain ⟨d0, d1, d2, d3, d4, d5, d6⟩ := cfc7 b_; go_simp; (try with_reducible rfl)))
      (try simp only [Act.put, List.setIfInBounds_toArray, List.set_cons_zero, List.set_cons_succ])
      (refine take_on 2 (some 39) (v := ?_) rfl rfl (by kernel_rfl) (by kernel_rfl) (by kernel_rfl) (fun _ _ _ h => h) (by rfl) (by assumption) ?_ ?_; rotate_left; · (intro w hSw; go_simp; (try with_reducible rfl)))
      (try simp only [Act.put, List.setIfInBounds_toArray, List.set_cons_zero, List.set_cons_succ])
      (refine take_on 3 (some 40) (v := ?_) rfl rfl (by kernel_rfl) (by kernel_rfl) (by kernel_rfl) (fun _ _ _ h => h) (by rfl) (by assumption) ?_ ?_; rotate_left; · (intro w hSw; go_simp; (try with_reducible rfl)))
      (try simp only [Act.put, List.setIfInBounds_toArray, List.set_cons_zero, List.set_cons_succ])
      (refine take_on 4 (some 41) (v := ?_) rfl rfl (by kernel_rfl) (by kernel_rfl) (by kernel_rfl) (fun _ _ _ h => h) (by rfl) (by assumption) ?_ ?_; rotate_left; · (intro w hSw; go_simp; (try with_reducible rfl)))
      (try simp only [Act.put, List.setIfInBounds_toArray, List.set_cons_zero, List.set_cons_succ])
      (refine take_on 5 (some 42) (v := ?_) rfl rfl (by kernel_rfl) (by kernel_rfl) (by kernel_rfl) (fun _ _ _ h => h) (by rfl) (by assumption) ?_ ?_; rotate_left; · (intro w hSw; (try dsimp only at hSw); have b_ := b1.chg_ hSw (by simp; omega); obtain ⟨d0, d1, d2, d3, d4, d5, d6⟩ := cfc7 b_; go_simp; (try with_reducible rfl)))
      (try simp only [Act.put, List.setIfInBounds_toArray, List.set_cons_zero, List.set_cons_succ])
      (refine take_on 6 (some 43) (v := ?_) rfl rfl (by kernel_rfl) (by kernel_rfl) (by kernel_rfl) (fun _ _ _ h => h) (by rfl) (by assumption) ?_ ?_; rotate_left; · (intro w hSw; go_simp; (try with_reducible rfl)))
      (try simp only [Act.put, List.setIfInBounds_toArray, List.set_cons_zero, List.set_cons_succ])
      (refine take_on 7 (some 44) (v := ?_) rfl rfl (by kernel_rfl) (by kernel_rfl) (by kernel_rfl) (fun _ _ _ h => h) (by rfl) (by assumption) ?_ ?_; rotate_left; · (intro w hSw; go_simp; (try with_reducible rfl)))
      (try simp only [Act.put, List.setIfInBounds_toArray, List.set_cons_zero, List.set_cons_succ])
      (refine take_on 8 (some 45) (v := ?_) rfl rfl (by kernel_rfl) (by kernel_rfl) (by kernel_rfl) (fun _ _ _ h => h) (by rfl) (by assumption) ?_ ?_; rotate_left; · (intro w hSw; go_simp; (try with_reducible rfl)))
      (try simp only [Act.put, List.setIfInBounds_toArray, List.set_cons_zero, List.set_cons_succ])
      (refine take_on 9 (some 46) (v := ?_) rfl rfl (by kernel_rfl) (by kernel_rfl) (by kernel_rfl) (fun _ _ _ h => h) (by rfl) (by assumption) ?_ ?_; rotate_left; · (intro w hSw; (try dsimp only at hSw); have hx_ := (hSw.cell (p := ⟨sb, off + j, none⟩) (World.block_lt_of_cell? _ _ hx) (by simp; omega)).trans hx; go_simp; (try with_reducible rfl)))
      (try simp only [Act.put, List.setIfInBounds_toArray, List.set_cons_zero, List.set_cons_succ])
      (refine take_on 10 (some 47) (v := ?_) rfl rfl (by kernel_rfl) (by kernel_rfl) (by kernel_rfl) (fun _ _ _ h => h) (by rfl) (by assumption) ?_ ?_; rotate_left; · (intro w hSw; go_simp; (try with_reducible rfl)))
      (try simp only [Act.put, List.setIfInBounds_toArray, List.set_cons_zero, List.set_cons_succ])
      refine wpAnyH_ready (rs := [11]) (by kernel_rfl) (by simp) ?_; refine AllReadyH.cons (o := _) rfl (fun K hK => ?_) AllReadyH.nil
      go_simp
      skip
      refine hK.out _ _ (by (try dsimp only); exact Chg.setCell hHeld (p := ⟨(w2.heap.size + 1 + 1 + 1 + 1), 2, none⟩) (by simp) _) (fun hHeld => ?_)
      clear hK K
      (try simp only [Act.put, List.setIfInBounds_toArray, List.set_cons_zero, List.set_cons_succ])
      refine wpAnyH_done (by kernel_rfl) ?_ _
      refine NoPanic.normal ?_
      clear g2_ g3_ p0 p1 p2 p3 p4 p5 p6
      replace b10 := (b10.set_ 2 (.int .i64 x)).drew
      simp only [List.setIfInBounds_toArray, List.set_cons_zero, List.set_cons_succ] at b10
      replace b1 := b1.chg_ hHeld (by simp; try omega)
      replace b6 := b6.chg_ hHeld (by simp; try omega)
      replace b7 := b7.chg_ hHeld (by simp; try omega)
      replace b8 := b8.chg_ hHeld (by simp; try omega)
      replace b9 := b9.chg_ hHeld (by simp; try omega)
      replace hc := hc.trans hHeld (by intro i hi hm; simp at hm; omega)
      clear hsl hx hHeld
      generalize (w3.setCell ⟨(w2.heap.size + 1 + 1 + 1 + 1), 2, none⟩ (.int .i64 x)).drew = w4 at *
      have k5 : Chg [(w2.heap.size + 1 + 1 + 1 + 1)] w4 (w4.setCell ⟨(w2.heap.size + 1 + 1 + 1 + 1), 3, none⟩ (.int .i64 1)) := (Chg.refl _ _).setCell (by simp) _
      have g3_ := b10.frozen 3
      obtain ⟨p0, p1, p2, p3, p4, p5, p6⟩ := cfc7 b10
      have b6s := b6.chg_ k5 (by simp; try omega)
      obtain ⟨c0, c1, c2, c3, c4, c5, c6⟩ := cfc7 b6s
      go_wp2_with fail
      clear b6s g3_ c0 c1 c2 c3 c4 c5 c6 p0 p1 p2 p3 p4 p5 p6
      replace b10 := b10.set_ 3 (.int .i64 1)
      simp only [List.setIfInBounds_toArray, List.set_cons_zero, List.set_cons_succ] at b10
      replace b1 := b1.chg_ k5 (by simp; try omega)
      replace b6 := b6.chg_ k5 (by simp; try omega)
      replace b7 := b7.chg_ k5 (by simp; try omega)
      replace b8 := b8.chg_ k5 (by simp; try omega)
      replace b9 := b9.chg_ k5 (by simp; try omega)
      replace hc := hc.trans k5 (by intro i hi hm; simp at hm; omega)
      clear k5
      generalize w4.setCell ⟨(w2.heap.size + 1 + 1 + 1 + 1), 3, none⟩ (.int .i64 1) = w5 at *
      have hsl := hin.sl.chg hc
      clear hin
      refine (CRight_lit h L f m 65 a r _ n k false _ hsl hw1 hr1).mono ?_; rintro e w6 ⟨rfl, y⟩
      replace b7 := b7.chg_ y (by simp)
      replace b8 := b8.chg_ y (by simp)
      replace b9 := b9.chg_ y (by simp)
      replace b10 := b10.chg_ y (by simp)
      replace hsl := hsl.chg y
      replace hc := hc.trans y (by simp)
      clear y
      obtain ⟨c0, c1, c2, c3, c4, c5, c6⟩ := cfc7 b7
      go_wp2_with fail
      refine (CRight_lit h L f m t 9 r _ n k false _ hsl hw2 hr2).mono ?_; rintro e v0 ⟨rfl, y⟩
      clear c0 c1 c2 c3 c4 c5 c6
      replace b7 := b7.chg_ y (by simp)
      replace b8 := b8.chg_ y (by simp)
      replace b9 := b9.chg_ y (by simp)
      replace b10 := b10.chg_ y (by simp)
      replace hsl := hsl.chg y
      replace hc := hc.trans y (by simp)
      clear y
      obtain ⟨c0, c1, c2, c3, c4, c5, c6⟩ := cfc7 b8
      go_wp2_with fail
      refine (CRight_lit h L f m t a (-1) _ n k false _ hsl hw3 hr3).mono ?_; rintro e v1 ⟨rfl, y⟩
      clear c0 c1 c2 c3 c4 c5 c6
      replace b7 := b7.chg_ y (by simp)
      replace b8 := b8.chg_ y (by simp)
      replace b9 := b9.chg_ y (by simp)
      replace b10 := b10.chg_ y (by simp)
      replace hsl := hsl.chg y
      replace hc := hc.trans y (by simp)
      clear y
      obtain ⟨c0, c1, c2, c3, c4, c5, c6⟩ := cfc7 b9
      go_wp2_with fail
      refine (CRight_lit h L f (h - f + 1) t a r _ n k false _ hsl hw4 hr4).mono ?_; rintro e v2 ⟨rfl, y⟩
      clear c0 c1 c2 c3 c4 c5 c6
      replace b7 := b7.chg_ y (by simp)
      replace b8 := b8.chg_ y (by simp)
      replace b9 := b9.chg_ y (by simp)
      replace b10 := b10.chg_ y (by simp)
      replace hsl := hsl.chg y
      replace hc := hc.trans y (by simp)
      clear y
      obtain ⟨c0, c1, c2, c3, c4, c5, c6⟩ := cfc7 b10
      go_wp2_with fail
      refine (CRight_lit h L x 1 t a r _ n k false _ hsl hw5 hr5).mono ?_; rintro e v3 ⟨rfl, y⟩
      clear c0 c1 c2 c3 c4 c5 c6
      replace b7 := b7.chg_ y (by simp)
      replace b8 := b8.chg_ y (by simp)
      replace b9 := b9.chg_ y (by simp)
      replace b10 := b10.chg_ y (by simp)
      replace hsl := hsl.chg y
      replace hc := hc.trans y (by simp)
      clear y
      go_wp2_with fail
      go_ret
      exact ⟨rfl, hc⟩

end Go.Proofs.Ytkggkdjhecagnaa
