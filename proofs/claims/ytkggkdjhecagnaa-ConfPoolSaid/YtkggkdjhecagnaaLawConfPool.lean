/-
  ConfPool: the law, walked from contracts.
-/
import Derived.Test.YtkggkdjhecagnaaLawConfRoom
namespace Go.Proofs.Ytkggkdjhecagnaa
open Go.RowKit Go.Maps

theorem cnt_step (P : Int → Bool) (M : List Int) {i : Nat} (hi : i < M.length) : ((M.take (i + 1)).filter P).length = ((M.take i).filter P).length + if P (M.getD i 0) = true then 1 else 0 := by
  rw [take_snoc M i hi, List.filter_append, List.length_append]
  generalize M.getD i 0 = v
  cases h : P v <;> simp [h]
theorem pickF_filter (p q : Int → Bool) (n : Nat) : (pickF p n).filter q = pickF (fun x => q x && p x) n := by
  unfold pickF; rw [List.filter_filter]
theorem pool_cnt {c : Cf} (h : c.Ok) {j : Nat} (hj : (j : Int) ≤ c.many) : ((Cf.foreign { c with many := c.many - j }).filter fun v => decide (c.first ≤ v ∧ v < c.first + c.many)).length = j := by
  have h1 := h.host; have h2 := h.first; have h3 := h.room
  rw [Cf.foreign_of (Cf.fewer_ok h (k := c.many - j) (by omega) (by omega)), pickF_filter]
  have e : pickF (fun x => decide (c.first ≤ x ∧ x < c.first + c.many) && Cf.frn { c with many := c.many - j } x) c.host.toNat = pickF (fun x => decide ((((c.first + (c.many - j)).toNat : Nat) : Int) ≤ x ∧ x < ((c.first + (c.many - j)).toNat : Nat) + (j : Nat))) c.host.toNat := by
    apply pickF_congr
    intro x x0 x1
    rw [Bool.eq_iff_iff, Bool.and_eq_true, Cf.frn_iff]
    unfold Cf.pool
    simp only [decide_eq_false_iff_not, decide_eq_true_eq]
    constructor
    · rintro ⟨hp, _, hq⟩; omega
    · intro hp
      refine ⟨by omega, fun hm => ?_, by omega⟩
      have := h.apart x hm
      unfold Cf.pool at this
      rw [decide_eq_false_iff_not] at this
      omega
  simp only [e]
  rw [pickF_in]; omega

set_option maxRecDepth 100000 in
set_option maxHeartbeats 8000000 in
theorem ConfPool_walk (c : Cf) (A : Option Addr) (n k : Nat) (at_ : Int) (w : World) (hin : CfIn c A n w) (hb : 0 ≤ at_ ∧ at_ ≤ 255) :
    Calls Try.prog 8 #[.agg (c.cs A n k), .int .u8 at_] w fun e w' => e = .returned (.bool true) ∧ Chg [] w w' := by
  have hsl := hin.sl
  have hwf := hin.wf
  have hlen := hsl.len
  have hle := hsl.le
  obtain ⟨h, L, f, m, t, a, r⟩ := c
  unfold Cf.cs
  simp only at *
  by_cases hn : 900 < n
  · have hnz : (900 : Int) < (n : Int) := by omega
    have hng : decide ((n : Int) > 900) = true := by simpa using hnz
    go_enter Try.func8, Try.ntmps8
    go_wp2_with fail
    have b1 := Blk.new w 24 #[.int .i64 h, .slice A n k, .int .i64 f, .int .i64 m, .int .i64 t, .int .i64 a, .int .i64 r]
    refine (Chead_any _).mono ?_; rintro e w1 ⟨rfl, k1⟩
    replace b1 := b1.chg_ k1 (by simp)
    have hc : Chg [] w w1 := ((Chg.refl [] w).alloc _).trans k1 (by simp)
    replace hsl := hsl.chg hc
    clear k1
    obtain ⟨c0, c1, c2, c3, c4, c5, c6⟩ := cfc7 b1
    clear hlen hle
    go_wp2_with fail
    go_ret
    exact ⟨rfl, hc⟩
  · have hnz : ¬ (900 : Int) < (n : Int) := by omega
    have hng : decide ((n : Int) > 900) = false := by simpa using hnz
    cases hR : Cf.right ⟨h, L, f, m, t, a, r⟩ with
    | false =>
      go_enter Try.func8, Try.ntmps8
      go_wp2_with fail
      have b1 := Blk.new w 24 #[.int .i64 h, .slice A n k, .int .i64 f, .int .i64 m, .int .i64 t, .int .i64 a, .int .i64 r]
      refine (Chead_any _).mono ?_; rintro e w1 ⟨rfl, k1⟩
      replace b1 := b1.chg_ k1 (by simp)
      have hc : Chg [] w w1 := ((Chg.refl [] w).alloc _).trans k1 (by simp)
      replace hsl := hsl.chg hc
      clear k1
      obtain ⟨c0, c1, c2, c3, c4, c5, c6⟩ := cfc7 b1
      clear hlen hle
      go_wp2_with fail
      refine (CRight_lit h L f m t a r A n k false _ hsl hwf hR).mono ?_; rintro e w2 ⟨rfl, k2⟩
      go_wp2_with fail
      go_ret
      exact ⟨rfl, hc.trans k2 (by simp)⟩
    | true =>
      have hok := (Cf.right_iff _).1 hR
      have ok1 := hok.host
      have ok2 := hok.first
      have ok3 := hok.many
      have ok4 := hok.room
      simp only at ok1 ok2 ok3 ok4
      obtain ⟨q, rfl⟩ := Int.eq_ofNat_of_zero_le hb.1
      obtain ⟨j, hj⟩ : ∃ j, q % (m.toNat + 1) = j := ⟨_, rfl⟩
      have hjm : (j : Int) ≤ m := by have := Nat.mod_lt q (show 0 < m.toNat + 1 by omega); omega
      have hrem : ((q : Int)).tmod (m + 1) = (j : Int) := by rw [Int.tmod_eq_emod_of_nonneg (by omega), show m + 1 = ((m.toNat + 1 : Nat) : Int) by omega, ← Int.natCast_emod, hj]
      have hne : ¬ m + 1 = 0 := by omega
      have hcv : IntKind.i64.wrap (q : Int) = q := IntWalk.i64_in _ (by omega)
      have hcj : IntKind.i64.wrap (j : Int) = j := IntWalk.i64_in _ (by omega)
      have hm1 : IntKind.i64.wrap (m + 1) = m + 1 := IntWalk.i64_in _ (by omega)
      have hmj : IntKind.i64.wrap (m - j) = m - j := IntWalk.i64_in _ (by omega)
      have hokA := Cf.fewer_ok (k := m - j) hok (by omega) (by (try simp only); omega)
      simp only at hokA
      have hwA : Cf.Wf ⟨h, L, f, m - j, t, a, r⟩ := hd_wf L ⟨hwf.1, hwf.2, by unfold I64; omega, hwf.4, hwf.5, hwf.6⟩
      have hrA : Cf.right ⟨h, L, f, m - j, t, a, r⟩ = true := (Cf.right_iff _).2 hokA
      have e1 := Cf.fewer_foreign (k := m - j) hok (by omega) (by (try simp only); omega)
      simp only at e1
      rw [show (m - (m - (j : Int))).toNat = j by omega] at e1
      have hxl := (Cf.foreign_rng (c := ⟨h, L, f, m, t, a, r⟩)).2
      have hrgA := Cf.foreign_rng (c := ⟨h, L, f, m - j, t, a, r⟩)
      obtain ⟨x, hx⟩ : ∃ x, (Cf.foreign ⟨h, L, f, m, t, a, r⟩).length = x := ⟨_, rfl⟩
      rw [hx] at e1 hxl
      have hcn := pool_cnt hok hjm
      simp only at hcn
      have hiA : Cf.image ⟨h, L, f, m - j, t, a, r⟩ = Cf.image ⟨h, L, f, m, t, a, r⟩ := by rw [Cf.image_of hokA, Cf.image_of hok]; rfl
      have hiR := Cf.image_rng (c := ⟨h, L, f, m, t, a, r⟩)
      have FC := fun w (hs : SlK .i64 w A n L) => CForeign_n ⟨h, L, f, m, t, a, r⟩ A n k x w ⟨hs, hwf⟩ hx
      have FA := fun w (hs : SlK .i64 w A n L) => CForeign_at ⟨h, L, f, m - j, t, a, r⟩ A n k w ⟨hs, hwA⟩
      have IA := fun w (hs : SlK .i64 w A n L) => CImage_at ⟨h, L, f, m - j, t, a, r⟩ A n k w ⟨hs, hwA⟩
      have IC := fun w (hs : SlK .i64 w A n L) => CImage_at ⟨h, L, f, m, t, a, r⟩ A n k w ⟨hs, hwf⟩
      rw [hiA] at IA
      generalize Cf.image ⟨h, L, f, m, t, a, r⟩ = I1 at *
      generalize Cf.foreign ⟨h, L, f, m - j, t, a, r⟩ = M1 at *
      generalize hcc : (fun i => ((M1.take i).filter fun v => decide (f ≤ v ∧ v < f + m)).length) = cnt at *
      have hc0 : cnt 0 = 0 := by rw [← hcc]; simp
      have hcs : ∀ i, i < M1.length → cnt (i + 1) = cnt i + if decide (f ≤ M1.getD i 0 ∧ M1.getD i 0 < f + m) = true then 1 else 0 := fun i hi => by rw [← hcc]; exact cnt_step _ M1 hi
      have hce : cnt M1.length = j := by rw [← hcc]; simpa using hcn
      have hcle : ∀ i, cnt i ≤ i := fun i => by rw [← hcc]; exact Nat.le_trans (List.length_filter_le _ _) (List.length_take_le _ _)
      clear hcc hcn hx hok hokA hiA
      rw [e1] at hce
      have E1 := Lib.hid e1
      have HCS := Lib.hid hcs
      have HCE := Lib.hid hce
      have HC0 := Lib.hid hc0
      have HCL := Lib.hid hcle
      have HIR := Lib.hid hiR
      have HRG := Lib.hid hrgA
      clear e1 hcs hce hc0 hcle hiR hrgA
      have hfm : wrap64 (f + m) = f + m := by unfold wrap64; omega
      have hfm2 : IntKind.i64.wrap (f + m) = f + m := IntWalk.i64_in _ (by omega)
      have hmm : IntKind.i64.wrap (m - (m - j)) = j := by rw [IntWalk.i64_in _ (by omega)]; omega
      have hxj : IntKind.i64.wrap ((x : Int) + j) = (x : Int) + j := IntWalk.i64_in _ (by omega)
      have HJM : Hid ((j : Int) ≤ m ∧ q % (m.toNat + 1) = j) := Lib.hid ⟨hjm, hj⟩
      clear hj hlen
      go_enter Try.func8, Try.ntmps8
      go_wp2_with fail
      have b1 := Blk.new w 24 #[.int .i64 h, .slice A n k, .int .i64 f, .int .i64 m, .int .i64 t, .int .i64 a, .int .i64 r]
      refine (Chead_any _).mono ?_; rintro e w1 ⟨rfl, k1⟩
      replace b1 := b1.chg_ k1 (by simp)
      have hc : Chg [] w w1 := ((Chg.refl [] w).alloc _).trans k1 (by simp)
      replace hsl := hsl.chg hc
      clear k1
      obtain ⟨c0, c1, c2, c3, c4, c5, c6⟩ := cfc7 b1
      go_wp2_with fail
      refine (CRight_lit h L f m t a r A n k true _ hsl hwf hR).mono ?_; rintro e w2 ⟨rfl, k2⟩
      replace b1 := b1.chg_ k2 (by simp)
      replace hc := hc.trans k2 (by simp)
      replace hsl := hsl.chg k2
      clear k2 c0 c1 c2 c3 c4 c5 c6
      obtain ⟨c0, c1, c2, c3, c4, c5, c6⟩ := cfc7 b1
      have hlt1 : w.heap.size < w2.heap.size := b1.lt
      go_wp2_with fail
      have hcn : Chg [] w2 (w2.alloc (.cells #[.int .i64 h, .slice A n k, .int .i64 f, .int .i64 m, .int .i64 t, .int .i64 a, .int .i64 r] 24)) := ((Chg.refl [] w2).alloc _)
      have b6 : Blk (w2.alloc (.cells #[.int .i64 h, .slice A n k, .int .i64 f, .int .i64 m, .int .i64 t, .int .i64 a, .int .i64 r] 24)) (w2.heap.size) 24 #[.int .i64 h, .slice A n k, .int .i64 f, .int .i64 m, .int .i64 t, .int .i64 a, .int .i64 r] := by have := Blk.new w2 24 #[.int .i64 h, .slice A n k, .int .i64 f, .int .i64 m, .int .i64 t, .int .i64 a, .int .i64 r]; simpa using this
      replace b1 := b1.chg_ hcn (by simp)
      replace hc := hc.trans hcn (by simp)
      replace hsl := hsl.chg hcn
      generalize (w2.alloc (.cells #[.int .i64 h, .slice A n k, .int .i64 f, .int .i64 m, .int .i64 t, .int .i64 a, .int .i64 r] 24)) = w3 at *
      clear hcn
      clear c0 c1 c2 c3 c4 c5 c6
      have g3_ := b6.frozen 3
      obtain ⟨p0, p1, p2, p3, p4, p5, p6⟩ := cfc7 b6
      refine wp_region_noPanic ?_
      refine wp_region_held_drew (S := (fun w' => Chg [w2.heap.size] w3 w')) (by kernel_rfl) ?_ (fun hHeld => ?_)
      · exact (Chg.refl [w2.heap.size] w3).drew
      (refine take_on 0 (some 23) (v := ?_) rfl rfl (by kernel_rfl) (by kernel_rfl) (by kernel_rfl) (fun _ _ _ h => h) (by rfl) (by assumption) ?_ ?_; rotate_left; · (intro w hSw; go_simp; (try with_reducible rfl)))
      (try simp only [Act.put, List.setIfInBounds_toArray, List.set_cons_zero, List.set_cons_succ])
      (refine take_on 1 (some 24) (v := ?_) rfl rfl (by kernel_rfl) (by kernel_rfl) (by kernel_rfl) (fun _ _ _ h => h) (by rfl) (by assumption) ?_ ?_; rotate_left; · (intro w hSw; (try dsimp only at hSw); have b_ := b1.chg_ hSw (by simp; omega); obtain ⟨d0, d1, d2, d3, d4, d5, d6⟩ := cfc7 b_; go_simp; (try with_reducible rfl)))
      (try simp only [Act.put, List.setIfInBounds_toArray, List.set_cons_zero, List.set_cons_succ])
      (refine take_on 2 (some 25) (v := ?_) rfl rfl (by kernel_rfl) (by kernel_rfl) (by kernel_rfl) (fun _ _ _ h => h) (by rfl) (by assumption) ?_ ?_; rotate_left; · (intro w hSw; go_simp; (try with_reducible rfl)))
      (try simp only [Act.put, List.setIfInBounds_toArray, List.set_cons_zero, List.set_cons_succ])
      (refine take_on 3 (some 26) (v := ?_) rfl rfl (by kernel_rfl) (by kernel_rfl) (by kernel_rfl) (fun _ _ _ h => h) (by rfl) (by assumption) ?_ ?_; rotate_left; · (intro w hSw; go_simp; (try with_reducible rfl)))
      (try simp only [Act.put, List.setIfInBounds_toArray, List.set_cons_zero, List.set_cons_succ])
      (refine take_on 4 (some 27) (v := ?_) rfl rfl (by kernel_rfl) (by kernel_rfl) (by kernel_rfl) (fun _ _ _ h => h) (by rfl) (by assumption) ?_ ?_; rotate_left; · (intro w hSw; go_simp; (try with_reducible rfl)))
      (try simp only [Act.put, List.setIfInBounds_toArray, List.set_cons_zero, List.set_cons_succ])
      (refine take_on 5 (some 28) (v := ?_) rfl rfl (by kernel_rfl) (by kernel_rfl) (by kernel_rfl) (fun _ _ _ h => h) (by rfl) (by assumption) ?_ ?_; rotate_left; · (intro w hSw; (try dsimp only at hSw); have b_ := b1.chg_ hSw (by simp; omega); obtain ⟨d0, d1, d2, d3, d4, d5, d6⟩ := cfc7 b_; go_simp; (try with_reducible rfl)))
      (try simp only [Act.put, List.setIfInBounds_toArray, List.set_cons_zero, List.set_cons_succ])
      (refine take_on 6 (some 29) (v := ?_) rfl rfl (by kernel_rfl) (by kernel_rfl) (by kernel_rfl) (fun _ _ _ h => h) (by rfl) (by assumption) ?_ ?_; rotate_left; · (intro w hSw; go_simp; (try with_reducible rfl)))
      (try simp only [Act.put, List.setIfInBounds_toArray, List.set_cons_zero, List.set_cons_succ])
      (refine take_on 7 (some 30) (v := ?_) rfl rfl (by kernel_rfl) (by kernel_rfl) (by kernel_rfl) (fun _ _ _ h => h) (by rfl) (by assumption) ?_ ?_; rotate_left; · (intro w hSw; go_simp; (try with_reducible rfl)))
      (try simp only [Act.put, List.setIfInBounds_toArray, List.set_cons_zero, List.set_cons_succ])
      (refine take_on 8 (some 31) (v := ?_) rfl rfl (by kernel_rfl) (by kernel_rfl) (by kernel_rfl) (fun _ _ _ h => h) (by rfl) (by assumption) ?_ ?_; rotate_left; · (intro w hSw; go_simp; (try with_reducible rfl)))
      (try simp only [Act.put, List.setIfInBounds_toArray, List.set_cons_zero, List.set_cons_succ])
      (refine take_on 9 (some 32) (v := ?_) rfl rfl (by kernel_rfl) (by kernel_rfl) (by kernel_rfl) (fun _ _ _ h => h) (by rfl) (by assumption) ?_ ?_; rotate_left; · (intro w hSw; go_simp; (try with_reducible rfl)))
      (try simp only [Act.put, List.setIfInBounds_toArray, List.set_cons_zero, List.set_cons_succ])
      refine wpAnyH_ready (rs := [10]) (by kernel_rfl) (by simp) ?_; refine AllReadyH.cons (o := _) rfl (fun K hK => ?_) AllReadyH.nil
      go_simp
      skip
      refine hK.out _ _ (by (try dsimp only); exact Chg.setCell hHeld (p := ⟨w2.heap.size, 3, none⟩) (by simp) _) (fun hHeld => ?_)
      clear hK K
      (try simp only [Act.put, List.setIfInBounds_toArray, List.set_cons_zero, List.set_cons_succ])
      refine wpAnyH_done (by kernel_rfl) ?_ _
      refine NoPanic.normal ?_
      clear g3_ hrem hm1 hne p0 p1 p2 p3 p4 p5 p6
      replace b6 := (b6.set_ 3 (.int .i64 (m - j))).drew
      simp only [List.setIfInBounds_toArray, List.set_cons_zero, List.set_cons_succ] at b6
      replace b1 := b1.chg_ hHeld (by simp; try omega)
      replace hc := hc.trans hHeld (by intro i hi hm; simp at hm; omega)
      clear hsl hHeld
      generalize (w3.setCell ⟨w2.heap.size, 3, none⟩ (.int .i64 (m - j))).drew = w4 at *
      have hsl := hin.sl.chg hc
      clear hin hb
      obtain ⟨c0, c1, c2, c3, c4, c5, c6⟩ := cfc7 b6
      go_wp2_with fail
      refine (FA _ hsl).mono ?_; rintro e v0 ⟨B, mm, rfl, ho, _, y⟩
      clear c0 c1 c2 c3 c4 c5 c6
      replace b1 := b1.chg_ y (by simp)
      replace b6 := b6.chg_ y (by simp)
      replace hsl := hsl.chg y
      replace hc := hc.trans y (by simp)
      have hM := slk_rng ho HRG.out
      clear ho
      rw [E1.out] at hM ⊢
      clear y
      obtain ⟨c0, c1, c2, c3, c4, c5, c6⟩ := cfc7 b1
      go_wp2_with fail
      refine (FC _ hsl).mono ?_; rintro e v1 ⟨B2, m2, rfl, y⟩
      clear c0 c1 c2 c3 c4 c5 c6
      replace b1 := b1.chg_ y (by simp)
      replace b6 := b6.chg_ y (by simp)
      replace hsl := hsl.chg y
      replace hc := hc.trans y (by simp)
      replace hM := hM.chg y
      clear y
      obtain ⟨c0, c1, c2, c3, c4, c5, c6⟩ := cfc7 b1
      obtain ⟨p0, p1, p2, p3, p4, p5, p6⟩ := cfc7 b6
      go_wp2_with fail
      go_loopw [9, 10] (fun s9 s10 wr => ∃ i : Nat, i ≤ x + j ∧ s9 = .int .i64 (cnt i) ∧ s10 = .int .i64 i ∧ Chg [] v1 wr) (fun _ s10 _ => (x + j) - (intOf s10).toNat)
      case atStart => exact ⟨0, by omega, by rw [HC0.out]; rfl, rfl, Chg.refl _ _⟩
      case round =>
        obtain ⟨i, hi, rfl, rfl, y⟩ := hrel
        clear c0 c1 c2 c3 c4 c5 c6 p0 p1 p2 p3 p4 p5 p6
        replace b1 := b1.chg_ y (by simp)
        obtain ⟨c0, c1, c2, c3, c4, c5, c6⟩ := cfc7 b1
        by_cases hlt : i < x + j
        · obtain ⟨sb, off, rfl, hsb, hxx, _⟩ := (hM.chg y).get hlt
          have hst := HCS.out i (by rw [E1.out]; exact hlt)
          have hil := HCL.out i
          have hltz : (i : Int) < (x : Int) + (j : Int) := by omega
          generalize M1.getD i 0 = v at *
          have hxv : 0 ≤ i ∧ i ≤ 512 := by omega
          by_cases hv1 : v ≥ f
          · have hg1 : decide (v ≥ f) = true := by simpa using hv1
            by_cases hv2 : v < f + m
            · have hg2 : decide (v < f + m) = true := by simpa using hv2
              have hdv : decide (f ≤ v ∧ v < f + m) = true := by simp; omega
              rw [hdv] at hst
              have HST := Lib.hid hst
              clear hst hdv
              go_wp2_with fail
              go_quiet (fail)
              go_wp2_with fail
              go_roundw
              case rel => exact ⟨i + 1, by omega, by rw [HST.out]; go_num, by go_num, y.drewN _⟩
              case measure => simp [intOf]; omega
            · have hg2 : decide (v < f + m) = false := by simpa using hv2
              have hdv : decide (f ≤ v ∧ v < f + m) = false := by simp; omega
              rw [hdv] at hst
              have HST := Lib.hid hst
              clear hst hdv
              go_wp2_with fail
              go_quiet (fail)
              go_wp2_with fail
              go_roundw
              case rel => exact ⟨i + 1, by omega, by rw [HST.out]; simp, by go_num, y.drewN _⟩
              case measure => simp [intOf]; omega
          · have hg1 : decide (v ≥ f) = false := by simpa using hv1
            have hdv : decide (f ≤ v ∧ v < f + m) = false := by simp; omega
            rw [hdv] at hst
            have HST := Lib.hid hst
            clear hst hdv
            go_wp2_with fail
            go_quiet (fail)
            go_wp2_with fail
            go_roundw
            case rel => exact ⟨i + 1, by omega, by rw [HST.out]; simp, by go_num, y.drewN _⟩
            case measure => simp [intOf]; omega
        · obtain rfl : i = x + j := by omega
          have hltz : ¬ ((x : Int) + (j : Int)) < (x : Int) + (j : Int) := by omega
          rw [HCE.out]
          replace b6 := b6.chg_ y (by simp)
          replace hsl := hsl.chg y
          replace hc := hc.trans y (by simp)
          clear c0 c1 c2 c3 c4 c5 c6
          obtain ⟨c0, c1, c2, c3, c4, c5, c6⟩ := cfc7 b1
          clear y hM HCS HCL HC0
          go_wp2_with fail
          clear c0 c1 c2 c3 c4 c5 c6
          refine wp_region_noPanic ?_
          refine wp_region_held_drew (S := (fun w' => Chg [] wr w')) (by kernel_rfl) ?_ (fun hHeld => ?_)
          · exact (Chg.refl [] wr).drew
          (refine take_on 0 (some 64) (v := ?_) rfl rfl (by kernel_rfl) (by kernel_rfl) (by kernel_rfl) (fun _ _ _ h => h) (by rfl) (by assumption) ?_ ?_; rotate_left; · (intro w hSw; go_simp; (try with_reducible rfl)))
          (try simp only [Act.put, List.setIfInBounds_toArray, List.set_cons_zero, List.set_cons_succ])
          (refine take_on 1 (some 65) (v := ?_) rfl rfl (by kernel_rfl) (by kernel_rfl) (by kernel_rfl) (fun _ _ _ h => h) (by rfl) (by assumption) ?_ ?_; rotate_left; · (intro w hSw; go_simp; (try with_reducible rfl)))
          (try simp only [Act.put, List.setIfInBounds_toArray, List.set_cons_zero, List.set_cons_succ])
          (refine take_on 2 (some 66) (v := ?_) rfl rfl (by kernel_rfl) (by kernel_rfl) (by kernel_rfl) (fun _ _ _ h => h) (by rfl) (by assumption) ?_ ?_; rotate_left; · (intro w hSw; (try dsimp only at hSw); have b_ := b6.chg_ hSw (by simp); obtain ⟨d0, d1, d2, d3, d4, d5, d6⟩ := cfc7 b_; go_simp; (try with_reducible rfl)))
          (try simp only [Act.put, List.setIfInBounds_toArray, List.set_cons_zero, List.set_cons_succ])
          refine wpAnyH_ready (rs := [3]) (by kernel_rfl) (by simp) ?_; refine AllReadyH.cons (o := _) rfl (fun K hK => ?_) AllReadyH.nil
          go_simp
          (go_at_call 10; refine (CRight_lit h L f (m - j) t a r A n k true _ (hsl.chg hHeld) hwA hrA).mono ?_; rintro e u0 ⟨rfl, y0⟩)
          refine hK.out _ _ (by (try dsimp only); exact hHeld.trans y0 (by simp)) (fun hHeld => ?_)
          clear hK K
          (try simp only [Act.put, List.setIfInBounds_toArray, List.set_cons_zero, List.set_cons_succ])
          (refine take_on 4 (some 68) (v := ?_) rfl rfl (by kernel_rfl) (by kernel_rfl) (by kernel_rfl) (fun _ _ _ h => h) (by rfl) (by assumption) ?_ ?_; rotate_left; · (intro w hSw; go_simp; (try with_reducible rfl)))
          (try simp only [Act.put, List.setIfInBounds_toArray, List.set_cons_zero, List.set_cons_succ])
          (refine take_on 5 (some 69) (v := ?_) rfl rfl (by kernel_rfl) (by kernel_rfl) (by kernel_rfl) (fun _ _ _ h => h) (by rfl) (by assumption) ?_ ?_; rotate_left; · (intro w hSw; go_simp; (try with_reducible rfl)))
          (try simp only [Act.put, List.setIfInBounds_toArray, List.set_cons_zero, List.set_cons_succ])
          (refine take_on 6 (some 70) (v := ?_) rfl rfl (by kernel_rfl) (by kernel_rfl) (by kernel_rfl) (fun _ _ _ h => h) (by rfl) (by assumption) ?_ ?_; rotate_left; · (intro w hSw; go_simp; (try with_reducible rfl)))
          (try simp only [Act.put, List.setIfInBounds_toArray, List.set_cons_zero, List.set_cons_succ])
          (refine take_on 7 (some 71) (v := ?_) rfl rfl (by kernel_rfl) (by kernel_rfl) (by kernel_rfl) (fun _ _ _ h => h) (by rfl) (by assumption) ?_ ?_; rotate_left; · (intro w hSw; go_simp; (try with_reducible rfl)))
          (try simp only [Act.put, List.setIfInBounds_toArray, List.set_cons_zero, List.set_cons_succ])
          (refine take_on 8 (some 72) (v := ?_) rfl rfl (by kernel_rfl) (by kernel_rfl) (by kernel_rfl) (fun _ _ _ h => h) (by rfl) (by assumption) ?_ ?_; rotate_left; · (intro w hSw; (try dsimp only at hSw); have b_ := b1.chg_ hSw (by simp); obtain ⟨d0, d1, d2, d3, d4, d5, d6⟩ := cfc7 b_; go_simp; (try with_reducible rfl)))
          (try simp only [Act.put, List.setIfInBounds_toArray, List.set_cons_zero, List.set_cons_succ])
          (refine take_on 9 (some 73) (v := ?_) rfl rfl (by kernel_rfl) (by kernel_rfl) (by kernel_rfl) (fun _ _ _ h => h) (by rfl) (by assumption) ?_ ?_; rotate_left; · (intro w hSw; go_simp; (try with_reducible rfl)))
          (try simp only [Act.put, List.setIfInBounds_toArray, List.set_cons_zero, List.set_cons_succ])
          (refine take_on 10 (some 74) (v := ?_) rfl rfl (by kernel_rfl) (by kernel_rfl) (by kernel_rfl) (fun _ _ _ h => h) (by rfl) (by assumption) ?_ ?_; rotate_left; · (intro w hSw; (try dsimp only at hSw); have b_ := b6.chg_ hSw (by simp); obtain ⟨d0, d1, d2, d3, d4, d5, d6⟩ := cfc7 b_; go_simp; (try with_reducible rfl)))
          (try simp only [Act.put, List.setIfInBounds_toArray, List.set_cons_zero, List.set_cons_succ])
          (refine take_on 11 (some 75) (v := ?_) rfl rfl (by kernel_rfl) (by kernel_rfl) (by kernel_rfl) (fun _ _ _ h => h) (by rfl) (by assumption) ?_ ?_; rotate_left; · (intro w hSw; go_simp; (try with_reducible rfl)))
          (try simp only [Act.put, List.setIfInBounds_toArray, List.set_cons_zero, List.set_cons_succ])
          (refine take_on 12 (some 76) (v := ?_) rfl rfl (by kernel_rfl) (by kernel_rfl) (by kernel_rfl) (fun _ _ _ h => h) (by rfl) (by assumption) ?_ ?_; rotate_left; · (intro w hSw; go_simp; (try with_reducible rfl)))
          (try simp only [Act.put, List.setIfInBounds_toArray, List.set_cons_zero, List.set_cons_succ])
          (refine take_on 13 (some 77) (v := ?_) rfl rfl (by kernel_rfl) (by kernel_rfl) (by kernel_rfl) (fun _ _ _ h => h) (by rfl) (by assumption) ?_ ?_; rotate_left; · (intro w hSw; go_simp; (try with_reducible rfl)))
          (try simp only [Act.put, List.setIfInBounds_toArray, List.set_cons_zero, List.set_cons_succ])
          (refine take_on 14 (some 78) (v := ?_) rfl rfl (by kernel_rfl) (by kernel_rfl) (by kernel_rfl) (fun _ _ _ h => h) (by rfl) (by assumption) ?_ ?_; rotate_left; · (intro w hSw; go_simp; (try with_reducible rfl)))
          (try simp only [Act.put, List.setIfInBounds_toArray, List.set_cons_zero, List.set_cons_succ])
          (refine take_on 15 (some 79) (v := ?_) rfl rfl (by kernel_rfl) (by kernel_rfl) (by kernel_rfl) (fun _ _ _ h => h) (by rfl) (by assumption) ?_ ?_; rotate_left; · (intro w hSw; go_simp; (try with_reducible rfl)))
          (try simp only [Act.put, List.setIfInBounds_toArray, List.set_cons_zero, List.set_cons_succ])
          (refine take_on 16 (some 80) (v := ?_) rfl rfl (by kernel_rfl) (by kernel_rfl) (by kernel_rfl) (fun _ _ _ h => h) (by rfl) (by assumption) ?_ ?_; rotate_left; · (intro w hSw; go_simp; (try with_reducible rfl)))
          (try simp only [Act.put, List.setIfInBounds_toArray, List.set_cons_zero, List.set_cons_succ])
          (refine take_on 17 (some 81) (v := ?_) rfl rfl (by kernel_rfl) (by kernel_rfl) (by kernel_rfl) (fun _ _ _ h => h) (by rfl) (by assumption) ?_ ?_; rotate_left; · (intro w hSw; go_simp; (try with_reducible rfl)))
          (try simp only [Act.put, List.setIfInBounds_toArray, List.set_cons_zero, List.set_cons_succ])
          (refine take_on 18 (some 82) (v := ?_) rfl rfl (by kernel_rfl) (by kernel_rfl) (by kernel_rfl) (fun _ _ _ h => h) (by rfl) (by assumption) ?_ ?_; rotate_left; · (intro w hSw; go_simp; (try with_reducible rfl)))
          (try simp only [Act.put, List.setIfInBounds_toArray, List.set_cons_zero, List.set_cons_succ])
          (refine take_on 19 (some 83) (v := ?_) rfl rfl (by kernel_rfl) (by kernel_rfl) (by kernel_rfl) (fun _ _ _ h => h) (by rfl) (by assumption) ?_ ?_; rotate_left; · (intro w hSw; go_simp; (try with_reducible rfl)))
          (try simp only [Act.put, List.setIfInBounds_toArray, List.set_cons_zero, List.set_cons_succ])
          (refine take_on 20 (some 84) (v := ?_) rfl rfl (by kernel_rfl) (by kernel_rfl) (by kernel_rfl) (fun _ _ _ h => h) (by rfl) (by assumption) ?_ ?_; rotate_left; · (intro w hSw; go_simp; (try with_reducible rfl)))
          (try simp only [Act.put, List.setIfInBounds_toArray, List.set_cons_zero, List.set_cons_succ])
          (refine take_on 21 (some 85) (v := ?_) rfl rfl (by kernel_rfl) (by kernel_rfl) (by kernel_rfl) (fun _ _ _ h => h) (by rfl) (by assumption) ?_ ?_; rotate_left; · (intro w hSw; go_simp; (try with_reducible rfl)))
          (try simp only [Act.put, List.setIfInBounds_toArray, List.set_cons_zero, List.set_cons_succ])
          (refine take_on 22 (some 86) (v := ?_) rfl rfl (by kernel_rfl) (by kernel_rfl) (by kernel_rfl) (fun _ _ _ h => h) (by rfl) (by assumption) ?_ ?_; rotate_left; · (intro w hSw; go_simp; (try with_reducible rfl)))
          (try simp only [Act.put, List.setIfInBounds_toArray, List.set_cons_zero, List.set_cons_succ])
          (refine take_on 23 (some 87) (v := ?_) rfl rfl (by kernel_rfl) (by kernel_rfl) (by kernel_rfl) (fun _ _ _ h => h) (by rfl) (by assumption) ?_ ?_; rotate_left; · (intro w hSw; go_simp; (try with_reducible rfl)))
          (try simp only [Act.put, List.setIfInBounds_toArray, List.set_cons_zero, List.set_cons_succ])
          (refine take_on 24 (some 88) (v := ?_) rfl rfl (by kernel_rfl) (by kernel_rfl) (by kernel_rfl) (fun _ _ _ h => h) (by rfl) (by assumption) ?_ ?_; rotate_left; · (intro w hSw; (try dsimp only at hSw); have b_ := b6.chg_ hSw (by simp); obtain ⟨d0, d1, d2, d3, d4, d5, d6⟩ := cfc7 b_; go_simp; (try with_reducible rfl)))
          (try simp only [Act.put, List.setIfInBounds_toArray, List.set_cons_zero, List.set_cons_succ])
          (refine take_on 26 (some 90) (v := ?_) rfl rfl (by kernel_rfl) (by kernel_rfl) (by kernel_rfl) (fun _ _ _ h => h) (by rfl) (by assumption) ?_ ?_; rotate_left; · (intro w hSw; (try dsimp only at hSw); have b_ := b1.chg_ hSw (by simp); obtain ⟨d0, d1, d2, d3, d4, d5, d6⟩ := cfc7 b_; go_simp; (try with_reducible rfl)))
          (try simp only [Act.put, List.setIfInBounds_toArray, List.set_cons_zero, List.set_cons_succ])
          refine wpAnyH_ready (rs := [25]) (by kernel_rfl) (by simp) ?_; refine AllReadyH.cons (o := _) rfl (fun K hK => ?_) AllReadyH.nil
          go_simp
          (go_at_call 13; refine (IA _ (hsl.chg hHeld)).mono ?_; rintro e u1 ⟨B3, m3, rfl, ho1, _, y1⟩; have hi1 := slk_rng ho1 HIR.out)
          refine hK.out _ _ (by (try dsimp only); exact hHeld.trans y1 (by simp)) (fun hHeld => ?_)
          clear hK K
          (try simp only [Act.put, List.setIfInBounds_toArray, List.set_cons_zero, List.set_cons_succ])
          refine wpAnyH_ready (rs := [27]) (by kernel_rfl) (by simp) ?_; refine AllReadyH.cons (o := _) rfl (fun K hK => ?_) AllReadyH.nil
          go_simp
          (go_at_call 13; refine (IC _ (hsl.chg hHeld)).mono ?_; rintro e u2 ⟨B4, m4, rfl, ho2, _, y2⟩; have hi2 := slk_rng ho2 HIR.out; replace hi1 := hi1.chg y2)
          refine hK.out _ _ (by (try dsimp only); exact hHeld.trans y2 (by simp)) (fun hHeld => ?_)
          clear hK K
          (try simp only [Act.put, List.setIfInBounds_toArray, List.set_cons_zero, List.set_cons_succ])
          refine wpAnyH_ready (rs := [28]) (by kernel_rfl) (by simp) ?_; refine AllReadyH.cons (o := _) rfl (fun K hK => ?_) AllReadyH.nil
          go_simp
          (go_at_call 12; refine (SameI_is _ _ _ I1 _ _ _ I1 true _ hi1 hi2 (by simp)).mono ?_; rintro e u3 ⟨rfl, y3⟩)
          refine hK.out _ _ (by (try dsimp only); exact hHeld.trans y3 (by simp)) (fun hHeld => ?_)
          clear hK K
          (try simp only [Act.put, List.setIfInBounds_toArray, List.set_cons_zero, List.set_cons_succ])
          (refine take_on 29 (some 93) (v := ?_) rfl rfl (by kernel_rfl) (by kernel_rfl) (by kernel_rfl) (fun _ _ _ h => h) (by rfl) (by assumption) ?_ ?_; rotate_left; · (intro w hSw; go_simp; (try with_reducible rfl)))
          (try simp only [Act.put, List.setIfInBounds_toArray, List.set_cons_zero, List.set_cons_succ])
          (refine take_on 30 (some 4) (v := ?_) rfl rfl (by kernel_rfl) (by kernel_rfl) (by kernel_rfl) (fun _ _ _ h => h) (by rfl) (by assumption) ?_ ?_; rotate_left; · (intro w hSw; go_simp; (try with_reducible rfl)))
          (try simp only [Act.put, List.setIfInBounds_toArray, List.set_cons_zero, List.set_cons_succ])
          refine wpAnyH_done (by kernel_rfl) ?_ _
          refine NoPanic.normal ?_
          go_wp2_with fail
          go_ret
          exact ⟨rfl, hc.trans hHeld (by simp)⟩

end Go.Proofs.Ytkggkdjhecagnaa
