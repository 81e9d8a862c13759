/-
  ConfRoom: the law, walked from contracts.
-/
import Derived.Test.YtkggkdjhecagnaaConfHead
namespace Go.Proofs.Ytkggkdjhecagnaa
open Go.RowKit Go.Maps

/-- how many foreign frames are told -/
def FrmN (x : Nat) (w : World) (e : Ending) (w' : World) : Prop := ∃ B m, e = .returned (.slice B x m) ∧ Chg [] w w'
theorem CForeign_n (c : Cf) (A : Option Addr) (n k x : Nat) (w : World) (hs : CfIn c A n w) (hx : c.foreign.length = x) : Calls Try.prog 15 #[.agg (c.cs A n k)] w (FrmN x w) := by
  subst hx
  exact (CForeign_at c A n k w hs).mono fun _ _ ⟨B, m, h1, _, _, h4⟩ => ⟨B, m, h1, h4⟩

set_option maxRecDepth 100000 in
set_option maxHeartbeats 8000000 in
theorem ConfRoom_walk (c : Cf) (A : Option Addr) (n k : Nat) (w : World) (hin : CfIn c A n w) :
    Calls Try.prog 6 #[.agg (c.cs A n k)] w fun e w' => e = .returned (.bool true) ∧ Chg [] w w' := by
  have hsl := hin.sl
  have hwf := hin.wf
  have hlen := hsl.len
  have hle := hsl.le
  obtain ⟨h, L, f, m, t, a, r⟩ := c
  unfold Cf.cs
  simp only at *
  by_cases hn : 900 < n
  · have hnz : (900 : Int) < (n : Int) := by omega
    have hng : decide ((n : Int) > 900) = true := by simpa using hnz
    go_enter Try.func6, Try.ntmps6
    go_wp2_with fail
    have b1 := Blk.new w 24 #[.int .i64 h, .slice A n k, .int .i64 f, .int .i64 m, .int .i64 t, .int .i64 a, .int .i64 r]
    refine (Chead_any _).mono ?_; rintro e w1 ⟨rfl, k1⟩
    replace b1 := b1.chg_ k1 (by simp)
    have hc : Chg [] w w1 := ((Chg.refl [] w).alloc _).trans k1 (by simp)
    replace hsl := hsl.chg hc
    clear k1
    obtain ⟨c0, c1, c2, c3, c4, c5, c6⟩ := cfc7 b1
    clear hlen hle
    go_wp2_with fail
    go_ret
    exact ⟨rfl, hc⟩
  · have hnz : ¬ (900 : Int) < (n : Int) := by omega
    have hng : decide ((n : Int) > 900) = false := by simpa using hnz
    cases hR : Cf.right ⟨h, L, f, m, t, a, r⟩ with
    | false =>
      go_enter Try.func6, Try.ntmps6
      go_wp2_with fail
      have b1 := Blk.new w 24 #[.int .i64 h, .slice A n k, .int .i64 f, .int .i64 m, .int .i64 t, .int .i64 a, .int .i64 r]
      refine (Chead_any _).mono ?_; rintro e w1 ⟨rfl, k1⟩
      replace b1 := b1.chg_ k1 (by simp)
      have hc : Chg [] w w1 := ((Chg.refl [] w).alloc _).trans k1 (by simp)
      replace hsl := hsl.chg hc
      clear k1
      obtain ⟨c0, c1, c2, c3, c4, c5, c6⟩ := cfc7 b1
      clear hlen hle
      go_wp2_with fail
      refine (CRight_lit h L f m t a r A n k false _ hsl hwf hR).mono ?_; rintro e w2 ⟨rfl, k2⟩
      go_wp2_with fail
      go_ret
      exact ⟨rfl, hc.trans k2 (by simp)⟩
    | true =>
      have hok := (Cf.right_iff _).1 hR
      have ok1 := hok.host
      have ok2 := hok.first
      have ok3 := hok.many
      have ok4 := hok.room
      simp only at ok1 ok2 ok3 ok4
      have hw1 : Cf.Wf ⟨h + 1, L, f, m, t, a, r⟩ := hd_wf L ⟨by unfold I64; omega, hwf.2, hwf.3, hwf.4, hwf.5, hwf.6⟩
      have hw2 : Cf.Wf ⟨h, L, f, 0, t, a, r⟩ := hd_wf L ⟨hwf.1, hwf.2, by unfold I64; omega, hwf.4, hwf.5, hwf.6⟩
      have hr2 : Cf.right ⟨h, L, f, 0, t, a, r⟩ = true := (Cf.right_iff _).2 (Cf.fewer_ok (k := 0) hok (by omega) ok3)
      have e2 := Cf.fewer_foreign (k := 0) hok (by omega) ok3
      simp only [Int.sub_zero] at e2
      obtain ⟨q, hq⟩ : ∃ q, m.toNat = q := ⟨_, rfl⟩
      rw [hq] at e2
      have hxl := (Cf.foreign_rng (c := ⟨h, L, f, m, t, a, r⟩)).2
      obtain ⟨x, hx⟩ : ∃ x, (Cf.foreign ⟨h, L, f, m, t, a, r⟩).length = x := ⟨_, rfl⟩
      rw [hx] at e2 hxl
      have hwr : wrap64 (h + 1) = h + 1 := by unfold wrap64; omega
      have hadd : IntKind.i64.wrap ((x : Int) + m) = (x : Int) + q := by rw [IntWalk.i64_in _ (by omega)]; omega
      have hadd1 : IntKind.i64.wrap ((x : Int) + 1) = (x : Int) + 1 := IntWalk.i64_in _ (by omega)
      clear hq
      have FC := fun w (hs : SlK .i64 w A n L) => CForeign_n ⟨h, L, f, m, t, a, r⟩ A n k x w ⟨hs, hwf⟩ hx
      have FB := fun w (hs : SlK .i64 w A n L) => CForeign_n ⟨h, L, f, 0, t, a, r⟩ A n k (x + q) w ⟨hs, hw2⟩ e2
      by_cases h256 : h < 256
      · have hr1 : Cf.right ⟨h + 1, L, f, m, t, a, r⟩ = true := (Cf.right_iff _).2 ((Cf.more_ok hok).2 h256)
        have hd1 : decide (h < 256) = true := by simpa using h256
        have hd2 : (h == 256) = false := by simp; omega
        have e1 := Cf.more_foreign hok h256
        rw [hx] at e1
        have FA := fun w (hs : SlK .i64 w A n L) => CForeign_n ⟨h + 1, L, f, m, t, a, r⟩ A n k (x + 1) w ⟨hs, hw1⟩ e1
        clear e1
        clear hx e2 hxl hok ok1 ok2 ok3 ok4 h256 hlen hle
        go_enter Try.func6, Try.ntmps6
        go_wp2_with fail
        have b1 := Blk.new w 24 #[.int .i64 h, .slice A n k, .int .i64 f, .int .i64 m, .int .i64 t, .int .i64 a, .int .i64 r]
        refine (Chead_any _).mono ?_; rintro e w1 ⟨rfl, k1⟩
        replace b1 := b1.chg_ k1 (by simp)
        have hc : Chg [] w w1 := ((Chg.refl [] w).alloc _).trans k1 (by simp)
        replace hsl := hsl.chg hc
        clear k1
        obtain ⟨c0, c1, c2, c3, c4, c5, c6⟩ := cfc7 b1
        go_wp2_with fail
        refine (CRight_lit h L f m t a r A n k true _ hsl hwf hR).mono ?_; rintro e w2 ⟨rfl, k2⟩
        replace b1 := b1.chg_ k2 (by simp)
        replace hc := hc.trans k2 (by simp)
        replace hsl := hsl.chg k2
        clear k2 c0 c1 c2 c3 c4 c5 c6
        obtain ⟨c0, c1, c2, c3, c4, c5, c6⟩ := cfc7 b1
        have bm0 := b1.alloc (.cells #[.int .i64 h, .slice A n k, .int .i64 f, .int .i64 m, .int .i64 t, .int .i64 a, .int .i64 r] 24)
        obtain ⟨e0_0, e0_1, e0_2, e0_3, e0_4, e0_5, e0_6⟩ := cfc7 bm0
        have bn0 := (b1).alloc (.cells #[.int .i64 (h + 1), .slice A n k, .int .i64 f, .int .i64 m, .int .i64 t, .int .i64 a, .int .i64 r] 24)
        obtain ⟨g0_0, g0_1, g0_2, g0_3, g0_4, g0_5, g0_6⟩ := cfc7 bn0
        go_wp2_with fail
        have hcn : Chg [] w2 ((w2.alloc (.cells #[.int .i64 (h + 1), .slice A n k, .int .i64 f, .int .i64 m, .int .i64 t, .int .i64 a, .int .i64 r] 24)).alloc (.cells #[.int .i64 h, .slice A n k, .int .i64 f, .int .i64 0, .int .i64 t, .int .i64 a, .int .i64 r] 24)) := (((Chg.refl [] w2).alloc _).alloc _)
        have b4 : Blk ((w2.alloc (.cells #[.int .i64 (h + 1), .slice A n k, .int .i64 f, .int .i64 m, .int .i64 t, .int .i64 a, .int .i64 r] 24)).alloc (.cells #[.int .i64 h, .slice A n k, .int .i64 f, .int .i64 0, .int .i64 t, .int .i64 a, .int .i64 r] 24)) (w2.heap.size) 24 #[.int .i64 (h + 1), .slice A n k, .int .i64 f, .int .i64 m, .int .i64 t, .int .i64 a, .int .i64 r] := by have := (Blk.new w2 24 #[.int .i64 (h + 1), .slice A n k, .int .i64 f, .int .i64 m, .int .i64 t, .int .i64 a, .int .i64 r]).alloc (.cells #[.int .i64 h, .slice A n k, .int .i64 f, .int .i64 0, .int .i64 t, .int .i64 a, .int .i64 r] 24); simpa using this
        have b5 : Blk ((w2.alloc (.cells #[.int .i64 (h + 1), .slice A n k, .int .i64 f, .int .i64 m, .int .i64 t, .int .i64 a, .int .i64 r] 24)).alloc (.cells #[.int .i64 h, .slice A n k, .int .i64 f, .int .i64 0, .int .i64 t, .int .i64 a, .int .i64 r] 24)) (w2.heap.size + 1) 24 #[.int .i64 h, .slice A n k, .int .i64 f, .int .i64 0, .int .i64 t, .int .i64 a, .int .i64 r] := by have := Blk.new (w2.alloc (.cells #[.int .i64 (h + 1), .slice A n k, .int .i64 f, .int .i64 m, .int .i64 t, .int .i64 a, .int .i64 r] 24)) 24 #[.int .i64 h, .slice A n k, .int .i64 f, .int .i64 0, .int .i64 t, .int .i64 a, .int .i64 r]; simpa using this
        replace b1 := b1.chg_ hcn (by simp)
        replace hc := hc.trans hcn (by simp)
        replace hsl := hsl.chg hcn
        generalize ((w2.alloc (.cells #[.int .i64 (h + 1), .slice A n k, .int .i64 f, .int .i64 m, .int .i64 t, .int .i64 a, .int .i64 r] 24)).alloc (.cells #[.int .i64 h, .slice A n k, .int .i64 f, .int .i64 0, .int .i64 t, .int .i64 a, .int .i64 r] 24)) = w3 at *
        clear hcn
        clear c0 c1 c2 c3 c4 c5 c6
        clear e0_0 e0_1 e0_2 e0_3 e0_4 e0_5 e0_6 g0_0 g0_1 g0_2 g0_3 g0_4 g0_5 g0_6
        refine wp_region_noPanic ?_
        refine wp_region_held_drew (S := (fun w' => Chg [] w3 w')) (by kernel_rfl) ?_ (fun hHeld => ?_)
        · exact (Chg.refl [] w3).drew
        (refine take_on 0 (some 24) (v := ?_) rfl rfl (by kernel_rfl) (by kernel_rfl) (by kernel_rfl) (fun _ _ _ h => h) (by rfl) (by assumption) ?_ ?_; rotate_left; · (intro w hSw; go_simp; (try with_reducible rfl)))
        (try simp only [Act.put, List.setIfInBounds_toArray, List.set_cons_zero, List.set_cons_succ])
        (refine take_on 1 (some 25) (v := ?_) rfl rfl (by kernel_rfl) (by kernel_rfl) (by kernel_rfl) (fun _ _ _ h => h) (by rfl) (by assumption) ?_ ?_; rotate_left; · (intro w hSw; go_simp; (try with_reducible rfl)))
        (try simp only [Act.put, List.setIfInBounds_toArray, List.set_cons_zero, List.set_cons_succ])
        (refine take_on 2 (some 26) (v := ?_) rfl rfl (by kernel_rfl) (by kernel_rfl) (by kernel_rfl) (fun _ _ _ h => h) (by rfl) (by assumption) ?_ ?_; rotate_left; · (intro w hSw; (try dsimp only at hSw); have b_ := b4.chg_ hSw (by simp); obtain ⟨d0, d1, d2, d3, d4, d5, d6⟩ := cfc7 b_; go_simp; (try with_reducible rfl)))
        (try simp only [Act.put, List.setIfInBounds_toArray, List.set_cons_zero, List.set_cons_succ])
        (refine take_on 4 (some 28) (v := ?_) rfl rfl (by kernel_rfl) (by kernel_rfl) (by kernel_rfl) (fun _ _ _ h => h) (by rfl) (by assumption) ?_ ?_; rotate_left; · (intro w hSw; go_simp; (try with_reducible rfl)))
        (try simp only [Act.put, List.setIfInBounds_toArray, List.set_cons_zero, List.set_cons_succ])
        (refine take_on 5 (some 29) (v := ?_) rfl rfl (by kernel_rfl) (by kernel_rfl) (by kernel_rfl) (fun _ _ _ h => h) (by rfl) (by assumption) ?_ ?_; rotate_left; · (intro w hSw; (try dsimp only at hSw); have b_ := b1.chg_ hSw (by simp); obtain ⟨d0, d1, d2, d3, d4, d5, d6⟩ := cfc7 b_; go_simp; (try with_reducible rfl)))
        (try simp only [Act.put, List.setIfInBounds_toArray, List.set_cons_zero, List.set_cons_succ])
        (refine take_on 6 (some 30) (v := ?_) rfl rfl (by kernel_rfl) (by kernel_rfl) (by kernel_rfl) (fun _ _ _ h => h) (by rfl) (by assumption) ?_ ?_; rotate_left; · (intro w hSw; go_simp; (try with_reducible rfl)))
        (try simp only [Act.put, List.setIfInBounds_toArray, List.set_cons_zero, List.set_cons_succ])
        refine wpAnyH_ready (rs := [3]) (by kernel_rfl) (by simp) ?_; refine AllReadyH.cons (o := _) rfl (fun K hK => ?_) AllReadyH.nil
        go_simp
        (go_at_call 10; refine (CRight_lit (h + 1) L f m t a r A n k true _ (hsl.chg hHeld) hw1 hr1).mono ?_; rintro e u0 ⟨rfl, y0⟩)
        refine hK.out _ _ (by (try dsimp only); exact hHeld.trans y0 (by simp)) (fun hHeld => ?_)
        clear hK K
        (try simp only [Act.put, List.setIfInBounds_toArray, List.set_cons_zero, List.set_cons_succ])
        (refine take_on 7 (some 31) (v := ?_) rfl rfl (by kernel_rfl) (by kernel_rfl) (by kernel_rfl) (fun _ _ _ h => h) (by rfl) (by assumption) ?_ ?_; rotate_left; · (intro w hSw; go_simp; (try with_reducible rfl)))
        (try simp only [Act.put, List.setIfInBounds_toArray, List.set_cons_zero, List.set_cons_succ])
        (refine take_on 8 (some 32) (v := ?_) rfl rfl (by kernel_rfl) (by kernel_rfl) (by kernel_rfl) (fun _ _ _ h => h) (by rfl) (by assumption) ?_ ?_; rotate_left; · (intro w hSw; go_simp; (try with_reducible rfl)))
        (try simp only [Act.put, List.setIfInBounds_toArray, List.set_cons_zero, List.set_cons_succ])
        (refine take_on 9 (some 33) (v := ?_) rfl rfl (by kernel_rfl) (by kernel_rfl) (by kernel_rfl) (fun _ _ _ h => h) (by rfl) (by assumption) ?_ ?_; rotate_left; · (intro w hSw; go_simp; (try with_reducible rfl)))
        (try simp only [Act.put, List.setIfInBounds_toArray, List.set_cons_zero, List.set_cons_succ])
        (refine take_on 10 (some 34) (v := ?_) rfl rfl (by kernel_rfl) (by kernel_rfl) (by kernel_rfl) (fun _ _ _ h => h) (by rfl) (by assumption) ?_ ?_; rotate_left; · (intro w hSw; go_simp; (try with_reducible rfl)))
        (try simp only [Act.put, List.setIfInBounds_toArray, List.set_cons_zero, List.set_cons_succ])
        (refine take_on 11 (some 35) (v := ?_) rfl rfl (by kernel_rfl) (by kernel_rfl) (by kernel_rfl) (fun _ _ _ h => h) (by rfl) (by assumption) ?_ ?_; rotate_left; · (intro w hSw; (try dsimp only at hSw); have b_ := b1.chg_ hSw (by simp); obtain ⟨d0, d1, d2, d3, d4, d5, d6⟩ := cfc7 b_; go_simp; (try with_reducible rfl)))
        (try simp only [Act.put, List.setIfInBounds_toArray, List.set_cons_zero, List.set_cons_succ])
        (refine take_on 12 (some 36) (v := ?_) rfl rfl (by kernel_rfl) (by kernel_rfl) (by kernel_rfl) (fun _ _ _ h => h) (by rfl) (by assumption) ?_ ?_; rotate_left; · (intro w hSw; go_simp; (try with_reducible rfl)))
        (try simp only [Act.put, List.setIfInBounds_toArray, List.set_cons_zero, List.set_cons_succ])
        (refine take_on 13 (some 37) (v := ?_) rfl rfl (by kernel_rfl) (by kernel_rfl) (by kernel_rfl) (fun _ _ _ h => h) (by rfl) (by assumption) ?_ ?_; rotate_left; · (intro w hSw; go_simp; (try with_reducible rfl)))
        (try simp only [Act.put, List.setIfInBounds_toArray, List.set_cons_zero, List.set_cons_succ])
        (refine take_on 14 (some 38) (v := ?_) rfl rfl (by kernel_rfl) (by kernel_rfl) (by kernel_rfl) (fun _ _ _ h => h) (by rfl) (by assumption) ?_ ?_; rotate_left; · (intro w hSw; (try dsimp only at hSw); have b_ := b4.chg_ hSw (by simp); obtain ⟨d0, d1, d2, d3, d4, d5, d6⟩ := cfc7 b_; go_simp; (try with_reducible rfl)))
        (try simp only [Act.put, List.setIfInBounds_toArray, List.set_cons_zero, List.set_cons_succ])
        (refine take_on 17 (some 41) (v := ?_) rfl rfl (by kernel_rfl) (by kernel_rfl) (by kernel_rfl) (fun _ _ _ h => h) (by rfl) (by assumption) ?_ ?_; rotate_left; · (intro w hSw; (try dsimp only at hSw); have b_ := b1.chg_ hSw (by simp); obtain ⟨d0, d1, d2, d3, d4, d5, d6⟩ := cfc7 b_; go_simp; (try with_reducible rfl)))
        (try simp only [Act.put, List.setIfInBounds_toArray, List.set_cons_zero, List.set_cons_succ])
        refine wpAnyH_ready (rs := [15]) (by kernel_rfl) (by simp) ?_; refine AllReadyH.cons (o := _) rfl (fun K hK => ?_) AllReadyH.nil
        go_simp
        (go_at_call 15; refine (FA _ (hsl.chg hHeld)).mono ?_; rintro e u1 ⟨B1, m1, rfl, y1⟩)
        refine hK.out _ _ (by (try dsimp only); exact hHeld.trans y1 (by simp)) (fun hHeld => ?_)
        clear hK K
        (try simp only [Act.put, List.setIfInBounds_toArray, List.set_cons_zero, List.set_cons_succ])
        (refine take_on 16 (some 40) (v := ?_) rfl rfl (by kernel_rfl) (by kernel_rfl) (by kernel_rfl) (fun _ _ _ h => h) (by rfl) (by assumption) ?_ ?_; rotate_left; · (intro w hSw; go_simp; (try with_reducible rfl)))
        (try simp only [Act.put, List.setIfInBounds_toArray, List.set_cons_zero, List.set_cons_succ])
        refine wpAnyH_ready (rs := [18]) (by kernel_rfl) (by simp) ?_; refine AllReadyH.cons (o := _) rfl (fun K hK => ?_) AllReadyH.nil
        go_simp
        (go_at_call 15; refine (FC _ (hsl.chg hHeld)).mono ?_; rintro e u2 ⟨B2, m2, rfl, y2⟩)
        refine hK.out _ _ (by (try dsimp only); exact hHeld.trans y2 (by simp)) (fun hHeld => ?_)
        clear hK K
        (try simp only [Act.put, List.setIfInBounds_toArray, List.set_cons_zero, List.set_cons_succ])
        (refine take_on 19 (some 43) (v := ?_) rfl rfl (by kernel_rfl) (by kernel_rfl) (by kernel_rfl) (fun _ _ _ h => h) (by rfl) (by assumption) ?_ ?_; rotate_left; · (intro w hSw; go_simp; (try with_reducible rfl)))
        (try simp only [Act.put, List.setIfInBounds_toArray, List.set_cons_zero, List.set_cons_succ])
        (refine take_on 20 (some 44) (v := ?_) rfl rfl (by kernel_rfl) (by kernel_rfl) (by kernel_rfl) (fun _ _ _ h => h) (by rfl) (by assumption) ?_ ?_; rotate_left; · (intro w hSw; go_simp; (try with_reducible rfl)))
        (try simp only [Act.put, List.setIfInBounds_toArray, List.set_cons_zero, List.set_cons_succ])
        (refine take_on 21 (some 45) (v := ?_) rfl rfl (by kernel_rfl) (by kernel_rfl) (by kernel_rfl) (fun _ _ _ h => h) (by rfl) (by assumption) ?_ ?_; rotate_left; · (intro w hSw; go_simp; (try with_reducible rfl)))
        (try simp only [Act.put, List.setIfInBounds_toArray, List.set_cons_zero, List.set_cons_succ])
        (refine take_on 22 (some 46) (v := ?_) rfl rfl (by kernel_rfl) (by kernel_rfl) (by kernel_rfl) (fun _ _ _ h => h) (by rfl) (by assumption) ?_ ?_; rotate_left; · (intro w hSw; go_simp; (try with_reducible rfl)))
        (try simp only [Act.put, List.setIfInBounds_toArray, List.set_cons_zero, List.set_cons_succ])
        (refine take_on 23 (some 47) (v := ?_) rfl rfl (by kernel_rfl) (by kernel_rfl) (by kernel_rfl) (fun _ _ _ h => h) (by rfl) (by assumption) ?_ ?_; rotate_left; · (intro w hSw; go_simp; (try with_reducible rfl)))
        (try simp only [Act.put, List.setIfInBounds_toArray, List.set_cons_zero, List.set_cons_succ])
        (refine take_on 24 (some 48) (v := ?_) rfl rfl (by kernel_rfl) (by kernel_rfl) (by kernel_rfl) (fun _ _ _ h => h) (by rfl) (by assumption) ?_ ?_; rotate_left; · (intro w hSw; go_simp; (try with_reducible rfl)))
        (try simp only [Act.put, List.setIfInBounds_toArray, List.set_cons_zero, List.set_cons_succ])
        (refine take_on 25 (some 49) (v := ?_) rfl rfl (by kernel_rfl) (by kernel_rfl) (by kernel_rfl) (fun _ _ _ h => h) (by rfl) (by assumption) ?_ ?_; rotate_left; · (intro w hSw; (try dsimp only at hSw); have b_ := b5.chg_ hSw (by simp); obtain ⟨d0, d1, d2, d3, d4, d5, d6⟩ := cfc7 b_; go_simp; (try with_reducible rfl)))
        (try simp only [Act.put, List.setIfInBounds_toArray, List.set_cons_zero, List.set_cons_succ])
        refine wpAnyH_ready (rs := [26]) (by kernel_rfl) (by simp) ?_; refine AllReadyH.cons (o := _) rfl (fun K hK => ?_) AllReadyH.nil
        go_simp
        (go_at_call 10; refine (CRight_lit h L f 0 t a r A n k true _ (hsl.chg hHeld) hw2 hr2).mono ?_; rintro e u3 ⟨rfl, y3⟩)
        refine hK.out _ _ (by (try dsimp only); exact hHeld.trans y3 (by simp)) (fun hHeld => ?_)
        clear hK K
        (try simp only [Act.put, List.setIfInBounds_toArray, List.set_cons_zero, List.set_cons_succ])
        (refine take_on 27 (some 51) (v := ?_) rfl rfl (by kernel_rfl) (by kernel_rfl) (by kernel_rfl) (fun _ _ _ h => h) (by rfl) (by assumption) ?_ ?_; rotate_left; · (intro w hSw; go_simp; (try with_reducible rfl)))
        (try simp only [Act.put, List.setIfInBounds_toArray, List.set_cons_zero, List.set_cons_succ])
        (refine take_on 28 (some 52) (v := ?_) rfl rfl (by kernel_rfl) (by kernel_rfl) (by kernel_rfl) (fun _ _ _ h => h) (by rfl) (by assumption) ?_ ?_; rotate_left; · (intro w hSw; go_simp; (try with_reducible rfl)))
        (try simp only [Act.put, List.setIfInBounds_toArray, List.set_cons_zero, List.set_cons_succ])
        (refine take_on 29 (some 53) (v := ?_) rfl rfl (by kernel_rfl) (by kernel_rfl) (by kernel_rfl) (fun _ _ _ h => h) (by rfl) (by assumption) ?_ ?_; rotate_left; · (intro w hSw; (try dsimp only at hSw); have b_ := b5.chg_ hSw (by simp); obtain ⟨d0, d1, d2, d3, d4, d5, d6⟩ := cfc7 b_; go_simp; (try with_reducible rfl)))
        (try simp only [Act.put, List.setIfInBounds_toArray, List.set_cons_zero, List.set_cons_succ])
        (refine take_on 32 (some 56) (v := ?_) rfl rfl (by kernel_rfl) (by kernel_rfl) (by kernel_rfl) (fun _ _ _ h => h) (by rfl) (by assumption) ?_ ?_; rotate_left; · (intro w hSw; (try dsimp only at hSw); have b_ := b1.chg_ hSw (by simp); obtain ⟨d0, d1, d2, d3, d4, d5, d6⟩ := cfc7 b_; go_simp; (try with_reducible rfl)))
        (try simp only [Act.put, List.setIfInBounds_toArray, List.set_cons_zero, List.set_cons_succ])
        (refine take_on 35 (some 59) (v := ?_) rfl rfl (by kernel_rfl) (by kernel_rfl) (by kernel_rfl) (fun _ _ _ h => h) (by rfl) (by assumption) ?_ ?_; rotate_left; · (intro w hSw; go_simp; (try with_reducible rfl)))
        (try simp only [Act.put, List.setIfInBounds_toArray, List.set_cons_zero, List.set_cons_succ])
        (refine take_on 36 (some 60) (v := ?_) rfl rfl (by kernel_rfl) (by kernel_rfl) (by kernel_rfl) (fun _ _ _ h => h) (by rfl) (by assumption) ?_ ?_; rotate_left; · (intro w hSw; (try dsimp only at hSw); have b_ := b1.chg_ hSw (by simp); obtain ⟨d0, d1, d2, d3, d4, d5, d6⟩ := cfc7 b_; go_simp; (try with_reducible rfl)))
        (try simp only [Act.put, List.setIfInBounds_toArray, List.set_cons_zero, List.set_cons_succ])
        refine wpAnyH_ready (rs := [30]) (by kernel_rfl) (by simp) ?_; refine AllReadyH.cons (o := _) rfl (fun K hK => ?_) AllReadyH.nil
        go_simp
        (go_at_call 15; refine (FB _ (hsl.chg hHeld)).mono ?_; rintro e u4 ⟨B4, m4, rfl, y4⟩)
        refine hK.out _ _ (by (try dsimp only); exact hHeld.trans y4 (by simp)) (fun hHeld => ?_)
        clear hK K
        (try simp only [Act.put, List.setIfInBounds_toArray, List.set_cons_zero, List.set_cons_succ])
        (refine take_on 31 (some 55) (v := ?_) rfl rfl (by kernel_rfl) (by kernel_rfl) (by kernel_rfl) (fun _ _ _ h => h) (by rfl) (by assumption) ?_ ?_; rotate_left; · (intro w hSw; go_simp; (try with_reducible rfl)))
        (try simp only [Act.put, List.setIfInBounds_toArray, List.set_cons_zero, List.set_cons_succ])
        refine wpAnyH_ready (rs := [33]) (by kernel_rfl) (by simp) ?_; refine AllReadyH.cons (o := _) rfl (fun K hK => ?_) AllReadyH.nil
        go_simp
        (go_at_call 15; refine (FC _ (hsl.chg hHeld)).mono ?_; rintro e u5 ⟨B5, m5, rfl, y5⟩)
        refine hK.out _ _ (by (try dsimp only); exact hHeld.trans y5 (by simp)) (fun hHeld => ?_)
        clear hK K
        (try simp only [Act.put, List.setIfInBounds_toArray, List.set_cons_zero, List.set_cons_succ])
        (refine take_on 34 (some 58) (v := ?_) rfl rfl (by kernel_rfl) (by kernel_rfl) (by kernel_rfl) (fun _ _ _ h => h) (by rfl) (by assumption) ?_ ?_; rotate_left; · (intro w hSw; go_simp; (try with_reducible rfl)))
        (try simp only [Act.put, List.setIfInBounds_toArray, List.set_cons_zero, List.set_cons_succ])
        (refine take_on 37 (some 61) (v := ?_) rfl rfl (by kernel_rfl) (by kernel_rfl) (by kernel_rfl) (fun _ _ _ h => h) (by rfl) (by assumption) ?_ ?_; rotate_left; · (intro w hSw; go_simp; (try with_reducible rfl)))
        (try simp only [Act.put, List.setIfInBounds_toArray, List.set_cons_zero, List.set_cons_succ])
        (refine take_on 38 (some 62) (v := ?_) rfl rfl (by kernel_rfl) (by kernel_rfl) (by kernel_rfl) (fun _ _ _ h => h) (by rfl) (by assumption) ?_ ?_; rotate_left; · (intro w hSw; go_simp; (try with_reducible rfl)))
        (try simp only [Act.put, List.setIfInBounds_toArray, List.set_cons_zero, List.set_cons_succ])
        (refine take_on 39 (some 63) (v := ?_) rfl rfl (by kernel_rfl) (by kernel_rfl) (by kernel_rfl) (fun _ _ _ h => h) (by rfl) (by assumption) ?_ ?_; rotate_left; · (intro w hSw; go_simp; (try with_reducible rfl)))
        (try simp only [Act.put, List.setIfInBounds_toArray, List.set_cons_zero, List.set_cons_succ])
        (refine take_on 40 (some 2) (v := ?_) rfl rfl (by kernel_rfl) (by kernel_rfl) (by kernel_rfl) (fun _ _ _ h => h) (by rfl) (by assumption) ?_ ?_; rotate_left; · (intro w hSw; go_simp; (try with_reducible rfl)))
        (try simp only [Act.put, List.setIfInBounds_toArray, List.set_cons_zero, List.set_cons_succ])
        refine wpAnyH_done (by kernel_rfl) ?_ _
        refine NoPanic.normal ?_
        go_wp2_with fail
        go_ret
        exact ⟨rfl, hc.trans hHeld (by simp)⟩
      · have hr1 : Cf.right ⟨h + 1, L, f, m, t, a, r⟩ = false := Cf.right_no fun hh => h256 ((Cf.more_ok hok).1 hh)
        have hd1 : decide (h < 256) = false := by simpa using h256
        have hd2 : (h == 256) = true := by simp; omega
        clear hx e2 hxl hok ok1 ok2 ok3 ok4 h256 hlen hle
        go_enter Try.func6, Try.ntmps6
        go_wp2_with fail
        have b1 := Blk.new w 24 #[.int .i64 h, .slice A n k, .int .i64 f, .int .i64 m, .int .i64 t, .int .i64 a, .int .i64 r]
        refine (Chead_any _).mono ?_; rintro e w1 ⟨rfl, k1⟩
        replace b1 := b1.chg_ k1 (by simp)
        have hc : Chg [] w w1 := ((Chg.refl [] w).alloc _).trans k1 (by simp)
        replace hsl := hsl.chg hc
        clear k1
        obtain ⟨c0, c1, c2, c3, c4, c5, c6⟩ := cfc7 b1
        go_wp2_with fail
        refine (CRight_lit h L f m t a r A n k true _ hsl hwf hR).mono ?_; rintro e w2 ⟨rfl, k2⟩
        replace b1 := b1.chg_ k2 (by simp)
        replace hc := hc.trans k2 (by simp)
        replace hsl := hsl.chg k2
        clear k2 c0 c1 c2 c3 c4 c5 c6
        obtain ⟨c0, c1, c2, c3, c4, c5, c6⟩ := cfc7 b1
        have bm0 := b1.alloc (.cells #[.int .i64 h, .slice A n k, .int .i64 f, .int .i64 m, .int .i64 t, .int .i64 a, .int .i64 r] 24)
        obtain ⟨e0_0, e0_1, e0_2, e0_3, e0_4, e0_5, e0_6⟩ := cfc7 bm0
        have bn0 := (b1).alloc (.cells #[.int .i64 (h + 1), .slice A n k, .int .i64 f, .int .i64 m, .int .i64 t, .int .i64 a, .int .i64 r] 24)
        obtain ⟨g0_0, g0_1, g0_2, g0_3, g0_4, g0_5, g0_6⟩ := cfc7 bn0
        go_wp2_with fail
        have hcn : Chg [] w2 ((w2.alloc (.cells #[.int .i64 (h + 1), .slice A n k, .int .i64 f, .int .i64 m, .int .i64 t, .int .i64 a, .int .i64 r] 24)).alloc (.cells #[.int .i64 h, .slice A n k, .int .i64 f, .int .i64 0, .int .i64 t, .int .i64 a, .int .i64 r] 24)) := (((Chg.refl [] w2).alloc _).alloc _)
        have b4 : Blk ((w2.alloc (.cells #[.int .i64 (h + 1), .slice A n k, .int .i64 f, .int .i64 m, .int .i64 t, .int .i64 a, .int .i64 r] 24)).alloc (.cells #[.int .i64 h, .slice A n k, .int .i64 f, .int .i64 0, .int .i64 t, .int .i64 a, .int .i64 r] 24)) (w2.heap.size) 24 #[.int .i64 (h + 1), .slice A n k, .int .i64 f, .int .i64 m, .int .i64 t, .int .i64 a, .int .i64 r] := by have := (Blk.new w2 24 #[.int .i64 (h + 1), .slice A n k, .int .i64 f, .int .i64 m, .int .i64 t, .int .i64 a, .int .i64 r]).alloc (.cells #[.int .i64 h, .slice A n k, .int .i64 f, .int .i64 0, .int .i64 t, .int .i64 a, .int .i64 r] 24); simpa using this
        have b5 : Blk ((w2.alloc (.cells #[.int .i64 (h + 1), .slice A n k, .int .i64 f, .int .i64 m, .int .i64 t, .int .i64 a, .int .i64 r] 24)).alloc (.cells #[.int .i64 h, .slice A n k, .int .i64 f, .int .i64 0, .int .i64 t, .int .i64 a, .int .i64 r] 24)) (w2.heap.size + 1) 24 #[.int .i64 h, .slice A n k, .int .i64 f, .int .i64 0, .int .i64 t, .int .i64 a, .int .i64 r] := by have := Blk.new (w2.alloc (.cells #[.int .i64 (h + 1), .slice A n k, .int .i64 f, .int .i64 m, .int .i64 t, .int .i64 a, .int .i64 r] 24)) 24 #[.int .i64 h, .slice A n k, .int .i64 f, .int .i64 0, .int .i64 t, .int .i64 a, .int .i64 r]; simpa using this
        replace b1 := b1.chg_ hcn (by simp)
        replace hc := hc.trans hcn (by simp)
        replace hsl := hsl.chg hcn
        generalize ((w2.alloc (.cells #[.int .i64 (h + 1), .slice A n k, .int .i64 f, .int .i64 m, .int .i64 t, .int .i64 a, .int .i64 r] 24)).alloc (.cells #[.int .i64 h, .slice A n k, .int .i64 f, .int .i64 0, .int .i64 t, .int .i64 a, .int .i64 r] 24)) = w3 at *
        clear hcn
        clear c0 c1 c2 c3 c4 c5 c6
        clear e0_0 e0_1 e0_2 e0_3 e0_4 e0_5 e0_6 g0_0 g0_1 g0_2 g0_3 g0_4 g0_5 g0_6
        refine wp_region_noPanic ?_
        refine wp_region_held_drew (S := (fun w' => Chg [] w3 w')) (by kernel_rfl) ?_ (fun hHeld => ?_)
        · exact (Chg.refl [] w3).drew
        (refine take_on 0 (some 24) (v := ?_) rfl rfl (by kernel_rfl) (by kernel_rfl) (by kernel_rfl) (fun _ _ _ h => h) (by rfl) (by assumption) ?_ ?_; rotate_left; · (intro w hSw; go_simp; (try with_reducible rfl)))
        (try simp only [Act.put, List.setIfInBounds_toArray, List.set_cons_zero, List.set_cons_succ])
        (refine take_on 1 (some 25) (v := ?_) rfl rfl (by kernel_rfl) (by kernel_rfl) (by kernel_rfl) (fun _ _ _ h => h) (by rfl) (by assumption) ?_ ?_; rotate_left; · (intro w hSw; go_simp; (try with_reducible rfl)))
        (try simp only [Act.put, List.setIfInBounds_toArray, List.set_cons_zero, List.set_cons_succ])
        (refine take_on 2 (some 26) (v := ?_) rfl rfl (by kernel_rfl) (by kernel_rfl) (by kernel_rfl) (fun _ _ _ h => h) (by rfl) (by assumption) ?_ ?_; rotate_left; · (intro w hSw; (try dsimp only at hSw); have b_ := b4.chg_ hSw (by simp); obtain ⟨d0, d1, d2, d3, d4, d5, d6⟩ := cfc7 b_; go_simp; (try with_reducible rfl)))
        (try simp only [Act.put, List.setIfInBounds_toArray, List.set_cons_zero, List.set_cons_succ])
        (refine take_on 4 (some 28) (v := ?_) rfl rfl (by kernel_rfl) (by kernel_rfl) (by kernel_rfl) (fun _ _ _ h => h) (by rfl) (by assumption) ?_ ?_; rotate_left; · (intro w hSw; go_simp; (try with_reducible rfl)))
        (try simp only [Act.put, List.setIfInBounds_toArray, List.set_cons_zero, List.set_cons_succ])
        (refine take_on 5 (some 29) (v := ?_) rfl rfl (by kernel_rfl) (by kernel_rfl) (by kernel_rfl) (fun _ _ _ h => h) (by rfl) (by assumption) ?_ ?_; rotate_left; · (intro w hSw; (try dsimp only at hSw); have b_ := b1.chg_ hSw (by simp); obtain ⟨d0, d1, d2, d3, d4, d5, d6⟩ := cfc7 b_; go_simp; (try with_reducible rfl)))
        (try simp only [Act.put, List.setIfInBounds_toArray, List.set_cons_zero, List.set_cons_succ])
        (refine take_on 6 (some 30) (v := ?_) rfl rfl (by kernel_rfl) (by kernel_rfl) (by kernel_rfl) (fun _ _ _ h => h) (by rfl) (by assumption) ?_ ?_; rotate_left; · (intro w hSw; go_simp; (try with_reducible rfl)))
        (try simp only [Act.put, List.setIfInBounds_toArray, List.set_cons_zero, List.set_cons_succ])
        refine wpAnyH_ready (rs := [3]) (by kernel_rfl) (by simp) ?_; refine AllReadyH.cons (o := _) rfl (fun K hK => ?_) AllReadyH.nil
        go_simp
        (go_at_call 10; refine (CRight_lit (h + 1) L f m t a r A n k false _ (hsl.chg hHeld) hw1 hr1).mono ?_; rintro e u0 ⟨rfl, y0⟩)
        refine hK.out _ _ (by (try dsimp only); exact hHeld.trans y0 (by simp)) (fun hHeld => ?_)
        clear hK K
        (try simp only [Act.put, List.setIfInBounds_toArray, List.set_cons_zero, List.set_cons_succ])
        (refine take_on 7 (some 31) (v := ?_) rfl rfl (by kernel_rfl) (by kernel_rfl) (by kernel_rfl) (fun _ _ _ h => h) (by rfl) (by assumption) ?_ ?_; rotate_left; · (intro w hSw; go_simp; (try with_reducible rfl)))
        (try simp only [Act.put, List.setIfInBounds_toArray, List.set_cons_zero, List.set_cons_succ])
        (refine take_on 8 (some 32) (v := ?_) rfl rfl (by kernel_rfl) (by kernel_rfl) (by kernel_rfl) (fun _ _ _ h => h) (by rfl) (by assumption) ?_ ?_; rotate_left; · (intro w hSw; go_simp; (try with_reducible rfl)))
        (try simp only [Act.put, List.setIfInBounds_toArray, List.set_cons_zero, List.set_cons_succ])
        (refine take_on 9 (some 33) (v := ?_) rfl rfl (by kernel_rfl) (by kernel_rfl) (by kernel_rfl) (fun _ _ _ h => h) (by rfl) (by assumption) ?_ ?_; rotate_left; · (intro w hSw; go_simp; (try with_reducible rfl)))
        (try simp only [Act.put, List.setIfInBounds_toArray, List.set_cons_zero, List.set_cons_succ])
        (refine take_on 10 (some 34) (v := ?_) rfl rfl (by kernel_rfl) (by kernel_rfl) (by kernel_rfl) (fun _ _ _ h => h) (by rfl) (by assumption) ?_ ?_; rotate_left; · (intro w hSw; go_simp; (try with_reducible rfl)))
        (try simp only [Act.put, List.setIfInBounds_toArray, List.set_cons_zero, List.set_cons_succ])
        (refine take_on 11 (some 35) (v := ?_) rfl rfl (by kernel_rfl) (by kernel_rfl) (by kernel_rfl) (fun _ _ _ h => h) (by rfl) (by assumption) ?_ ?_; rotate_left; · (intro w hSw; (try dsimp only at hSw); have b_ := b1.chg_ hSw (by simp); obtain ⟨d0, d1, d2, d3, d4, d5, d6⟩ := cfc7 b_; go_simp; (try with_reducible rfl)))
        (try simp only [Act.put, List.setIfInBounds_toArray, List.set_cons_zero, List.set_cons_succ])
        (refine take_on 12 (some 36) (v := ?_) rfl rfl (by kernel_rfl) (by kernel_rfl) (by kernel_rfl) (fun _ _ _ h => h) (by rfl) (by assumption) ?_ ?_; rotate_left; · (intro w hSw; go_simp; (try with_reducible rfl)))
        (try simp only [Act.put, List.setIfInBounds_toArray, List.set_cons_zero, List.set_cons_succ])
        (refine take_on 13 (some 37) (v := ?_) rfl rfl (by kernel_rfl) (by kernel_rfl) (by kernel_rfl) (fun _ _ _ h => h) (by rfl) (by assumption) ?_ ?_; rotate_left; · (intro w hSw; go_simp; (try with_reducible rfl)))
        (try simp only [Act.put, List.setIfInBounds_toArray, List.set_cons_zero, List.set_cons_succ])
        (refine take_off 14 (some 38) rfl rfl (by kernel_rfl) (by kernel_rfl) (by kernel_rfl) (fun _ _ _ h => h) (by rfl) (by assumption) ?_)
        (try simp only [Act.put, List.setIfInBounds_toArray, List.set_cons_zero, List.set_cons_succ])
        (refine take_off 15 (some 39) rfl rfl (by kernel_rfl) (by kernel_rfl) (by kernel_rfl) (fun _ _ _ h => h) (by rfl) (by assumption) ?_)
        (try simp only [Act.put, List.setIfInBounds_toArray, List.set_cons_zero, List.set_cons_succ])
        (refine take_off 16 (some 40) rfl rfl (by kernel_rfl) (by kernel_rfl) (by kernel_rfl) (fun _ _ _ h => h) (by rfl) (by assumption) ?_)
        (try simp only [Act.put, List.setIfInBounds_toArray, List.set_cons_zero, List.set_cons_succ])
        (refine take_off 17 (some 41) rfl rfl (by kernel_rfl) (by kernel_rfl) (by kernel_rfl) (fun _ _ _ h => h) (by rfl) (by assumption) ?_)
        (try simp only [Act.put, List.setIfInBounds_toArray, List.set_cons_zero, List.set_cons_succ])
        (refine take_off 18 (some 42) rfl rfl (by kernel_rfl) (by kernel_rfl) (by kernel_rfl) (fun _ _ _ h => h) (by rfl) (by assumption) ?_)
        (try simp only [Act.put, List.setIfInBounds_toArray, List.set_cons_zero, List.set_cons_succ])
        (refine take_off 19 (some 43) rfl rfl (by kernel_rfl) (by kernel_rfl) (by kernel_rfl) (fun _ _ _ h => h) (by rfl) (by assumption) ?_)
        (try simp only [Act.put, List.setIfInBounds_toArray, List.set_cons_zero, List.set_cons_succ])
        (refine take_off 20 (some 44) rfl rfl (by kernel_rfl) (by kernel_rfl) (by kernel_rfl) (fun _ _ _ h => h) (by rfl) (by assumption) ?_)
        (try simp only [Act.put, List.setIfInBounds_toArray, List.set_cons_zero, List.set_cons_succ])
        (refine take_off 21 (some 45) rfl rfl (by kernel_rfl) (by kernel_rfl) (by kernel_rfl) (fun _ _ _ h => h) (by rfl) (by assumption) ?_)
        (try simp only [Act.put, List.setIfInBounds_toArray, List.set_cons_zero, List.set_cons_succ])
        (refine take_on 22 (some 46) (v := ?_) rfl rfl (by kernel_rfl) (by kernel_rfl) (by kernel_rfl) (fun _ _ _ h => h) (by rfl) (by assumption) ?_ ?_; rotate_left; · (intro w hSw; go_simp; (try with_reducible rfl)))
        (try simp only [Act.put, List.setIfInBounds_toArray, List.set_cons_zero, List.set_cons_succ])
        (refine take_on 23 (some 47) (v := ?_) rfl rfl (by kernel_rfl) (by kernel_rfl) (by kernel_rfl) (fun _ _ _ h => h) (by rfl) (by assumption) ?_ ?_; rotate_left; · (intro w hSw; go_simp; (try with_reducible rfl)))
        (try simp only [Act.put, List.setIfInBounds_toArray, List.set_cons_zero, List.set_cons_succ])
        (refine take_on 24 (some 48) (v := ?_) rfl rfl (by kernel_rfl) (by kernel_rfl) (by kernel_rfl) (fun _ _ _ h => h) (by rfl) (by assumption) ?_ ?_; rotate_left; · (intro w hSw; go_simp; (try with_reducible rfl)))
        (try simp only [Act.put, List.setIfInBounds_toArray, List.set_cons_zero, List.set_cons_succ])
        (refine take_on 25 (some 49) (v := ?_) rfl rfl (by kernel_rfl) (by kernel_rfl) (by kernel_rfl) (fun _ _ _ h => h) (by rfl) (by assumption) ?_ ?_; rotate_left; · (intro w hSw; (try dsimp only at hSw); have b_ := b5.chg_ hSw (by simp); obtain ⟨d0, d1, d2, d3, d4, d5, d6⟩ := cfc7 b_; go_simp; (try with_reducible rfl)))
        (try simp only [Act.put, List.setIfInBounds_toArray, List.set_cons_zero, List.set_cons_succ])
        refine wpAnyH_ready (rs := [26]) (by kernel_rfl) (by simp) ?_; refine AllReadyH.cons (o := _) rfl (fun K hK => ?_) AllReadyH.nil
        go_simp
        (go_at_call 10; refine (CRight_lit h L f 0 t a r A n k true _ (hsl.chg hHeld) hw2 hr2).mono ?_; rintro e u1 ⟨rfl, y1⟩)
        refine hK.out _ _ (by (try dsimp only); exact hHeld.trans y1 (by simp)) (fun hHeld => ?_)
        clear hK K
        (try simp only [Act.put, List.setIfInBounds_toArray, List.set_cons_zero, List.set_cons_succ])
        (refine take_on 27 (some 51) (v := ?_) rfl rfl (by kernel_rfl) (by kernel_rfl) (by kernel_rfl) (fun _ _ _ h => h) (by rfl) (by assumption) ?_ ?_; rotate_left; · (intro w hSw; go_simp; (try with_reducible rfl)))
        (try simp only [Act.put, List.setIfInBounds_toArray, List.set_cons_zero, List.set_cons_succ])
        (refine take_on 28 (some 52) (v := ?_) rfl rfl (by kernel_rfl) (by kernel_rfl) (by kernel_rfl) (fun _ _ _ h => h) (by rfl) (by assumption) ?_ ?_; rotate_left; · (intro w hSw; go_simp; (try with_reducible rfl)))
        (try simp only [Act.put, List.setIfInBounds_toArray, List.set_cons_zero, List.set_cons_succ])
        (refine take_on 29 (some 53) (v := ?_) rfl rfl (by kernel_rfl) (by kernel_rfl) (by kernel_rfl) (fun _ _ _ h => h) (by rfl) (by assumption) ?_ ?_; rotate_left; · (intro w hSw; (try dsimp only at hSw); have b_ := b5.chg_ hSw (by simp); obtain ⟨d0, d1, d2, d3, d4, d5, d6⟩ := cfc7 b_; go_simp; (try with_reducible rfl)))
        (try simp only [Act.put, List.setIfInBounds_toArray, List.set_cons_zero, List.set_cons_succ])
        (refine take_on 32 (some 56) (v := ?_) rfl rfl (by kernel_rfl) (by kernel_rfl) (by kernel_rfl) (fun _ _ _ h => h) (by rfl) (by assumption) ?_ ?_; rotate_left; · (intro w hSw; (try dsimp only at hSw); have b_ := b1.chg_ hSw (by simp); obtain ⟨d0, d1, d2, d3, d4, d5, d6⟩ := cfc7 b_; go_simp; (try with_reducible rfl)))
        (try simp only [Act.put, List.setIfInBounds_toArray, List.set_cons_zero, List.set_cons_succ])
        (refine take_on 35 (some 59) (v := ?_) rfl rfl (by kernel_rfl) (by kernel_rfl) (by kernel_rfl) (fun _ _ _ h => h) (by rfl) (by assumption) ?_ ?_; rotate_left; · (intro w hSw; go_simp; (try with_reducible rfl)))
        (try simp only [Act.put, List.setIfInBounds_toArray, List.set_cons_zero, List.set_cons_succ])
        (refine take_on 36 (some 60) (v := ?_) rfl rfl (by kernel_rfl) (by kernel_rfl) (by kernel_rfl) (fun _ _ _ h => h) (by rfl) (by assumption) ?_ ?_; rotate_left; · (intro w hSw; (try dsimp only at hSw); have b_ := b1.chg_ hSw (by simp); obtain ⟨d0, d1, d2, d3, d4, d5, d6⟩ := cfc7 b_; go_simp; (try with_reducible rfl)))
        (try simp only [Act.put, List.setIfInBounds_toArray, List.set_cons_zero, List.set_cons_succ])
        refine wpAnyH_ready (rs := [30]) (by kernel_rfl) (by simp) ?_; refine AllReadyH.cons (o := _) rfl (fun K hK => ?_) AllReadyH.nil
        go_simp
        (go_at_call 15; refine (FB _ (hsl.chg hHeld)).mono ?_; rintro e u2 ⟨B2, m2, rfl, y2⟩)
        refine hK.out _ _ (by (try dsimp only); exact hHeld.trans y2 (by simp)) (fun hHeld => ?_)
        clear hK K
        (try simp only [Act.put, List.setIfInBounds_toArray, List.set_cons_zero, List.set_cons_succ])
        (refine take_on 31 (some 55) (v := ?_) rfl rfl (by kernel_rfl) (by kernel_rfl) (by kernel_rfl) (fun _ _ _ h => h) (by rfl) (by assumption) ?_ ?_; rotate_left; · (intro w hSw; go_simp; (try with_reducible rfl)))
        (try simp only [Act.put, List.setIfInBounds_toArray, List.set_cons_zero, List.set_cons_succ])
        refine wpAnyH_ready (rs := [33]) (by kernel_rfl) (by simp) ?_; refine AllReadyH.cons (o := _) rfl (fun K hK => ?_) AllReadyH.nil
        go_simp
        (go_at_call 15; refine (FC _ (hsl.chg hHeld)).mono ?_; rintro e u3 ⟨B3, m3, rfl, y3⟩)
        refine hK.out _ _ (by (try dsimp only); exact hHeld.trans y3 (by simp)) (fun hHeld => ?_)
        clear hK K
        (try simp only [Act.put, List.setIfInBounds_toArray, List.set_cons_zero, List.set_cons_succ])
        (refine take_on 34 (some 58) (v := ?_) rfl rfl (by kernel_rfl) (by kernel_rfl) (by kernel_rfl) (fun _ _ _ h => h) (by rfl) (by assumption) ?_ ?_; rotate_left; · (intro w hSw; go_simp; (try with_reducible rfl)))
        (try simp only [Act.put, List.setIfInBounds_toArray, List.set_cons_zero, List.set_cons_succ])
        (refine take_on 37 (some 61) (v := ?_) rfl rfl (by kernel_rfl) (by kernel_rfl) (by kernel_rfl) (fun _ _ _ h => h) (by rfl) (by assumption) ?_ ?_; rotate_left; · (intro w hSw; go_simp; (try with_reducible rfl)))
        (try simp only [Act.put, List.setIfInBounds_toArray, List.set_cons_zero, List.set_cons_succ])
        (refine take_on 38 (some 62) (v := ?_) rfl rfl (by kernel_rfl) (by kernel_rfl) (by kernel_rfl) (fun _ _ _ h => h) (by rfl) (by assumption) ?_ ?_; rotate_left; · (intro w hSw; go_simp; (try with_reducible rfl)))
        (try simp only [Act.put, List.setIfInBounds_toArray, List.set_cons_zero, List.set_cons_succ])
        (refine take_on 39 (some 63) (v := ?_) rfl rfl (by kernel_rfl) (by kernel_rfl) (by kernel_rfl) (fun _ _ _ h => h) (by rfl) (by assumption) ?_ ?_; rotate_left; · (intro w hSw; go_simp; (try with_reducible rfl)))
        (try simp only [Act.put, List.setIfInBounds_toArray, List.set_cons_zero, List.set_cons_succ])
        (refine take_on 40 (some 2) (v := ?_) rfl rfl (by kernel_rfl) (by kernel_rfl) (by kernel_rfl) (fun _ _ _ h => h) (by rfl) (by assumption) ?_ ?_; rotate_left; · (intro w hSw; go_simp; (try with_reducible rfl)))
        (try simp only [Act.put, List.setIfInBounds_toArray, List.set_cons_zero, List.set_cons_succ])
        refine wpAnyH_done (by kernel_rfl) ?_ _
        refine NoPanic.normal ?_
        go_wp2_with fail
        go_ret
        exact ⟨rfl, hc.trans hHeld (by simp)⟩

end Go.Proofs.Ytkggkdjhecagnaa
