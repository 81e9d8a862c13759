/-
  ConfMap: the law, walked from contracts.
-/
import Derived.Test.YtkggkdjhecagnaaConfHead
namespace Go.Proofs.Ytkggkdjhecagnaa
open Go.RowKit Go.Maps

theorem hown_ {w : World} {t : TypeId} {v : Value} {L : List Int} {i : Nat} (h : OwnI w t .i64 v L) (hl : L.length = i) : w.ownsRow 0 t 1 v i (vals .i64 L) := by subst hl; exact h

set_option maxRecDepth 100000 in
set_option maxHeartbeats 8000000 in
theorem ConfMap_walk (c : Cf) (A : Option Addr) (n k : Nat) (at_ : Int) (w : World) (hin : CfIn c A n w) (hb : 0 ≤ at_ ∧ at_ ≤ 255) :
    Calls Try.prog 7 #[.agg (c.cs A n k), .int .u8 at_] w fun e w' => e = .returned (.bool true) ∧ Chg [] w w' := by
  have hsl := hin.sl
  have hwf := hin.wf
  have hlen := hsl.len
  have hle := hsl.le
  obtain ⟨h, L, f, m, t, a, r⟩ := c
  unfold Cf.cs
  simp only at *
  by_cases hn : n = 0
  · subst hn
    have hnz : (((0 : Nat) : Int) == 0) = true := by simp
    go_enter Try.func7, Try.ntmps7
    go_wp2_with fail
    have b1 := Blk.new w 24 #[.int .i64 h, .slice A 0 k, .int .i64 f, .int .i64 m, .int .i64 t, .int .i64 a, .int .i64 r]
    refine (Chead_any _).mono ?_; rintro e w1 ⟨rfl, k1⟩
    replace b1 := b1.chg_ k1 (by simp)
    have hc : Chg [] w w1 := ((Chg.refl [] w).alloc _).trans k1 (by simp)
    replace hsl := hsl.chg hc
    clear k1
    obtain ⟨c0, c1, c2, c3, c4, c5, c6⟩ := cfc7 b1
    clear hlen hle
    go_wp2_with fail
    go_ret
    exact ⟨rfl, hc⟩
  have hn0 : ¬ n = 0 := hn
  have hnz : ((n : Int) == 0) = false := by simp; omega
  by_cases hn9 : 900 < n
  · have hng : decide ((n : Int) > 900) = true := by simp; omega
    go_enter Try.func7, Try.ntmps7
    go_wp2_with fail
    have b1 := Blk.new w 24 #[.int .i64 h, .slice A n k, .int .i64 f, .int .i64 m, .int .i64 t, .int .i64 a, .int .i64 r]
    refine (Chead_any _).mono ?_; rintro e w1 ⟨rfl, k1⟩
    replace b1 := b1.chg_ k1 (by simp)
    have hc : Chg [] w w1 := ((Chg.refl [] w).alloc _).trans k1 (by simp)
    replace hsl := hsl.chg hc
    clear k1
    obtain ⟨c0, c1, c2, c3, c4, c5, c6⟩ := cfc7 b1
    clear hlen hle
    go_wp2_with fail
    go_ret
    exact ⟨rfl, hc⟩
  · have hng : decide ((n : Int) > 900) = false := by simp; omega
    obtain ⟨q, rfl⟩ := Int.eq_ofNat_of_zero_le hb.1
    obtain ⟨hsr, hsi, hsf⟩ := Cf.map_same (c := ⟨h, L, f, m, t, a, r⟩) (L := turnL L q) (turnL_len L q) (turnL_mem L q) (turnL_nodup L q)
    simp only at hsr hsi hsf
    have hwT : Cf.Wf ⟨h, turnL L q, f, m, t, a, r⟩ := hd_wf _ ⟨hwf.1, hwf.2, hwf.3, hwf.4, hwf.5, hwf.6⟩
    have hiR := Cf.image_rng (c := ⟨h, L, f, m, t, a, r⟩)
    have hfR := Cf.foreign_rng (c := ⟨h, L, f, m, t, a, r⟩)
    have RC := fun w (hs : SlK .i64 w A n L) => CRight_is ⟨h, L, f, m, t, a, r⟩ A n k _ w ⟨hs, hwf⟩ rfl
    have RT := fun w B d (hs : SlK .i64 w B n (turnL L q)) => CRight_is ⟨h, turnL L q, f, m, t, a, r⟩ B n d _ w ⟨hs, hwT⟩ hsr
    have IC := fun w (hs : SlK .i64 w A n L) => CImage_at ⟨h, L, f, m, t, a, r⟩ A n k w ⟨hs, hwf⟩
    have IT := fun w B d (hs : SlK .i64 w B n (turnL L q)) => CImage_at ⟨h, turnL L q, f, m, t, a, r⟩ B n d w ⟨hs, hwT⟩
    have FC := fun w (hs : SlK .i64 w A n L) => CForeign_at ⟨h, L, f, m, t, a, r⟩ A n k w ⟨hs, hwf⟩
    have FT := fun w B d (hs : SlK .i64 w B n (turnL L q)) => CForeign_at ⟨h, turnL L q, f, m, t, a, r⟩ B n d w ⟨hs, hwT⟩
    rw [hsi] at IT
    rw [hsf] at FT
    generalize Cf.right ⟨h, L, f, m, t, a, r⟩ = R at *
    generalize Cf.image ⟨h, L, f, m, t, a, r⟩ = I1 at *
    generalize Cf.foreign ⟨h, L, f, m, t, a, r⟩ = I2 at *
    unfold Cf.cs at *
    simp only at *
    clear hsr hsi hsf
    have HT0 : Hid ((turnL L q).take 0 = []) := Lib.hid (by simp)
    have HTL : Hid ((turnL L q).length = n) := Lib.hid (by rw [turnL_len, hlen])
    have HTS : Hid (∀ i, i < n → (turnL L q).take (i + 1) = (turnL L q).take i ++ [L.getD ((n - 1 - i + q) % n) 0]) := Lib.hid fun i hi => by rw [take_snoc _ i (by rw [turnL_len]; omega), turnL_get L q (by omega), hlen]
    have HTW : Hid (∀ x ∈ turnL L q, IntKind.i64.min ≤ x ∧ x ≤ IntKind.i64.max) := Lib.hid fun x hx => hsl.wf x ((turnL_mem L q x).1 hx)
    have HIR := Lib.hid hiR
    have HFR := Lib.hid hfR
    clear hiR hfR hwT hwf
    generalize turnL L q = M at *
    have hcv : IntKind.i64.wrap (q : Int) = q := IntWalk.i64_in _ (by omega)
    have hf1 : IntKind.i64.wrap ((n : Int) - 1) = (n : Int) - 1 := IntWalk.i64_in _ (by omega)
    obtain ⟨i0, hi0, hz0, hz1, hz2⟩ := info_parts int_info
    go_enter Try.func7, Try.ntmps7
    go_wp2_with fail
    have b1 := Blk.new w 24 #[.int .i64 h, .slice A n k, .int .i64 f, .int .i64 m, .int .i64 t, .int .i64 a, .int .i64 r]
    refine (Chead_any _).mono ?_; rintro e w1 ⟨rfl, k1⟩
    replace b1 := b1.chg_ k1 (by simp)
    have hc : Chg [] w w1 := ((Chg.refl [] w).alloc _).trans k1 (by simp)
    replace hsl := hsl.chg hc
    clear k1
    obtain ⟨c0, c1, c2, c3, c4, c5, c6⟩ := cfc7 b1
    have hb1lt := b1.lt
    go_wp2_with fail
    have hcn : Chg [] w1 (w1.alloc (.cells #[.int .i64 h, .slice none 0 0, .int .i64 f, .int .i64 m, .int .i64 t, .int .i64 a, .int .i64 r] 24)) := (Chg.refl [] w1).alloc _
    have b6 : Blk (w1.alloc (.cells #[.int .i64 h, .slice none 0 0, .int .i64 f, .int .i64 m, .int .i64 t, .int .i64 a, .int .i64 r] 24)) w1.heap.size 24 #[.int .i64 h, .slice none 0 0, .int .i64 f, .int .i64 m, .int .i64 t, .int .i64 a, .int .i64 r] := Blk.new _ _ _
    replace b1 := b1.chg_ hcn (by simp)
    generalize hw3 : (w1.alloc (.cells #[.int .i64 h, .slice none 0 0, .int .i64 f, .int .i64 m, .int .i64 t, .int .i64 a, .int .i64 r] 24)) = w3 at *
    clear hw3
    clear c0 c1 c2 c3 c4 c5 c6
    obtain ⟨c0, c1, c2, c3, c4, c5, c6⟩ := cfc7 b1
    have hlt1 : w.heap.size < w1.heap.size := hb1lt
    go_loopw [7] (fun s7 wr => ∃ (i : Nat) (v : Value), i ≤ n ∧ s7 = .int .i64 i ∧ Chg [] w1 wr ∧ Blk wr w1.heap.size 24 #[.int .i64 h, v, .int .i64 f, .int .i64 m, .int .i64 t, .int .i64 a, .int .i64 r] ∧ Blk wr w.heap.size 24 #[.int .i64 h, .slice A n k, .int .i64 f, .int .i64 m, .int .i64 t, .int .i64 a, .int .i64 r] ∧ OwnI wr 3 .i64 v (M.take i) ∧ (∀ g ∈ v.ownBlock.toList, w1.heap.size ≤ g)) (fun s7 _ => n - (intOf s7).toNat)
    case atStart => exact ⟨0, .slice none 0 0, by omega, rfl, hcn, b6, b1, by rw [HT0.out]; exact OwnI.none_ _ _ _, by simp [Value.ownBlock]⟩
    case round =>
      obtain ⟨i, v, hi, rfl, y, bG, bC, ho, hg⟩ := hrel
      clear b1 b6 hcn c0 c1 c2 c3 c4 c5 c6
      obtain ⟨c0, c1, c2, c3, c4, c5, c6⟩ := cfc7 bC
      obtain ⟨Av, cv, rfl⟩ := ho.form
      have HN : Hid ((M.take i).length = i) := Lib.hid (by rw [List.length_take, HTL.out]; omega)
      rw [HN.out] at bG ho hg
      by_cases hlt : i < n
      · have hltz : (i : Int) < (n : Int) := by omega
        obtain ⟨j, hj⟩ : ∃ j, (n - 1 - i + q) % n = j := ⟨_, rfl⟩
        have hjn : j < n := hj ▸ Nat.mod_lt _ (by omega)
        have hjz : (j : Int) < (n : Int) := by omega
        have hf2 : IntKind.i64.wrap ((n : Int) - 1 - i) = (n : Int) - 1 - i := IntWalk.i64_in _ (by omega)
        have hf3 : IntKind.i64.wrap ((n : Int) - 1 - i + q) = (n : Int) - 1 - i + q := IntWalk.i64_in _ (by omega)
        have hf4 : ((n : Int) - 1 - i + q).tmod (n : Int) = (j : Int) := by rw [Int.tmod_eq_emod_of_nonneg (by omega), show (n : Int) - 1 - i + q = ((n - 1 - i + q : Nat) : Int) by omega, ← Int.natCast_emod, hj]
        have hf5 : IntKind.i64.wrap (j : Int) = j := IntWalk.i64_in _ (by omega)
        have hts := HTS.out i hlt
        rw [hj] at hts
        obtain ⟨sb, off, rfl, hsb, hx, _⟩ := hsl.get hjn
        replace hx := (y.cell (p := ⟨sb, off + j, none⟩) hsb (by simp)).trans hx
        generalize L.getD j 0 = z at *
        have HTT := Lib.hid hts
        clear hts hj
        go_wp2_with fail
        have hnl : ∀ x, x < w1.heap.size → x ∉ (w1.heap.size :: (Value.slice Av i cv).ownBlock.toList) := fun x hx hm => by rcases List.mem_cons.1 hm with e | e; omega; have := hg x e; omega
        have bGd := bG.drew
        obtain ⟨p0, p1, p2, p3, p4, p5, p6⟩ := cfc7 bGd
        have bGa := (bG.alloc (.cells #[.int .i64 z] 3)).drew
        obtain ⟨q0, q1, q2, q3, q4, q5, q6⟩ := cfc7 bGa
        have hoa := (ho.alloc (.cells #[.int .i64 z] 3)).chg (S := []) ((Chg.refl [] _).drew) (by simp)
        have hba := (Blk.new wr 3 #[.int .i64 z]).drew
        have hgn : w1.heap.size ∉ (Value.slice Av i cv).ownBlock.toList := fun hm => by obtain ⟨cur, hb5⟩ := OwnI.blk ho hm; exact Blk.type_ne hb5 bG (by decide) rfl
        refine wp_region_noPanic ?_
        refine wp_region_held_drew (S := (fun w' => Chg (w1.heap.size :: (Value.slice Av i cv).ownBlock.toList) wr w')) (by kernel_rfl) ?_ (fun hHeld => ?_)
        · exact (Chg.refl _ wr).drew
        (refine take_on 0 (some 29) (v := ?_) rfl rfl (by kernel_rfl) (by kernel_rfl) (by kernel_rfl) (fun _ _ _ h => h) (by rfl) (by assumption) ?_ ?_; rotate_left; · (intro w hSw; go_simp; (try with_reducible rfl)))
        (try simp only [Act.put, List.setIfInBounds_toArray, List.set_cons_zero, List.set_cons_succ])
        (refine take_on 2 (some 31) (v := ?_) rfl rfl (by kernel_rfl) (by kernel_rfl) (by kernel_rfl) (fun _ _ _ h => h) (by rfl) (by assumption) ?_ ?_; rotate_left; · (intro w hSw; go_simp; (try with_reducible rfl)))
        (try simp only [Act.put, List.setIfInBounds_toArray, List.set_cons_zero, List.set_cons_succ])
        (refine take_on 3 (some 32) (v := ?_) rfl rfl (by kernel_rfl) (by kernel_rfl) (by kernel_rfl) (fun _ _ _ h => h) (by rfl) (by assumption) ?_ ?_; rotate_left; · (intro w hSw; (try dsimp only at hSw); have b_ := bC.chg_ hSw (hnl _ hlt1); obtain ⟨d0, d1, d2, d3, d4, d5, d6⟩ := cfc7 b_; go_simp; (try with_reducible rfl)))
        (try simp only [Act.put, List.setIfInBounds_toArray, List.set_cons_zero, List.set_cons_succ])
        (refine take_on 4 (some 33) (v := ?_) rfl rfl (by kernel_rfl) (by kernel_rfl) (by kernel_rfl) (fun _ _ _ h => h) (by rfl) (by assumption) ?_ ?_; rotate_left; · (intro w hSw; go_simp; (try with_reducible rfl)))
        (try simp only [Act.put, List.setIfInBounds_toArray, List.set_cons_zero, List.set_cons_succ])
        (refine take_on 5 (some 34) (v := ?_) rfl rfl (by kernel_rfl) (by kernel_rfl) (by kernel_rfl) (fun _ _ _ h => h) (by rfl) (by assumption) ?_ ?_; rotate_left; · (intro w hSw; (try dsimp only at hSw); have b_ := bC.chg_ hSw (hnl _ hlt1); obtain ⟨d0, d1, d2, d3, d4, d5, d6⟩ := cfc7 b_; go_simp; (try with_reducible rfl)))
        (try simp only [Act.put, List.setIfInBounds_toArray, List.set_cons_zero, List.set_cons_succ])
        (refine take_on 6 (some 35) (v := ?_) rfl rfl (by kernel_rfl) (by kernel_rfl) (by kernel_rfl) (fun _ _ _ h => h) (by rfl) (by assumption) ?_ ?_; rotate_left; · (intro w hSw; go_simp; (try with_reducible rfl)))
        (try simp only [Act.put, List.setIfInBounds_toArray, List.set_cons_zero, List.set_cons_succ])
        (refine take_on 7 (some 36) (v := ?_) rfl rfl (by kernel_rfl) (by kernel_rfl) (by kernel_rfl) (fun _ _ _ h => h) (by rfl) (by assumption) ?_ ?_; rotate_left; · (intro w hSw; go_simp; (try with_reducible rfl)))
        (try simp only [Act.put, List.setIfInBounds_toArray, List.set_cons_zero, List.set_cons_succ])
        (refine take_on 8 (some 37) (v := ?_) rfl rfl (by kernel_rfl) (by kernel_rfl) (by kernel_rfl) (fun _ _ _ h => h) (by rfl) (by assumption) ?_ ?_; rotate_left; · (intro w hSw; go_simp; (try with_reducible rfl)))
        (try simp only [Act.put, List.setIfInBounds_toArray, List.set_cons_zero, List.set_cons_succ])
        (refine take_on 9 (some 38) (v := ?_) rfl rfl (by kernel_rfl) (by kernel_rfl) (by kernel_rfl) (fun _ _ _ h => h) (by rfl) (by assumption) ?_ ?_; rotate_left; · (intro w hSw; go_simp; (try with_reducible rfl)))
        (try simp only [Act.put, List.setIfInBounds_toArray, List.set_cons_zero, List.set_cons_succ])
        (refine take_on 10 (some 39) (v := ?_) rfl rfl (by kernel_rfl) (by kernel_rfl) (by kernel_rfl) (fun _ _ _ h => h) (by rfl) (by assumption) ?_ ?_; rotate_left; · (intro w hSw; go_simp; (try with_reducible rfl)))
        (try simp only [Act.put, List.setIfInBounds_toArray, List.set_cons_zero, List.set_cons_succ])
        (refine take_on 11 (some 40) (v := ?_) rfl rfl (by kernel_rfl) (by kernel_rfl) (by kernel_rfl) (fun _ _ _ h => h) (by rfl) (by assumption) ?_ ?_; rotate_left; · (intro w hSw; go_simp; (try with_reducible rfl)))
        (try simp only [Act.put, List.setIfInBounds_toArray, List.set_cons_zero, List.set_cons_succ])
        (refine take_on 12 (some 41) (v := ?_) rfl rfl (by kernel_rfl) (by kernel_rfl) (by kernel_rfl) (fun _ _ _ h => h) (by rfl) (by assumption) ?_ ?_; rotate_left; · (intro w hSw; go_simp; (try with_reducible rfl)))
        (try simp only [Act.put, List.setIfInBounds_toArray, List.set_cons_zero, List.set_cons_succ])
        (refine take_on 13 (some 42) (v := ?_) rfl rfl (by kernel_rfl) (by kernel_rfl) (by kernel_rfl) (fun _ _ _ h => h) (by rfl) (by assumption) ?_ ?_; rotate_left; · (intro w hSw; go_simp; (try with_reducible rfl)))
        (try simp only [Act.put, List.setIfInBounds_toArray, List.set_cons_zero, List.set_cons_succ])
        (refine take_on 14 (some 43) (v := ?_) rfl rfl (by kernel_rfl) (by kernel_rfl) (by kernel_rfl) (fun _ _ _ h => h) (by rfl) (by assumption) ?_ ?_; rotate_left; · (intro w hSw; (try dsimp only at hSw); have b_ := bC.chg_ hSw (hnl _ hlt1); obtain ⟨d0, d1, d2, d3, d4, d5, d6⟩ := cfc7 b_; go_simp; (try with_reducible rfl)))
        (try simp only [Act.put, List.setIfInBounds_toArray, List.set_cons_zero, List.set_cons_succ])
        (refine take_on 15 (some 44) (v := ?_) rfl rfl (by kernel_rfl) (by kernel_rfl) (by kernel_rfl) (fun _ _ _ h => h) (by rfl) (by assumption) ?_ ?_; rotate_left; · (intro w hSw; go_simp; (try with_reducible rfl)))
        (try simp only [Act.put, List.setIfInBounds_toArray, List.set_cons_zero, List.set_cons_succ])
        (refine take_on 16 (some 45) (v := ?_) rfl rfl (by kernel_rfl) (by kernel_rfl) (by kernel_rfl) (fun _ _ _ h => h) (by rfl) (by assumption) ?_ ?_; rotate_left; · (intro w hSw; go_simp; (try with_reducible rfl)))
        (try simp only [Act.put, List.setIfInBounds_toArray, List.set_cons_zero, List.set_cons_succ])
        (refine take_on 17 (some 46) (v := ?_) rfl rfl (by kernel_rfl) (by kernel_rfl) (by kernel_rfl) (fun _ _ _ h => h) (by rfl) (by assumption) ?_ ?_; rotate_left; · (intro w hSw; go_simp; (try with_reducible rfl)))
        (try simp only [Act.put, List.setIfInBounds_toArray, List.set_cons_zero, List.set_cons_succ])
        (refine take_on 18 (some 47) (v := ?_) rfl rfl (by kernel_rfl) (by kernel_rfl) (by kernel_rfl) (fun _ _ _ h => h) (by rfl) (by assumption) ?_ ?_; rotate_left; · (intro w hSw; (try dsimp only at hSw); have hx_ := (hSw.cell (p := ⟨sb, off + j, none⟩) (World.block_lt_of_cell? _ _ hx) (hnl sb hsb)).trans hx; go_simp; (try with_reducible rfl)))
        (try simp only [Act.put, List.setIfInBounds_toArray, List.set_cons_zero, List.set_cons_succ])
        refine wpAnyH_ready (rs := [1, 19]) (by kernel_rfl) (by simp) ?_; refine AllReadyH.cons (o := _) rfl (fun K hK => ?_) (AllReadyH.cons (o := _) rfl (fun K hK => ?_) AllReadyH.nil)
        · go_simp
          skip
          refine hK.out _ _ (by (try dsimp only); exact hHeld) (fun hHeld => ?_)
          clear hK K
          (try simp only [Act.put, List.setIfInBounds_toArray, List.set_cons_zero, List.set_cons_succ])
          refine wpAnyH_ready (rs := [19]) (by kernel_rfl) (by simp) ?_; refine AllReadyH.cons (o := _) rfl (fun K hK => ?_) AllReadyH.nil
          go_simp
          skip
          refine hK.out _ _ (by (try dsimp only); exact ((Chg.refl _ wr).alloc _).drew) (fun hHeld => ?_)
          clear hK K
          (try simp only [Act.put, List.setIfInBounds_toArray, List.set_cons_zero, List.set_cons_succ])
          refine wpAnyH_ready (rs := [20]) (by kernel_rfl) (by simp) ?_; refine AllReadyH.cons (o := _) rfl (fun K hK => ?_) AllReadyH.nil
          (refine step_append_src rfl (.tmp 30) (.tmp 48) 22 rfl 0 3 i0 _ 1 8 Try.underlying22 hi0 hz0 hz1 hz2 rfl (by omega) (.slice Av i cv) i (vals .i64 (M.take i)) (by first | (simp [Act.eval]; done) | simp [Act.eval, Act.put]) (hown_ hoa HN.out) (some ⟨wr.heap.size, 0, none⟩) 1 1 [.int .i64 z] (by first | (simp [Act.eval]; done) | simp [Act.eval, Act.put]) (src_one hba) (by simp [maxLen]; omega) (by omega) (Nat.zero_le _) (i + 1) rfl (vals .i64 (M.take i ++ [z])) (vals_snoc _ z) ?_; intro v5 w5 hown5 hc5 hv5; obtain ⟨A5, cp5, rfl, hz5a, hz5b⟩ := own_form hown5; clear hz5a hz5b; have bG5 := hc5.blk bGa hgn; have f5 := bG5.frozen 1; obtain ⟨s0, s1, s2, s3, s4, s5, s6⟩ := cfc7 bG5)
          refine hK.out _ _ (by (try dsimp only); exact ((Chg.refl _ wr).alloc _).drew.trans hc5 (by intro i hi hm; exact List.mem_cons_of_mem _ hm)) (fun hHeld => ?_)
          clear hK K
          (try dsimp only)
          (try simp only [Act.put])
          (try simp only [List.setIfInBounds_toArray])
          (try simp only [List.set_cons_succ])
          (try simp only [List.set_cons_zero])
          (refine take_on 21 (some 50) (v := ?_) rfl rfl (by kernel_rfl) (by kernel_rfl) (by kernel_rfl) (fun _ _ _ h => h) (by rfl) (by assumption) ?_ ?_; rotate_left; · (intro w hSw; go_simp; (try with_reducible rfl)))
          (try simp only [Act.put])
          (try simp only [List.setIfInBounds_toArray])
          (try simp only [List.set_cons_succ])
          (try simp only [List.set_cons_zero])
          refine wpAnyH_ready (rs := [22]) (by kernel_rfl) (by simp) ?_; refine AllReadyH.cons (o := _) rfl (fun K hK => ?_) AllReadyH.nil
          go_simp
          skip
          refine hK.out _ _ (by (try dsimp only); exact Chg.setCell hHeld (p := ⟨w1.heap.size, 1, none⟩) (by simp) _) (fun hHeld => ?_)
          clear hK K
          (try simp only [Act.put])
          (try simp only [List.setIfInBounds_toArray])
          (try simp only [List.set_cons_succ])
          (try simp only [List.set_cons_zero])
          refine wpAnyH_done (by kernel_rfl) ?_ _
          refine NoPanic.normal ?_
          have k6 : Chg [w1.heap.size] w5 (w5.setCell ⟨w1.heap.size, 1, none⟩ (.slice A5 (i + 1) cp5)) := (Chg.refl _ w5).setCell (by simp) _
          have k7 : Chg [] w1 (w5.setCell ⟨w1.heap.size, 1, none⟩ (.slice A5 (i + 1) cp5)) := y.trans hHeld (by intro x hx hm; exact absurd hm (hnl x hx))
          have bG6 := bG5.set_ 1 (.slice A5 (i + 1) cp5)
          simp only [List.setIfInBounds_toArray, List.set_cons_zero, List.set_cons_succ] at bG6
          have bC6 := bC.chg_ hHeld (hnl _ hlt1)
          have ho6 : OwnI (w5.setCell ⟨w1.heap.size, 1, none⟩ (.slice A5 (i + 1) cp5)) 3 .i64 (.slice A5 (i + 1) cp5) (M.take (i + 1)) := by rw [HTT.out]; exact OwnI.chg (own_any hown5 (by rw [List.length_append, HN.out]; rfl)) k6 (fun g hg' hm => by obtain ⟨cur, hb5⟩ := OwnI.blk (own_any hown5 (by rw [List.length_append, HN.out]; rfl)) hg'; simp at hm; subst hm; exact Blk.type_ne hb5 bG5 (by decide) rfl)
          have hg6 : ∀ g ∈ (Value.slice A5 (i + 1) cp5).ownBlock.toList, w1.heap.size ≤ g := fun g hg' => by rcases hv5 with e | e; (rw [e] at hg'; exact hg g hg'); (rw [e] at hg'; simp at hg'; have := y.size; omega)
          clear hHeld s0 s1 s2 s3 s4 s5 s6 f5 bG5 hown5 hc5 hv5 k6
          generalize w5.setCell ⟨w1.heap.size, 1, none⟩ (.slice A5 (i + 1) cp5) = w6 at *
          clear p0 p1 p2 p3 p4 p5 p6 q0 q1 q2 q3 q4 q5 q6 bGd bGa hoa hba hx c0 c1 c2 c3 c4 c5 c6
          go_wp2_with fail
          go_roundw
          case rel => exact ⟨i + 1, _, by omega, by go_num, k7, bG6, bC6, ho6, hg6⟩
          case measure => simp [intOf]; omega
        · go_simp
          skip
          refine hK.out _ _ (by (try dsimp only); exact ((Chg.refl _ wr).alloc _).drew) (fun hHeld => ?_)
          clear hK K
          (try simp only [Act.put, List.setIfInBounds_toArray, List.set_cons_zero, List.set_cons_succ])
          refine wpAnyH_ready (rs := [1]) (by kernel_rfl) (by simp) ?_; refine AllReadyH.cons (o := _) rfl (fun K hK => ?_) AllReadyH.nil
          go_simp
          skip
          refine hK.out _ _ (by (try dsimp only); exact hHeld) (fun hHeld => ?_)
          clear hK K
          (try simp only [Act.put, List.setIfInBounds_toArray, List.set_cons_zero, List.set_cons_succ])
          refine wpAnyH_ready (rs := [20]) (by kernel_rfl) (by simp) ?_; refine AllReadyH.cons (o := _) rfl (fun K hK => ?_) AllReadyH.nil
          (refine step_append_src rfl (.tmp 30) (.tmp 48) 22 rfl 0 3 i0 _ 1 8 Try.underlying22 hi0 hz0 hz1 hz2 rfl (by omega) (.slice Av i cv) i (vals .i64 (M.take i)) (by first | (simp [Act.eval]; done) | simp [Act.eval, Act.put]) (hown_ hoa HN.out) (some ⟨wr.heap.size, 0, none⟩) 1 1 [.int .i64 z] (by first | (simp [Act.eval]; done) | simp [Act.eval, Act.put]) (src_one hba) (by simp [maxLen]; omega) (by omega) (Nat.zero_le _) (i + 1) rfl (vals .i64 (M.take i ++ [z])) (vals_snoc _ z) ?_; intro v5 w5 hown5 hc5 hv5; obtain ⟨A5, cp5, rfl, hz5a, hz5b⟩ := own_form hown5; clear hz5a hz5b; have bG5 := hc5.blk bGa hgn; have f5 := bG5.frozen 1; obtain ⟨s0, s1, s2, s3, s4, s5, s6⟩ := cfc7 bG5)
          refine hK.out _ _ (by (try dsimp only); exact ((Chg.refl _ wr).alloc _).drew.trans hc5 (by intro i hi hm; exact List.mem_cons_of_mem _ hm)) (fun hHeld => ?_)
          clear hK K
          (try dsimp only)
          (try simp only [Act.put])
          (try simp only [List.setIfInBounds_toArray])
          (try simp only [List.set_cons_succ])
          (try simp only [List.set_cons_zero])
          (refine take_on 21 (some 50) (v := ?_) rfl rfl (by kernel_rfl) (by kernel_rfl) (by kernel_rfl) (fun _ _ _ h => h) (by rfl) (by assumption) ?_ ?_; rotate_left; · (intro w hSw; go_simp; (try with_reducible rfl)))
          (try simp only [Act.put])
          (try simp only [List.setIfInBounds_toArray])
          (try simp only [List.set_cons_succ])
          (try simp only [List.set_cons_zero])
          refine wpAnyH_ready (rs := [22]) (by kernel_rfl) (by simp) ?_; refine AllReadyH.cons (o := _) rfl (fun K hK => ?_) AllReadyH.nil
          go_simp
          skip
          refine hK.out _ _ (by (try dsimp only); exact Chg.setCell hHeld (p := ⟨w1.heap.size, 1, none⟩) (by simp) _) (fun hHeld => ?_)
          clear hK K
          (try simp only [Act.put])
          (try simp only [List.setIfInBounds_toArray])
          (try simp only [List.set_cons_succ])
          (try simp only [List.set_cons_zero])
          refine wpAnyH_done (by kernel_rfl) ?_ _
          refine NoPanic.normal ?_
          have k6 : Chg [w1.heap.size] w5 (w5.setCell ⟨w1.heap.size, 1, none⟩ (.slice A5 (i + 1) cp5)) := (Chg.refl _ w5).setCell (by simp) _
          have k7 : Chg [] w1 (w5.setCell ⟨w1.heap.size, 1, none⟩ (.slice A5 (i + 1) cp5)) := y.trans hHeld (by intro x hx hm; exact absurd hm (hnl x hx))
          have bG6 := bG5.set_ 1 (.slice A5 (i + 1) cp5)
          simp only [List.setIfInBounds_toArray, List.set_cons_zero, List.set_cons_succ] at bG6
          have bC6 := bC.chg_ hHeld (hnl _ hlt1)
          have ho6 : OwnI (w5.setCell ⟨w1.heap.size, 1, none⟩ (.slice A5 (i + 1) cp5)) 3 .i64 (.slice A5 (i + 1) cp5) (M.take (i + 1)) := by rw [HTT.out]; exact OwnI.chg (own_any hown5 (by rw [List.length_append, HN.out]; rfl)) k6 (fun g hg' hm => by obtain ⟨cur, hb5⟩ := OwnI.blk (own_any hown5 (by rw [List.length_append, HN.out]; rfl)) hg'; simp at hm; subst hm; exact Blk.type_ne hb5 bG5 (by decide) rfl)
          have hg6 : ∀ g ∈ (Value.slice A5 (i + 1) cp5).ownBlock.toList, w1.heap.size ≤ g := fun g hg' => by rcases hv5 with e | e; (rw [e] at hg'; exact hg g hg'); (rw [e] at hg'; simp at hg'; have := y.size; omega)
          clear hHeld s0 s1 s2 s3 s4 s5 s6 f5 bG5 hown5 hc5 hv5 k6
          generalize w5.setCell ⟨w1.heap.size, 1, none⟩ (.slice A5 (i + 1) cp5) = w6 at *
          clear p0 p1 p2 p3 p4 p5 p6 q0 q1 q2 q3 q4 q5 q6 bGd bGa hoa hba hx c0 c1 c2 c3 c4 c5 c6
          go_wp2_with fail
          go_roundw
          case rel => exact ⟨i + 1, _, by omega, by go_num, k7, bG6, bC6, ho6, hg6⟩
          case measure => simp [intOf]; omega
      · obtain rfl : i = n := by omega
        have hltz : ¬ (i : Int) < (i : Int) := by omega
        rw [show M.take i = M from List.take_of_length_le (by rw [HTL.out]; exact Nat.le_refl _)] at ho
        have hM : SlK .i64 wr Av i M := by have := ho.slk HTW.out (by rw [HTL.out]; exact hle); exact this
        replace hsl := hsl.chg y
        replace hc := hc.trans y (by simp)
        clear ho hg HTS HT0 y
        go_wp2_with fail
        clear c0 c1 c2 c3 c4 c5 c6
        refine wp_region_noPanic ?_
        refine wp_region_held_drew (S := (fun w' => Chg [] wr w')) (by kernel_rfl) ?_ (fun hHeld => ?_)
        · exact (Chg.refl [] wr).drew
        (refine take_on 0 (some 51) (v := ?_) rfl rfl (by kernel_rfl) (by kernel_rfl) (by kernel_rfl) (fun _ _ _ h => h) (by rfl) (by assumption) ?_ ?_; rotate_left; · (intro w hSw; go_simp; (try with_reducible rfl)))
        (try simp only [Act.put, List.setIfInBounds_toArray, List.set_cons_zero, List.set_cons_succ])
        (refine take_on 1 (some 52) (v := ?_) rfl rfl (by kernel_rfl) (by kernel_rfl) (by kernel_rfl) (fun _ _ _ h => h) (by rfl) (by assumption) ?_ ?_; rotate_left; · (intro w hSw; go_simp; (try with_reducible rfl)))
        (try simp only [Act.put, List.setIfInBounds_toArray, List.set_cons_zero, List.set_cons_succ])
        (refine take_on 2 (some 53) (v := ?_) rfl rfl (by kernel_rfl) (by kernel_rfl) (by kernel_rfl) (fun _ _ _ h => h) (by rfl) (by assumption) ?_ ?_; rotate_left; · (intro w hSw; (try dsimp only at hSw); have b_ := bG.chg_ hSw (by simp); obtain ⟨d0, d1, d2, d3, d4, d5, d6⟩ := cfc7 b_; go_simp; (try with_reducible rfl)))
        (try simp only [Act.put, List.setIfInBounds_toArray, List.set_cons_zero, List.set_cons_succ])
        (refine take_on 4 (some 55) (v := ?_) rfl rfl (by kernel_rfl) (by kernel_rfl) (by kernel_rfl) (fun _ _ _ h => h) (by rfl) (by assumption) ?_ ?_; rotate_left; · (intro w hSw; (try dsimp only at hSw); have b_ := bC.chg_ hSw (by simp); obtain ⟨d0, d1, d2, d3, d4, d5, d6⟩ := cfc7 b_; go_simp; (try with_reducible rfl)))
        (try simp only [Act.put, List.setIfInBounds_toArray, List.set_cons_zero, List.set_cons_succ])
        refine wpAnyH_ready (rs := [3]) (by kernel_rfl) (by simp) ?_; refine AllReadyH.cons (o := _) rfl (fun K hK => ?_) AllReadyH.nil
        go_simp
        (go_at_call 10; refine (RT _ Av cv (hM.chg hHeld)).mono ?_; rintro e u0 ⟨rfl, y0⟩)
        refine hK.out _ _ (by (try dsimp only); exact hHeld.trans y0 (by simp)) (fun hHeld => ?_)
        clear hK K
        (try simp only [Act.put, List.setIfInBounds_toArray, List.set_cons_zero, List.set_cons_succ])
        refine wpAnyH_ready (rs := [5]) (by kernel_rfl) (by simp) ?_; refine AllReadyH.cons (o := _) rfl (fun K hK => ?_) AllReadyH.nil
        go_simp
        (go_at_call 10; refine (RC _ (hsl.chg hHeld)).mono ?_; rintro e u1 ⟨rfl, y1⟩)
        refine hK.out _ _ (by (try dsimp only); exact hHeld.trans y1 (by simp)) (fun hHeld => ?_)
        clear hK K
        (try simp only [Act.put, List.setIfInBounds_toArray, List.set_cons_zero, List.set_cons_succ])
        (refine take_on 6 (some 57) (v := ?_) rfl rfl (by kernel_rfl) (by kernel_rfl) (by kernel_rfl) (fun _ _ _ h => h) (by rfl) (by assumption) ?_ ?_; rotate_left; · (intro w hSw; go_simp; (try with_reducible rfl)))
        (try simp only [Act.put, List.setIfInBounds_toArray, List.set_cons_zero, List.set_cons_succ])
        (refine take_on 7 (some 58) (v := ?_) rfl rfl (by kernel_rfl) (by kernel_rfl) (by kernel_rfl) (fun _ _ _ h => h) (by rfl) (by assumption) ?_ ?_; rotate_left; · (intro w hSw; go_simp; (try with_reducible rfl)))
        (try simp only [Act.put, List.setIfInBounds_toArray, List.set_cons_zero, List.set_cons_succ])
        (refine take_on 8 (some 59) (v := ?_) rfl rfl (by kernel_rfl) (by kernel_rfl) (by kernel_rfl) (fun _ _ _ h => h) (by rfl) (by assumption) ?_ ?_; rotate_left; · (intro w hSw; go_simp; (try with_reducible rfl)))
        (try simp only [Act.put, List.setIfInBounds_toArray, List.set_cons_zero, List.set_cons_succ])
        (refine take_on 9 (some 60) (v := ?_) rfl rfl (by kernel_rfl) (by kernel_rfl) (by kernel_rfl) (fun _ _ _ h => h) (by rfl) (by assumption) ?_ ?_; rotate_left; · (intro w hSw; (try dsimp only at hSw); have b_ := bG.chg_ hSw (by simp); obtain ⟨d0, d1, d2, d3, d4, d5, d6⟩ := cfc7 b_; go_simp; (try with_reducible rfl)))
        (try simp only [Act.put, List.setIfInBounds_toArray, List.set_cons_zero, List.set_cons_succ])
        (refine take_on 11 (some 62) (v := ?_) rfl rfl (by kernel_rfl) (by kernel_rfl) (by kernel_rfl) (fun _ _ _ h => h) (by rfl) (by assumption) ?_ ?_; rotate_left; · (intro w hSw; (try dsimp only at hSw); have b_ := bC.chg_ hSw (by simp); obtain ⟨d0, d1, d2, d3, d4, d5, d6⟩ := cfc7 b_; go_simp; (try with_reducible rfl)))
        (try simp only [Act.put, List.setIfInBounds_toArray, List.set_cons_zero, List.set_cons_succ])
        refine wpAnyH_ready (rs := [10]) (by kernel_rfl) (by simp) ?_; refine AllReadyH.cons (o := _) rfl (fun K hK => ?_) AllReadyH.nil
        go_simp
        (go_at_call 13; refine (IT _ Av cv (hM.chg hHeld)).mono ?_; rintro e u2 ⟨B3, m3, rfl, ho1, _, y2⟩; have hi1 := slk_rng ho1 HIR.out)
        refine hK.out _ _ (by (try dsimp only); exact hHeld.trans y2 (by simp)) (fun hHeld => ?_)
        clear hK K
        (try simp only [Act.put, List.setIfInBounds_toArray, List.set_cons_zero, List.set_cons_succ])
        refine wpAnyH_ready (rs := [12]) (by kernel_rfl) (by simp) ?_; refine AllReadyH.cons (o := _) rfl (fun K hK => ?_) AllReadyH.nil
        go_simp
        (go_at_call 13; refine (IC _ (hsl.chg hHeld)).mono ?_; rintro e u3 ⟨B4, m4, rfl, ho2, _, y3⟩; have hi2 := slk_rng ho2 HIR.out; replace hi1 := hi1.chg y3)
        refine hK.out _ _ (by (try dsimp only); exact hHeld.trans y3 (by simp)) (fun hHeld => ?_)
        clear hK K
        (try simp only [Act.put, List.setIfInBounds_toArray, List.set_cons_zero, List.set_cons_succ])
        refine wpAnyH_ready (rs := [13]) (by kernel_rfl) (by simp) ?_; refine AllReadyH.cons (o := _) rfl (fun K hK => ?_) AllReadyH.nil
        go_simp
        (go_at_call 12; refine (SameI_is _ _ _ I1 _ _ _ I1 true _ hi1 hi2 (by simp)).mono ?_; rintro e u4 ⟨rfl, y4⟩)
        refine hK.out _ _ (by (try dsimp only); exact hHeld.trans y4 (by simp)) (fun hHeld => ?_)
        clear hK K
        (try simp only [Act.put, List.setIfInBounds_toArray, List.set_cons_zero, List.set_cons_succ])
        (refine take_on 14 (some 65) (v := ?_) rfl rfl (by kernel_rfl) (by kernel_rfl) (by kernel_rfl) (fun _ _ _ h => h) (by rfl) (by assumption) ?_ ?_; rotate_left; · (intro w hSw; go_simp; (try with_reducible rfl)))
        (try simp only [Act.put, List.setIfInBounds_toArray, List.set_cons_zero, List.set_cons_succ])
        (refine take_on 15 (some 66) (v := ?_) rfl rfl (by kernel_rfl) (by kernel_rfl) (by kernel_rfl) (fun _ _ _ h => h) (by rfl) (by assumption) ?_ ?_; rotate_left; · (intro w hSw; go_simp; (try with_reducible rfl)))
        (try simp only [Act.put, List.setIfInBounds_toArray, List.set_cons_zero, List.set_cons_succ])
        (refine take_on 16 (some 67) (v := ?_) rfl rfl (by kernel_rfl) (by kernel_rfl) (by kernel_rfl) (fun _ _ _ h => h) (by rfl) (by assumption) ?_ ?_; rotate_left; · (intro w hSw; (try dsimp only at hSw); have b_ := bG.chg_ hSw (by simp); obtain ⟨d0, d1, d2, d3, d4, d5, d6⟩ := cfc7 b_; go_simp; (try with_reducible rfl)))
        (try simp only [Act.put, List.setIfInBounds_toArray, List.set_cons_zero, List.set_cons_succ])
        (refine take_on 18 (some 69) (v := ?_) rfl rfl (by kernel_rfl) (by kernel_rfl) (by kernel_rfl) (fun _ _ _ h => h) (by rfl) (by assumption) ?_ ?_; rotate_left; · (intro w hSw; (try dsimp only at hSw); have b_ := bC.chg_ hSw (by simp); obtain ⟨d0, d1, d2, d3, d4, d5, d6⟩ := cfc7 b_; go_simp; (try with_reducible rfl)))
        (try simp only [Act.put, List.setIfInBounds_toArray, List.set_cons_zero, List.set_cons_succ])
        refine wpAnyH_ready (rs := [17]) (by kernel_rfl) (by simp) ?_; refine AllReadyH.cons (o := _) rfl (fun K hK => ?_) AllReadyH.nil
        go_simp
        (go_at_call 15; refine (FT _ Av cv (hM.chg hHeld)).mono ?_; rintro e u5 ⟨B5, m5, rfl, ho3, _, y5⟩; have hi3 := slk_rng ho3 HFR.out)
        refine hK.out _ _ (by (try dsimp only); exact hHeld.trans y5 (by simp)) (fun hHeld => ?_)
        clear hK K
        (try simp only [Act.put, List.setIfInBounds_toArray, List.set_cons_zero, List.set_cons_succ])
        refine wpAnyH_ready (rs := [19]) (by kernel_rfl) (by simp) ?_; refine AllReadyH.cons (o := _) rfl (fun K hK => ?_) AllReadyH.nil
        go_simp
        (go_at_call 15; refine (FC _ (hsl.chg hHeld)).mono ?_; rintro e u6 ⟨B6, m6, rfl, ho4, _, y6⟩; have hi4 := slk_rng ho4 HFR.out; replace hi3 := hi3.chg y6)
        refine hK.out _ _ (by (try dsimp only); exact hHeld.trans y6 (by simp)) (fun hHeld => ?_)
        clear hK K
        (try simp only [Act.put, List.setIfInBounds_toArray, List.set_cons_zero, List.set_cons_succ])
        refine wpAnyH_ready (rs := [20]) (by kernel_rfl) (by simp) ?_; refine AllReadyH.cons (o := _) rfl (fun K hK => ?_) AllReadyH.nil
        go_simp
        (go_at_call 12; refine (SameI_is _ _ _ I2 _ _ _ I2 true _ hi3 hi4 (by simp)).mono ?_; rintro e u7 ⟨rfl, y7⟩)
        refine hK.out _ _ (by (try dsimp only); exact hHeld.trans y7 (by simp)) (fun hHeld => ?_)
        clear hK K
        (try simp only [Act.put, List.setIfInBounds_toArray, List.set_cons_zero, List.set_cons_succ])
        (refine take_on 21 (some 72) (v := ?_) rfl rfl (by kernel_rfl) (by kernel_rfl) (by kernel_rfl) (fun _ _ _ h => h) (by rfl) (by assumption) ?_ ?_; rotate_left; · (intro w hSw; go_simp; (try with_reducible rfl)))
        (try simp only [Act.put, List.setIfInBounds_toArray, List.set_cons_zero, List.set_cons_succ])
        (refine take_on 22 (some 4) (v := ?_) rfl rfl (by kernel_rfl) (by kernel_rfl) (by kernel_rfl) (fun _ _ _ h => h) (by rfl) (by assumption) ?_ ?_; rotate_left; · (intro w hSw; go_simp; (try with_reducible rfl)))
        (try simp only [Act.put, List.setIfInBounds_toArray, List.set_cons_zero, List.set_cons_succ])
        refine wpAnyH_done (by kernel_rfl) ?_ _
        refine NoPanic.normal ?_
        go_wp2_with fail
        go_ret
        exact ⟨rfl, hc.trans hHeld (by simp)⟩

end Go.Proofs.Ytkggkdjhecagnaa
