/-
  StoreWords: the law, walked from contracts.
-/
import Derived.Test.YtpmfooeifhhfkaaStoreY
import Derived.Deep.CutRange
namespace Go.Proofs.Ytpmfooeifhhfkaa
open Go.RowKit Go.Maps

theorem SepC.set9 {w0 w : World} {l : List Th} {g : Nat} {t : TypeId} {x0 x1 x2 x3 x4 x5 x6 x7 x8 : Value} (H : SepC w0 w (blkT g t #[x0, x1, x2, x3, x4, x5, x6, x7, x8] :: l)) (y0 y1 y2 y3 y4 y5 y6 y7 y8 : Value) :
    SepC w0 (((((((((w.setCell ⟨g, 0, none⟩ y0).setCell ⟨g, 1, none⟩ y1).setCell ⟨g, 2, none⟩ y2).setCell ⟨g, 3, none⟩ y3).setCell ⟨g, 4, none⟩ y4).setCell ⟨g, 5, none⟩ y5).setCell ⟨g, 6, none⟩ y6).setCell ⟨g, 7, none⟩ y7).setCell ⟨g, 8, none⟩ y8) (blkT g t #[y0, y1, y2, y3, y4, y5, y6, y7, y8] :: l) :=
  H.step (S := [g]) (S' := [g]) (fun _ h => h.1) ((((((((((Chg.refl [g] w).setCell (p := ⟨g, 0, none⟩) (by simp) y0).setCell (p := ⟨g, 1, none⟩) (by simp) y1).setCell (p := ⟨g, 2, none⟩) (by simp) y2).setCell (p := ⟨g, 3, none⟩) (by simp) y3).setCell (p := ⟨g, 4, none⟩) (by simp) y4).setCell (p := ⟨g, 5, none⟩) (by simp) y5).setCell (p := ⟨g, 6, none⟩) (by simp) y6).setCell (p := ⟨g, 7, none⟩) (by simp) y7).setCell (p := ⟨g, 8, none⟩) (by simp) y8) ⟨rfl, by have := (((((((((H.blk.set_ 0 y0).set_ 1 y1).set_ 2 y2).set_ 3 y3).set_ 4 y4).set_ 5 y5).set_ 6 y6).set_ 7 y7).set_ 8 y8); simpa using this⟩ (fun _ hi => .inl hi)
set_option maxRecDepth 100000 in
set_option maxHeartbeats 20000000 in
/-- the words of a page's frame are those of its slots; no frame is changed but a page's -/
theorem lawStoreWords_any (A : Option Addr) (n c : Nat) (L : List Ost) (v : Int) (w : World) (hl : OpsIn w A n L) :
    Calls Try.prog 4 #[.slice A n c, .int .u64 v] w fun e w' => e = .returned (.bool true) ∧ Chg [] w w' := by
  have hNew := fun w' => New_at 24 w' (by omega) (by omega)
  have hHd := fun w' => SThead_any w'
  have hn9 := hl.sl.le
  have hnn := hl.sl.len
  replace hnn := Lib.hid hnn
  have H0 := SepC.nil w
  by_cases h200 : (200 : Int) < n
  · have hgt : decide ((n : Int) > 200) = true := by simpa using h200
    go_enter Try.func4, Try.ntmps4
    go_wp2_with fail
    refine (hHd _).mono ?_; rintro e z1 ⟨rfl, y1⟩
    have H1 := H0.new y1
    clear H0 y1 hHd
    go_wp2_with fail
    refine (hNew _).mono ?_; rintro e z2 ⟨hp, hb, rfl, y2, hm, hg1, hg2⟩
    have H2 := H1.new y2
    clear hm hg1 hg2 H1 hNew
    go_wp2_with fail
    go_ret
    exact ⟨rfl, H2.1⟩
  have hgt : decide ((n : Int) > 200) = false := by simpa using h200
  go_enter Try.func4, Try.ntmps4
  go_wp2_with fail
  refine (hHd _).mono ?_; rintro e z1 ⟨rfl, y1⟩
  have H1 := H0.new y1
  clear H0 y1 hHd
  go_wp2_with fail
  refine (hNew _).mono ?_; rintro e z2 ⟨hp, hb, rfl, y2, hm, hg1, hg2⟩
  have H2 := H1.lay (P := hoT hp hb 24 (zeros 192)) (S := [hb, hp]) y2 ⟨rfl, hm⟩ (by intro i hi; simp only [List.mem_cons, List.not_mem_nil, or_false] at hi; rcases hi with rfl | rfl <;> assumption)
  clear hm hg1 hg2 H1 hNew
  have hn200 : n ≤ 200 := by omega
  change SepC w z2 (hoT hp hb 24 (zeros 192) :: []) at H2
  obtain ⟨K, hK0, hKs⟩ : ∃ K : Nat → List Int, K 0 = zeros 192 ∧ ∀ f : Nat, K (f + 1) = setW 24 (K f) (f : Int) ((f : Int) % 8) v := ⟨fun f => Nat.rec (zeros 192) (fun f W => setW 24 W (f : Int) ((f : Int) % 8) v) f, rfl, fun _ => rfl⟩
  have hKl : ∀ f, (K f).length = 192 := fun f => by
    induction f with
    | zero => rw [hK0]; exact zeros_len 192
    | succ f ih => rw [hKs, setW_len, ih]
  replace hK0 := Lib.hid hK0
  go_wp2_with fail
  go_loopw [7] (fun s7 wr => ∃ f : Nat, f ≤ 24 ∧ s7 = .int .i64 f ∧ SepC w wr (hoT hp hb 24 (K f) :: [])) (fun s7 _ => 24 - (intOf s7).toNat)
  case atStart => exact ⟨0, by omega, rfl, by rw [hK0.out]; exact H2⟩
  case round =>
    obtain ⟨f, hf, rfl, H⟩ := hrel
    clear H2
    by_cases hf24 : f < 24
    · have hfz : (f : Int) < 24 := by omega
      have hS := H.hSet (f : Int) ((f : Int) % 8) v
      rw [← hKs] at hS
      go_wp2_with fail
      refine (hS).mono ?_; rintro e w3 ⟨rfl, H3⟩
      clear hS H
      go_wp2_with fail
      go_roundw
      case rel => exact ⟨f + 1, by omega, by go_num, H3⟩
      case measure => simp [intOf]; omega
    · obtain rfl : f = 24 := by omega
      have hfz : ¬ (24 : Int) < 24 := by omega
      have hWl := hKl 24
      generalize K 24 = W0 at *
      clear hKl hKs hK0
      have H4 := (H.alloc (Array.replicate 24 (.slice none 0 0)) 62).rows0 (fun j => frameW 24 W0 (j : Int))
      rw [show (Array.replicate 24 (Value.slice none 0 0)) = #[.slice none 0 0, .slice none 0 0, .slice none 0 0, .slice none 0 0, .slice none 0 0, .slice none 0 0, .slice none 0 0, .slice none 0 0, .slice none 0 0, .slice none 0 0, .slice none 0 0, .slice none 0 0, .slice none 0 0, .slice none 0 0, .slice none 0 0, .slice none 0 0, .slice none 0 0, .slice none 0 0, .slice none 0 0, .slice none 0 0, .slice none 0 0, .slice none 0 0, .slice none 0 0, .slice none 0 0] from rfl] at H4
      go_wp2_with fail
      generalize hww : wr.alloc (.cells #[.slice none 0 0, .slice none 0 0, .slice none 0 0, .slice none 0 0, .slice none 0 0, .slice none 0 0, .slice none 0 0, .slice none 0 0, .slice none 0 0, .slice none 0 0, .slice none 0 0, .slice none 0 0, .slice none 0 0, .slice none 0 0, .slice none 0 0, .slice none 0 0, .slice none 0 0, .slice none 0 0, .slice none 0 0, .slice none 0 0, .slice none 0 0, .slice none 0 0, .slice none 0 0, .slice none 0 0] 62) = w4 at *
      generalize wr.heap.size = g8 at *
      clear hww H
      go_loopw [9] (fun s9 wr => ∃ f : Nat, f ≤ 24 ∧ s9 = .int .i64 f ∧ SepC w wr (rowsT g8 62 (fun j => frameW 24 W0 (j : Int)) f :: hoT hp hb 24 W0 :: [])) (fun s9 _ => 24 - (intOf s9).toNat)
      case atStart => exact ⟨0, by omega, rfl, H4⟩
      case round =>
        obtain ⟨f, hf, rfl, H⟩ := hrel
        clear H4
        by_cases hf24 : f < 24
        · have hfz : (f : Int) < 24 := by omega
          obtain ⟨_, hfl⟩ := frameW_take (n := 24) hWl hf24
          have hfl2 := hfl
          have cF := Frame_at hp hb 24 W0 (f : Int) wr H.swap.hmem
          rw [hfl] at cF
          go_wp2_with fail
          refine cF.mono ?_; rintro e w5 ⟨A5, c5, rfl, y5, hu5, hA5, _⟩
          clear cF
          have H5 := H.new y5
          obtain ⟨⟨Ao, no, co, hco⟩, hfo⟩ := H5.rowCell hf24
          have H6 := H.rowPut (c := c5) y5 hf24 hu5 hA5
          clear H H5 hu5 hA5 y5
          go_wp2_with fail
          go_roundw
          case rel => exact ⟨f + 1, by omega, by go_num, H6⟩
          case measure => simp [intOf]; omega
        · obtain rfl : f = 24 := by omega
          have hfz : ¬ (24 : Int) < 24 := by omega
          replace H := H.swap
          go_wp2_with fail
          refine (H.sNew (a := 6) (m := 9) (by omega)).mono ?_; rintro e z3 ⟨q, rfl, H3⟩
          obtain ⟨s0, hs0⟩ : ∃ s0 : Sr, (⟨[], dnk 6 9, W0⟩ : Sr) = s0 := ⟨_, rfl⟩
          change SepC w z3 (stT q hp hb 24 6 9 ⟨[], dnk 6 9, W0⟩ :: rowsT g8 62 (fun j => frameW 24 W0 (j : Int)) 24 :: []) at H3
          rw [hs0] at H3
          have hok0 := H3.sok
          have hW0 : s0.W = W0 := by rw [← hs0]
          clear hs0 H
          replace hW0 := Lib.hid hW0
          go_wp2_with fail
          go_loopw [11] (fun s_ wr => ∃ k : Nat, k ≤ n ∧ s_ = .int .i64 k ∧ SepC w wr (stT q hp hb 24 6 9 (runP 24 (s0) (L.take k)) :: rowsT g8 62 (fun j => frameW 24 W0 (j : Int)) 24 :: [])) (fun s_ _ => n - (intOf s_).toNat)
          case atStart => exact ⟨0, Nat.zero_le _, rfl, by simpa [runP] using H3⟩
          case round =>
            obtain ⟨k, hk, rfl, H⟩ := hrel
            clear H3
            by_cases hlt : k < n
            · have hltz : (k : Int) < (n : Int) := by omega
              obtain ⟨b, off, o, rfl, ho, c0, c1, c2, c3, c4, c5, c6, c7, c8, c9, c10⟩ := opE_cells (hl.new H.1).sl hlt
              have hP := H.sPlay o (hl.at_ ho)
              rw [← runP_take ho] at hP
              simp only [Ost.cs] at hP
              clear H
              go_wp2_with fail
              refine hP.mono ?_; rintro e w2 ⟨rfl, H2⟩
              clear hP c0 c1 c2 c3 c4 c5 c6 c7 c8 c9 c10
              go_wp2_with fail
              go_roundw
              case rel => exact ⟨k + 1, by omega, by go_num, H2⟩
              case measure => simp [intOf]; omega
            · obtain rfl : k = n := by omega
              have hltz : ¬ (k : Int) < (k : Int) := by omega
              rw [List.take_of_length_le (Nat.le_of_eq hnn.out)] at H
              obtain ⟨s, hs⟩ : ∃ s, runP 24 (s0) L = s := ⟨_, rfl⟩
              rw [hs] at H
              have hok := H.sok; have hout : ∀ f : Nat, (f < 6 ∨ 15 ≤ f) → frameW 24 s.W (f : Int) = frameW 24 W0 (f : Int) := fun f hf => by rw [← hs, ← hW0.out]; exact hok0.frame_out L hf
              clear hs hltz
              have hW := hok.len
              have hey := fun q_ (hq_ : q_ ∈ s.L) i (hi : i < 8) => hok.entry hq_ hi
              have hmn := fun (f : Nat) q_ (hq_ : pgAt s.L (f : Int) = some q_) => pgAt_mem hq_
              have hbd := fun q_ (hq_ : q_ ∈ s.L) => hok.inL hq_
              clear hok hok0 hW0
              go_wp2_with fail
              go_loopw [12] (fun s12 wr => ∃ f : Nat, f ≤ 24 ∧ s12 = .int .i64 f ∧ SepC w wr (stT q hp hb 24 6 9 s :: rowsT g8 62 (fun j => frameW 24 W0 (j : Int)) 24 :: [])) (fun s12 _ => 24 - (intOf s12).toNat)
              case atStart => exact ⟨0, by omega, rfl, H⟩
              case round =>
                obtain ⟨f, hf, rfl, H4⟩ := hrel
                clear H
                by_cases hf24 : f < 24
                · have hfz : (f : Int) < 24 := by omega
                  have cK := H4.sKey (f : Int) (by omega)
                  have hm1 := hmn f
                  generalize keyV s.L (f : Int) = kk at *
                  obtain ⟨kg, kl, kr⟩ := kk
                  simp only [Ky.cs] at cK
                  cases hpg : pgAt s.L (f : Int) with
                  | none =>
                    rw [hpg] at cK
                    simp only [Option.isSome_none] at cK
                    clear hm1 hpg
                    by_cases hlo : f < 6
                    · go_wp2_with fail
                      refine (cK).mono ?_; rintro e z5 ⟨rfl, y5⟩
                      clear cK
                      have H5 := (H4.new y5).alloc #[.int .i64 kg, .int .i64 kl, .int .i64 kr] 24
                      replace H5 := H5.tail
                      go_wp2_with fail
                      generalize z5.alloc (.cells #[.int .i64 kg, .int .i64 kl, .int .i64 kr] 24) = z6 at *
                      generalize z5.heap.size = kb at *
                      clear H4 y5
                      have hm := H5.smem
                      obtain ⟨Ar, cr, hrow, hur⟩ := H5.swap.rowGet hf24
                      have hg8 : g8 < z6.heap.size := World.block_lt_of_cell? _ _ hrow
                      obtain ⟨_, hfl⟩ := frameW_take (n := 24) hWl hf24
                      have hFr : ∀ w', Chg [] z6 w' → Calls Try.prog 36 #[.pointer (some ⟨hp, 0, none⟩), .int .i64 f] w' fun e w'' => ∃ A c, e = .returned (.slice A 8 c) ∧ SlU w'' A 8 (frameW 24 W0 (f : Int)) ∧ Chg [] w' w'' := by
                        intro w' hc
                        have h1 := Frame_at hp hb 24 s.W (f : Int) w' (hm.chg hc (by simp) (by simp))
                        rw [hout f (by omega), hfl] at h1
                        exact h1.mono fun _ _ ⟨A, c, e, y, hu, _, _⟩ => ⟨A, c, e, hu, y⟩
                      have hSm : ∀ (A1 : Option Addr) (c1 : Nat) w', SlU w' A1 8 (frameW 24 W0 (f : Int)) → Chg [] z6 w' → Calls Try.prog 35 #[.slice A1 8 c1, .slice Ar 8 cr] w' fun e w'' => e = .returned (.bool true) ∧ Chg [] w' w'' := by
                        intro A1 c1 w' hu hc
                        have h1 := SameWords_any A1 Ar 8 8 c1 cr _ _ w' hu (hur.chg hc (by simp)) (by omega) (by omega)
                        rw [eqL_self] at h1
                        exact h1.mono fun _ _ ⟨e, qd, h2⟩ => ⟨e, by rw [h2]; exact (Chg.refl [] w').drewN qd⟩
                      clear hfl hm hur
                      have g1 : decide ((f : Int) < 6) = true := by simp; omega
                      refine wp_region_noPanic ?_
                      refine wp_region_held_drew (S := (fun w' => Chg [] z6 w')) (by kernel_rfl) ?_ (fun hHeld => ?_)
                      · exact (Chg.refl [] z6).drew
                      (refine take_on 0 (some 83) (v := ?_) rfl rfl (by kernel_rfl) (by kernel_rfl) (by kernel_rfl) (fun _ _ _ h => h) (by rfl) (by assumption) ?_ ?_; rotate_left; · (intro w hSw; go_simp; (try with_reducible rfl)))
                      (try simp only [Act.put, List.setIfInBounds_toArray, List.set_cons_zero, List.set_cons_succ])
                      (refine take_on 1 (some 84) (v := ?_) rfl rfl (by kernel_rfl) (by kernel_rfl) (by kernel_rfl) (fun _ _ _ h => h) (by rfl) (by assumption) ?_ ?_; rotate_left; · (intro w hSw; go_simp; (try with_reducible rfl)))
                      (try simp only [Act.put, List.setIfInBounds_toArray, List.set_cons_zero, List.set_cons_succ])
                      (refine take_on 2 (some 85) (v := ?_) rfl rfl (by kernel_rfl) (by kernel_rfl) (by kernel_rfl) (fun _ _ _ h => h) (by rfl) (by assumption) ?_ ?_; rotate_left; · (intro w hSw; go_simp; (try with_reducible rfl)))
                      (try simp only [Act.put, List.setIfInBounds_toArray, List.set_cons_zero, List.set_cons_succ])
                      (refine take_off 3 (some 86) rfl rfl (by kernel_rfl) (by kernel_rfl) (by kernel_rfl) (fun _ _ _ h => h) (by rfl) (by assumption) ?_)
                      (try simp only [Act.put, List.setIfInBounds_toArray, List.set_cons_zero, List.set_cons_succ])
                      (refine take_off 4 (some 87) rfl rfl (by kernel_rfl) (by kernel_rfl) (by kernel_rfl) (fun _ _ _ h => h) (by rfl) (by assumption) ?_)
                      (try simp only [Act.put, List.setIfInBounds_toArray, List.set_cons_zero, List.set_cons_succ])
                      (refine take_on 5 (some 88) (v := ?_) rfl rfl (by kernel_rfl) (by kernel_rfl) (by kernel_rfl) (fun _ _ _ h => h) (by rfl) (by assumption) ?_ ?_; rotate_left; · (intro w hSw; go_simp; (try with_reducible rfl)))
                      (try simp only [Act.put, List.setIfInBounds_toArray, List.set_cons_zero, List.set_cons_succ])
                      (refine take_on 6 (some 89) (v := ?_) rfl rfl (by kernel_rfl) (by kernel_rfl) (by kernel_rfl) (fun _ _ _ h => h) (by rfl) (by assumption) ?_ ?_; rotate_left; · (intro w hSw; go_simp; (try with_reducible rfl)))
                      (try simp only [Act.put, List.setIfInBounds_toArray, List.set_cons_zero, List.set_cons_succ])
                      (refine take_on 7 (some 90) (v := ?_) rfl rfl (by kernel_rfl) (by kernel_rfl) (by kernel_rfl) (fun _ _ _ h => h) (by rfl) (by assumption) ?_ ?_; rotate_left; · (intro w hSw; go_simp; (try with_reducible rfl)))
                      (try simp only [Act.put, List.setIfInBounds_toArray, List.set_cons_zero, List.set_cons_succ])
                      (refine take_on 8 (some 91) (v := ?_) rfl rfl (by kernel_rfl) (by kernel_rfl) (by kernel_rfl) (fun _ _ _ h => h) (by rfl) (by assumption) ?_ ?_; rotate_left; · (intro w hSw; go_simp; (try with_reducible rfl)))
                      (try simp only [Act.put, List.setIfInBounds_toArray, List.set_cons_zero, List.set_cons_succ])
                      (refine take_on 10 (some 93) (v := ?_) rfl rfl (by kernel_rfl) (by kernel_rfl) (by kernel_rfl) (fun _ _ _ h => h) (by rfl) (by assumption) ?_ ?_; rotate_left; · (intro w hSw; go_simp; (try with_reducible rfl)))
                      (try simp only [Act.put, List.setIfInBounds_toArray, List.set_cons_zero, List.set_cons_succ])
                      (refine take_on 11 (some 94) (v := ?_) rfl rfl (by kernel_rfl) (by kernel_rfl) (by kernel_rfl) (fun _ _ _ h => h) (by rfl) (by assumption) ?_ ?_; rotate_left; · (intro w hSw; go_simp; (try with_reducible rfl)))
                      (try simp only [Act.put, List.setIfInBounds_toArray, List.set_cons_zero, List.set_cons_succ])
                      (refine take_on 12 (some 95) (v := ?_) rfl rfl (by kernel_rfl) (by kernel_rfl) (by kernel_rfl) (fun _ _ _ h => h) (by rfl) (by assumption) ?_ ?_; rotate_left; · (intro w hSw; (try dsimp only at hSw); have d0 := (hSw.cell (p := ⟨g8, f, none⟩) hg8 (by simp)).trans hrow; go_simp; (try with_reducible rfl)))
                      (try simp only [Act.put, List.setIfInBounds_toArray, List.set_cons_zero, List.set_cons_succ])
                      refine wpAnyH_ready (rs := [9]) (by kernel_rfl) (by simp) ?_; refine AllReadyH.cons (o := _) rfl (fun K hK => ?_) AllReadyH.nil
                      go_simp
                      go_at_call 36; refine (hFr _ hHeld).mono ?_; rintro e_0 w_0 ⟨A1, c1, rfl, hu1, y0⟩; first | exact hx_ | skip
                      refine hK.out _ _ (by (try dsimp only); exact hHeld.trans y0 (by simp)) (fun hHeld => ?_)
                      clear hK K
                      (try simp only [Act.put, List.setIfInBounds_toArray, List.set_cons_zero, List.set_cons_succ])
                      refine wpAnyH_ready (rs := [13]) (by kernel_rfl) (by simp) ?_; refine AllReadyH.cons (o := _) rfl (fun K hK => ?_) AllReadyH.nil
                      go_simp
                      go_at_call 35; refine (hSm A1 c1 _ hu1 hHeld).mono ?_; rintro e_1 w_1 ⟨rfl, y1⟩; first | exact hx_ | skip
                      refine hK.out _ _ (by (try dsimp only); exact hHeld.trans y1 (by simp)) (fun hHeld => ?_)
                      clear hK K
                      (try simp only [Act.put, List.setIfInBounds_toArray, List.set_cons_zero, List.set_cons_succ])
                      (refine take_on 14 (some 97) (v := ?_) rfl rfl (by kernel_rfl) (by kernel_rfl) (by kernel_rfl) (fun _ _ _ h => h) (by rfl) (by assumption) ?_ ?_; rotate_left; · (intro w hSw; go_simp; (try with_reducible rfl)))
                      (try simp only [Act.put, List.setIfInBounds_toArray, List.set_cons_zero, List.set_cons_succ])
                      (refine take_on 15 (some 98) (v := ?_) rfl rfl (by kernel_rfl) (by kernel_rfl) (by kernel_rfl) (fun _ _ _ h => h) (by rfl) (by assumption) ?_ ?_; rotate_left; · (intro w hSw; go_simp; (try with_reducible rfl)))
                      (try simp only [Act.put, List.setIfInBounds_toArray, List.set_cons_zero, List.set_cons_succ])
                      refine wpAnyH_done (by kernel_rfl) ?_ _
                      refine NoPanic.normal ?_
                      replace H5 := H5.new hHeld
                      go_wp2_with fail
                      go_roundw
                      case rel => exact ⟨f + 1, by omega, by go_num, H5⟩
                      case measure => simp [intOf]; omega
                    · by_cases hhi : 15 ≤ f
                      · go_wp2_with fail
                        refine (cK).mono ?_; rintro e z5 ⟨rfl, y5⟩
                        clear cK
                        have H5 := (H4.new y5).alloc #[.int .i64 kg, .int .i64 kl, .int .i64 kr] 24
                        replace H5 := H5.tail
                        go_wp2_with fail
                        generalize z5.alloc (.cells #[.int .i64 kg, .int .i64 kl, .int .i64 kr] 24) = z6 at *
                        generalize z5.heap.size = kb at *
                        clear H4 y5
                        have hm := H5.smem
                        obtain ⟨Ar, cr, hrow, hur⟩ := H5.swap.rowGet hf24
                        have hg8 : g8 < z6.heap.size := World.block_lt_of_cell? _ _ hrow
                        obtain ⟨_, hfl⟩ := frameW_take (n := 24) hWl hf24
                        have hFr : ∀ w', Chg [] z6 w' → Calls Try.prog 36 #[.pointer (some ⟨hp, 0, none⟩), .int .i64 f] w' fun e w'' => ∃ A c, e = .returned (.slice A 8 c) ∧ SlU w'' A 8 (frameW 24 W0 (f : Int)) ∧ Chg [] w' w'' := by
                          intro w' hc
                          have h1 := Frame_at hp hb 24 s.W (f : Int) w' (hm.chg hc (by simp) (by simp))
                          rw [hout f (by omega), hfl] at h1
                          exact h1.mono fun _ _ ⟨A, c, e, y, hu, _, _⟩ => ⟨A, c, e, hu, y⟩
                        have hSm : ∀ (A1 : Option Addr) (c1 : Nat) w', SlU w' A1 8 (frameW 24 W0 (f : Int)) → Chg [] z6 w' → Calls Try.prog 35 #[.slice A1 8 c1, .slice Ar 8 cr] w' fun e w'' => e = .returned (.bool true) ∧ Chg [] w' w'' := by
                          intro A1 c1 w' hu hc
                          have h1 := SameWords_any A1 Ar 8 8 c1 cr _ _ w' hu (hur.chg hc (by simp)) (by omega) (by omega)
                          rw [eqL_self] at h1
                          exact h1.mono fun _ _ ⟨e, qd, h2⟩ => ⟨e, by rw [h2]; exact (Chg.refl [] w').drewN qd⟩
                        clear hfl hm hur
                        have g1 : decide ((f : Int) < 6) = false := by simp; omega
                        have g2 : decide ((f : Int) ≥ 15) = true := by simp; omega
                        refine wp_region_noPanic ?_
                        refine wp_region_held_drew (S := (fun w' => Chg [] z6 w')) (by kernel_rfl) ?_ (fun hHeld => ?_)
                        · exact (Chg.refl [] z6).drew
                        (refine take_on 0 (some 83) (v := ?_) rfl rfl (by kernel_rfl) (by kernel_rfl) (by kernel_rfl) (fun _ _ _ h => h) (by rfl) (by assumption) ?_ ?_; rotate_left; · (intro w hSw; go_simp; (try with_reducible rfl)))
                        (try simp only [Act.put, List.setIfInBounds_toArray, List.set_cons_zero, List.set_cons_succ])
                        (refine take_on 1 (some 84) (v := ?_) rfl rfl (by kernel_rfl) (by kernel_rfl) (by kernel_rfl) (fun _ _ _ h => h) (by rfl) (by assumption) ?_ ?_; rotate_left; · (intro w hSw; go_simp; (try with_reducible rfl)))
                        (try simp only [Act.put, List.setIfInBounds_toArray, List.set_cons_zero, List.set_cons_succ])
                        (refine take_on 2 (some 85) (v := ?_) rfl rfl (by kernel_rfl) (by kernel_rfl) (by kernel_rfl) (fun _ _ _ h => h) (by rfl) (by assumption) ?_ ?_; rotate_left; · (intro w hSw; go_simp; (try with_reducible rfl)))
                        (try simp only [Act.put, List.setIfInBounds_toArray, List.set_cons_zero, List.set_cons_succ])
                        (refine take_on 3 (some 86) (v := ?_) rfl rfl (by kernel_rfl) (by kernel_rfl) (by kernel_rfl) (fun _ _ _ h => h) (by rfl) (by assumption) ?_ ?_; rotate_left; · (intro w hSw; go_simp; (try with_reducible rfl)))
                        (try simp only [Act.put, List.setIfInBounds_toArray, List.set_cons_zero, List.set_cons_succ])
                        (refine take_on 4 (some 87) (v := ?_) rfl rfl (by kernel_rfl) (by kernel_rfl) (by kernel_rfl) (fun _ _ _ h => h) (by rfl) (by assumption) ?_ ?_; rotate_left; · (intro w hSw; go_simp; (try with_reducible rfl)))
                        (try simp only [Act.put, List.setIfInBounds_toArray, List.set_cons_zero, List.set_cons_succ])
                        (refine take_on 5 (some 88) (v := ?_) rfl rfl (by kernel_rfl) (by kernel_rfl) (by kernel_rfl) (fun _ _ _ h => h) (by rfl) (by assumption) ?_ ?_; rotate_left; · (intro w hSw; go_simp; (try with_reducible rfl)))
                        (try simp only [Act.put, List.setIfInBounds_toArray, List.set_cons_zero, List.set_cons_succ])
                        (refine take_on 6 (some 89) (v := ?_) rfl rfl (by kernel_rfl) (by kernel_rfl) (by kernel_rfl) (fun _ _ _ h => h) (by rfl) (by assumption) ?_ ?_; rotate_left; · (intro w hSw; go_simp; (try with_reducible rfl)))
                        (try simp only [Act.put, List.setIfInBounds_toArray, List.set_cons_zero, List.set_cons_succ])
                        (refine take_on 7 (some 90) (v := ?_) rfl rfl (by kernel_rfl) (by kernel_rfl) (by kernel_rfl) (fun _ _ _ h => h) (by rfl) (by assumption) ?_ ?_; rotate_left; · (intro w hSw; go_simp; (try with_reducible rfl)))
                        (try simp only [Act.put, List.setIfInBounds_toArray, List.set_cons_zero, List.set_cons_succ])
                        (refine take_on 8 (some 91) (v := ?_) rfl rfl (by kernel_rfl) (by kernel_rfl) (by kernel_rfl) (fun _ _ _ h => h) (by rfl) (by assumption) ?_ ?_; rotate_left; · (intro w hSw; go_simp; (try with_reducible rfl)))
                        (try simp only [Act.put, List.setIfInBounds_toArray, List.set_cons_zero, List.set_cons_succ])
                        (refine take_on 10 (some 93) (v := ?_) rfl rfl (by kernel_rfl) (by kernel_rfl) (by kernel_rfl) (fun _ _ _ h => h) (by rfl) (by assumption) ?_ ?_; rotate_left; · (intro w hSw; go_simp; (try with_reducible rfl)))
                        (try simp only [Act.put, List.setIfInBounds_toArray, List.set_cons_zero, List.set_cons_succ])
                        (refine take_on 11 (some 94) (v := ?_) rfl rfl (by kernel_rfl) (by kernel_rfl) (by kernel_rfl) (fun _ _ _ h => h) (by rfl) (by assumption) ?_ ?_; rotate_left; · (intro w hSw; go_simp; (try with_reducible rfl)))
                        (try simp only [Act.put, List.setIfInBounds_toArray, List.set_cons_zero, List.set_cons_succ])
                        (refine take_on 12 (some 95) (v := ?_) rfl rfl (by kernel_rfl) (by kernel_rfl) (by kernel_rfl) (fun _ _ _ h => h) (by rfl) (by assumption) ?_ ?_; rotate_left; · (intro w hSw; (try dsimp only at hSw); have d0 := (hSw.cell (p := ⟨g8, f, none⟩) hg8 (by simp)).trans hrow; go_simp; (try with_reducible rfl)))
                        (try simp only [Act.put, List.setIfInBounds_toArray, List.set_cons_zero, List.set_cons_succ])
                        refine wpAnyH_ready (rs := [9]) (by kernel_rfl) (by simp) ?_; refine AllReadyH.cons (o := _) rfl (fun K hK => ?_) AllReadyH.nil
                        go_simp
                        go_at_call 36; refine (hFr _ hHeld).mono ?_; rintro e_0 w_0 ⟨A1, c1, rfl, hu1, y0⟩; first | exact hx_ | skip
                        refine hK.out _ _ (by (try dsimp only); exact hHeld.trans y0 (by simp)) (fun hHeld => ?_)
                        clear hK K
                        (try simp only [Act.put, List.setIfInBounds_toArray, List.set_cons_zero, List.set_cons_succ])
                        refine wpAnyH_ready (rs := [13]) (by kernel_rfl) (by simp) ?_; refine AllReadyH.cons (o := _) rfl (fun K hK => ?_) AllReadyH.nil
                        go_simp
                        go_at_call 35; refine (hSm A1 c1 _ hu1 hHeld).mono ?_; rintro e_1 w_1 ⟨rfl, y1⟩; first | exact hx_ | skip
                        refine hK.out _ _ (by (try dsimp only); exact hHeld.trans y1 (by simp)) (fun hHeld => ?_)
                        clear hK K
                        (try simp only [Act.put, List.setIfInBounds_toArray, List.set_cons_zero, List.set_cons_succ])
                        (refine take_on 14 (some 97) (v := ?_) rfl rfl (by kernel_rfl) (by kernel_rfl) (by kernel_rfl) (fun _ _ _ h => h) (by rfl) (by assumption) ?_ ?_; rotate_left; · (intro w hSw; go_simp; (try with_reducible rfl)))
                        (try simp only [Act.put, List.setIfInBounds_toArray, List.set_cons_zero, List.set_cons_succ])
                        (refine take_on 15 (some 98) (v := ?_) rfl rfl (by kernel_rfl) (by kernel_rfl) (by kernel_rfl) (fun _ _ _ h => h) (by rfl) (by assumption) ?_ ?_; rotate_left; · (intro w hSw; go_simp; (try with_reducible rfl)))
                        (try simp only [Act.put, List.setIfInBounds_toArray, List.set_cons_zero, List.set_cons_succ])
                        refine wpAnyH_done (by kernel_rfl) ?_ _
                        refine NoPanic.normal ?_
                        replace H5 := H5.new hHeld
                        go_wp2_with fail
                        go_roundw
                        case rel => exact ⟨f + 1, by omega, by go_num, H5⟩
                        case measure => simp [intOf]; omega
                      · go_wp2_with fail
                        refine (cK).mono ?_; rintro e z5 ⟨rfl, y5⟩
                        clear cK
                        have H5 := (H4.new y5).alloc #[.int .i64 kg, .int .i64 kl, .int .i64 kr] 24
                        replace H5 := H5.tail
                        go_wp2_with fail
                        generalize z5.alloc (.cells #[.int .i64 kg, .int .i64 kl, .int .i64 kr] 24) = z6 at *
                        generalize z5.heap.size = kb at *
                        clear H4 y5
                        have g1 : decide ((f : Int) < 6) = false := by simp; omega
                        have g2 : decide ((f : Int) ≥ 15) = false := by simp; omega
                        refine wp_region_noPanic ?_
                        refine wp_region_held_drew (S := (fun w' => Chg [] z6 w')) (by kernel_rfl) ?_ (fun hHeld => ?_)
                        · exact (Chg.refl [] z6).drew
                        (refine take_on 0 (some 83) (v := ?_) rfl rfl (by kernel_rfl) (by kernel_rfl) (by kernel_rfl) (fun _ _ _ h => h) (by rfl) (by assumption) ?_ ?_; rotate_left; · (intro w hSw; go_simp; (try with_reducible rfl)))
                        (try simp only [Act.put, List.setIfInBounds_toArray, List.set_cons_zero, List.set_cons_succ])
                        (refine take_on 1 (some 84) (v := ?_) rfl rfl (by kernel_rfl) (by kernel_rfl) (by kernel_rfl) (fun _ _ _ h => h) (by rfl) (by assumption) ?_ ?_; rotate_left; · (intro w hSw; go_simp; (try with_reducible rfl)))
                        (try simp only [Act.put, List.setIfInBounds_toArray, List.set_cons_zero, List.set_cons_succ])
                        (refine take_on 2 (some 85) (v := ?_) rfl rfl (by kernel_rfl) (by kernel_rfl) (by kernel_rfl) (fun _ _ _ h => h) (by rfl) (by assumption) ?_ ?_; rotate_left; · (intro w hSw; go_simp; (try with_reducible rfl)))
                        (try simp only [Act.put, List.setIfInBounds_toArray, List.set_cons_zero, List.set_cons_succ])
                        (refine take_on 3 (some 86) (v := ?_) rfl rfl (by kernel_rfl) (by kernel_rfl) (by kernel_rfl) (fun _ _ _ h => h) (by rfl) (by assumption) ?_ ?_; rotate_left; · (intro w hSw; go_simp; (try with_reducible rfl)))
                        (try simp only [Act.put, List.setIfInBounds_toArray, List.set_cons_zero, List.set_cons_succ])
                        (refine take_on 4 (some 87) (v := ?_) rfl rfl (by kernel_rfl) (by kernel_rfl) (by kernel_rfl) (fun _ _ _ h => h) (by rfl) (by assumption) ?_ ?_; rotate_left; · (intro w hSw; go_simp; (try with_reducible rfl)))
                        (try simp only [Act.put, List.setIfInBounds_toArray, List.set_cons_zero, List.set_cons_succ])
                        (refine take_on 5 (some 88) (v := ?_) rfl rfl (by kernel_rfl) (by kernel_rfl) (by kernel_rfl) (fun _ _ _ h => h) (by rfl) (by assumption) ?_ ?_; rotate_left; · (intro w hSw; go_simp; (try with_reducible rfl)))
                        (try simp only [Act.put, List.setIfInBounds_toArray, List.set_cons_zero, List.set_cons_succ])
                        (refine take_on 6 (some 89) (v := ?_) rfl rfl (by kernel_rfl) (by kernel_rfl) (by kernel_rfl) (fun _ _ _ h => h) (by rfl) (by assumption) ?_ ?_; rotate_left; · (intro w hSw; go_simp; (try with_reducible rfl)))
                        (try simp only [Act.put, List.setIfInBounds_toArray, List.set_cons_zero, List.set_cons_succ])
                        (refine take_off 7 (some 90) rfl rfl (by kernel_rfl) (by kernel_rfl) (by kernel_rfl) (fun _ _ _ h => h) (by rfl) (by assumption) ?_)
                        (try simp only [Act.put, List.setIfInBounds_toArray, List.set_cons_zero, List.set_cons_succ])
                        (refine take_off 8 (some 91) rfl rfl (by kernel_rfl) (by kernel_rfl) (by kernel_rfl) (fun _ _ _ h => h) (by rfl) (by assumption) ?_)
                        (try simp only [Act.put, List.setIfInBounds_toArray, List.set_cons_zero, List.set_cons_succ])
                        (refine take_off 9 (some 92) rfl rfl (by kernel_rfl) (by kernel_rfl) (by kernel_rfl) (fun _ _ _ h => h) (by rfl) (by assumption) ?_)
                        (try simp only [Act.put, List.setIfInBounds_toArray, List.set_cons_zero, List.set_cons_succ])
                        (refine take_off 10 (some 93) rfl rfl (by kernel_rfl) (by kernel_rfl) (by kernel_rfl) (fun _ _ _ h => h) (by rfl) (by assumption) ?_)
                        (try simp only [Act.put, List.setIfInBounds_toArray, List.set_cons_zero, List.set_cons_succ])
                        (refine take_off 11 (some 94) rfl rfl (by kernel_rfl) (by kernel_rfl) (by kernel_rfl) (fun _ _ _ h => h) (by rfl) (by assumption) ?_)
                        (try simp only [Act.put, List.setIfInBounds_toArray, List.set_cons_zero, List.set_cons_succ])
                        (refine take_off 12 (some 95) rfl rfl (by kernel_rfl) (by kernel_rfl) (by kernel_rfl) (fun _ _ _ h => h) (by rfl) (by assumption) ?_)
                        (try simp only [Act.put, List.setIfInBounds_toArray, List.set_cons_zero, List.set_cons_succ])
                        (refine take_off 13 (some 96) rfl rfl (by kernel_rfl) (by kernel_rfl) (by kernel_rfl) (fun _ _ _ h => h) (by rfl) (by assumption) ?_)
                        (try simp only [Act.put, List.setIfInBounds_toArray, List.set_cons_zero, List.set_cons_succ])
                        (refine take_off 14 (some 97) rfl rfl (by kernel_rfl) (by kernel_rfl) (by kernel_rfl) (fun _ _ _ h => h) (by rfl) (by assumption) ?_)
                        (try simp only [Act.put, List.setIfInBounds_toArray, List.set_cons_zero, List.set_cons_succ])
                        (refine take_on 15 (some 98) (v := ?_) rfl rfl (by kernel_rfl) (by kernel_rfl) (by kernel_rfl) (fun _ _ _ h => h) (by rfl) (by assumption) ?_ ?_; rotate_left; · (intro w hSw; go_simp; (try with_reducible rfl)))
                        (try simp only [Act.put, List.setIfInBounds_toArray, List.set_cons_zero, List.set_cons_succ])
                        refine wpAnyH_done (by kernel_rfl) ?_ _
                        refine NoPanic.normal ?_
                        replace H5 := H5.new hHeld
                        go_wp2_with fail
                        go_roundw
                        case rel => exact ⟨f + 1, by omega, by go_num, H5⟩
                        case measure => simp [intOf]; omega
                  | some qf =>
                    rw [hpg] at cK
                    simp only [Option.isSome_some] at cK
                    obtain ⟨hqm, hqf⟩ := hm1 qf hpg
                    have hE := hey qf hqm
                    rw [hqf] at hE
                    clear hm1 hpg hqf hqm
                    go_wp2_with fail
                    refine (cK).mono ?_; rintro e z5 ⟨rfl, y5⟩
                    clear cK
                    have H5 := (H4.new y5).alloc #[.int .i64 kg, .int .i64 kl, .int .i64 kr] 24
                    replace H5 := H5.tail
                    go_wp2_with fail
                    generalize z5.alloc (.cells #[.int .i64 kg, .int .i64 kl, .int .i64 kr] 24) = z6 at *
                    generalize z5.heap.size = kb at *
                    clear H4 y5
                    go_loopw [15] (fun s15 wr => ∃ i : Nat, i ≤ 8 ∧ s15 = .int .i64 i ∧ SepC w wr (stT q hp hb 24 6 9 s :: rowsT g8 62 (fun j => frameW 24 W0 (j : Int)) 24 :: [])) (fun s15 _ => 8 - (intOf s15).toNat)
                    case atStart => exact ⟨0, by omega, rfl, H5⟩
                    case round =>
                      obtain ⟨i, hi, rfl, H6⟩ := hrel
                      clear H5
                      by_cases hi8 : i < 8
                      · have hiz : (i : Int) < 8 := by omega
                        obtain ⟨x, vv, hs, hg, hw, hv, hor⟩ := hE i hi8
                        have cG := Get_at hp hb 24 s.W (f : Int) (i : Int) wr H6.smem
                        rw [hg, hw] at cG
                        have cS := H6.sSlot (f : Int) (i : Int) (by omega)
                        rw [slotV_at hs, hs] at cS
                        have hGe := fun w' => RGet_any vv w' hv
                        clear hs hg hw hv
                        rcases hor with hz | hz
                        · obtain ⟨rfl, rfl⟩ := hz
                          simp only [Option.isSome_some, Slt.cl, Slt.no] at cS
                          rw [getE_zero] at hGe
                          simp only [Ent.cs] at hGe
                          have hne := run_neE (⟨false, false, false, false, false, false, false, false, 0⟩ : Ent) (⟨false, false, false, false, false, false, false, false, 0⟩ : Ent)
                          rw [eqb_self] at hne
                          simp only [Ent.cs, Bool.not_true] at hne
                          go_wp2_with fail
                          refine (cG).mono ?_; rintro e z7 ⟨rfl, rfl⟩
                          clear cG
                          go_wp2_with fail
                          refine (cS).mono ?_; rintro e z12 ⟨rfl, y12⟩
                          clear cS
                          have H12 := (H6.new y12).alloc #[.int .i64 0, .int .i64 0, .bool false, .bool false, .bool false] 45
                          clear H6 y12
                          go_wp2_with fail
                          refine (hGe _).mono ?_; rintro e z14 ⟨rfl, y14⟩
                          generalize z12.alloc (.cells #[.int .i64 0, .int .i64 0, .bool false, .bool false, .bool false] 45) = z13 at *
                          generalize z12.heap.size = sb at *
                          have H14 := (H12.new y14).alloc #[.bool false, .bool false, .bool false, .bool false, .bool false, .bool false, .bool false, .bool false, .int .i64 0] 66
                          clear H12 y14 hGe
                          go_upto_region 34 with fail
                          generalize z14.alloc (.cells #[.bool false, .bool false, .bool false, .bool false, .bool false, .bool false, .bool false, .bool false, .int .i64 0] 66) = z15 at *
                          generalize z14.heap.size = eb at *
                          go_upto_region 35 with fail
                          have H16 := H14.alloc #[.bool false, .bool false, .bool false, .bool false, .bool false, .bool false, .bool false, .bool false, .int .i64 0] 66
                          clear H14
                          generalize z15.alloc (.cells #[.bool false, .bool false, .bool false, .bool false, .bool false, .bool false, .bool false, .bool false, .int .i64 0] 66) = z16 at *
                          generalize z15.heap.size = nb at *
                          have b0 := (H16.pick 0 rfl).blk; have b1 := (H16.pick 1 rfl).blk; have b2 := (H16.pick 2 rfl).blk
                          have n0 := b0.cell 0; have e0 := b1.cell 0
                          have n1 := b0.cell 1; have e1 := b1.cell 1
                          have n2 := b0.cell 2; have e2 := b1.cell 2
                          have n3 := b0.cell 3; have e3 := b1.cell 3
                          have n4 := b0.cell 4; have e4 := b1.cell 4
                          have n5 := b0.cell 5; have e5 := b1.cell 5
                          have n6 := b0.cell 6; have e6 := b1.cell 6
                          have n7 := b0.cell 7; have e7 := b1.cell 7
                          have n8 := b0.cell 8; have e8 := b1.cell 8
                          have s0 := b2.cell 0
                          have s1 := b2.cell 1
                          have s2 := b2.cell 2
                          have s3 := b2.cell 3
                          have s4 := b2.cell 4
                          have fr0 := b0.frozen 0
                          have fr1 := b0.frozen 1
                          have fr2 := b0.frozen 2
                          have fr3 := b0.frozen 3
                          have fr4 := b0.frozen 4
                          have fr5 := b0.frozen 5
                          have fr6 := b0.frozen 6
                          have fr7 := b0.frozen 7
                          have fr8 := b0.frozen 8
                          simp only [List.getElem?_toArray, List.getElem?_cons_zero, List.getElem?_cons_succ] at n0 n1 n2 n3 n4 n5 n6 n7 n8 e0 e1 e2 e3 e4 e5 e6 e7 e8 s0 s1 s2 s3 s4
                          replace H16 := H16.tail.tail.tail
                          go_wp2_with fail
                          go_roundw
                          case rel => exact ⟨i + 1, by omega, by go_num, H16⟩
                          case measure => simp [intOf]; omega
                        · obtain ⟨hk, hv0, fe, hge, hto⟩ := hz
                          obtain ⟨kd, t_, ⟨rw_, ru, rx⟩⟩ := x
                          simp only at hk hto
                          simp only [Option.isSome_some, Slt.cl] at cS
                          rw [hge] at hGe
                          have hne := run_neE (entS ⟨kd, t_, ⟨rw_, ru, rx⟩⟩ fe) (entS ⟨kd, t_, ⟨rw_, ru, rx⟩⟩ fe)
                          rw [eqb_self] at hne
                          simp only [Ent.cs, entS, Bool.not_true] at hne hGe
                          have hk0 : (kd != 0) = true := by simp; omega
                          have hk00 : (kd == 0) = false := by simp; omega
                          clear hge hv0
                          go_wp2_with fail
                          refine (cG).mono ?_; rintro e z7 ⟨rfl, rfl⟩
                          clear cG
                          go_wp2_with fail
                          refine (cS).mono ?_; rintro e z12 ⟨rfl, y12⟩
                          clear cS
                          have H12 := (H6.new y12).alloc #[.int .i64 kd, .int .i64 t_, .bool rw_, .bool ru, .bool rx] 45
                          clear H6 y12
                          go_wp2_with fail
                          refine (hGe _).mono ?_; rintro e z14 ⟨rfl, y14⟩
                          generalize z12.alloc (.cells #[.int .i64 kd, .int .i64 t_, .bool rw_, .bool ru, .bool rx] 45) = z13 at *
                          generalize z12.heap.size = sb at *
                          have H14 := (H12.new y14).alloc #[.bool true, .bool rw_, .bool ru, .bool false, .bool false, .bool false, .bool !rx, .bool false, .int .i64 fe] 66
                          clear H12 y14 hGe
                          go_upto_region 34 with fail
                          generalize z14.alloc (.cells #[.bool true, .bool rw_, .bool ru, .bool false, .bool false, .bool false, .bool !rx, .bool false, .int .i64 fe] 66) = z15 at *
                          generalize z14.heap.size = eb at *
                          go_upto_region 35 with fail
                          have H16 := H14.alloc #[.bool false, .bool false, .bool false, .bool false, .bool false, .bool false, .bool false, .bool false, .int .i64 0] 66
                          clear H14
                          generalize z15.alloc (.cells #[.bool false, .bool false, .bool false, .bool false, .bool false, .bool false, .bool false, .bool false, .int .i64 0] 66) = z16 at *
                          generalize z15.heap.size = nb at *
                          have b0 := (H16.pick 0 rfl).blk; have b1 := (H16.pick 1 rfl).blk; have b2 := (H16.pick 2 rfl).blk
                          have n0 := b0.cell 0; have e0 := b1.cell 0
                          have n1 := b0.cell 1; have e1 := b1.cell 1
                          have n2 := b0.cell 2; have e2 := b1.cell 2
                          have n3 := b0.cell 3; have e3 := b1.cell 3
                          have n4 := b0.cell 4; have e4 := b1.cell 4
                          have n5 := b0.cell 5; have e5 := b1.cell 5
                          have n6 := b0.cell 6; have e6 := b1.cell 6
                          have n7 := b0.cell 7; have e7 := b1.cell 7
                          have n8 := b0.cell 8; have e8 := b1.cell 8
                          have s0 := b2.cell 0
                          have s1 := b2.cell 1
                          have s2 := b2.cell 2
                          have s3 := b2.cell 3
                          have s4 := b2.cell 4
                          have fr0 := b0.frozen 0
                          have fr1 := b0.frozen 1
                          have fr2 := b0.frozen 2
                          have fr3 := b0.frozen 3
                          have fr4 := b0.frozen 4
                          have fr5 := b0.frozen 5
                          have fr6 := b0.frozen 6
                          have fr7 := b0.frozen 7
                          have fr8 := b0.frozen 8
                          simp only [List.getElem?_toArray, List.getElem?_cons_zero, List.getElem?_cons_succ] at n0 n1 n2 n3 n4 n5 n6 n7 n8 e0 e1 e2 e3 e4 e5 e6 e7 e8 s0 s1 s2 s3 s4
                          go_upto_region 37 with fail
                          clear b0 b1 b2 n0 n1 n2 n3 n4 n5 n6 n7 n8 e0 e1 e2 e3 e4 e5 e6 e7 e8 s0 s1 s2 s3 s4 fr0 fr1 fr2 fr3 fr4 fr5 fr6 fr7 fr8
                          replace H16 := H16.set9 (.bool true) (.bool rw_) (.bool ru) (.bool false) (.bool false) (.bool false) (.bool !rx) (.bool false) (.int .i64 fe)
                          generalize (((((((((z16.setCell ⟨nb, 0, none⟩ (.bool true)).setCell ⟨nb, 1, none⟩ (.bool rw_)).setCell ⟨nb, 2, none⟩ (.bool ru)).setCell ⟨nb, 3, none⟩ (.bool false)).setCell ⟨nb, 4, none⟩ (.bool false)).setCell ⟨nb, 5, none⟩ (.bool false)).setCell ⟨nb, 6, none⟩ (.bool !rx)).setCell ⟨nb, 7, none⟩ (.bool false)).setCell ⟨nb, 8, none⟩ (.int .i64 fe)) = z17 at *
                          have b0 := (H16.pick 0 rfl).blk; have b1 := (H16.pick 1 rfl).blk; have b2 := (H16.pick 2 rfl).blk
                          have n0 := b0.cell 0; have e0 := b1.cell 0
                          have n1 := b0.cell 1; have e1 := b1.cell 1
                          have n2 := b0.cell 2; have e2 := b1.cell 2
                          have n3 := b0.cell 3; have e3 := b1.cell 3
                          have n4 := b0.cell 4; have e4 := b1.cell 4
                          have n5 := b0.cell 5; have e5 := b1.cell 5
                          have n6 := b0.cell 6; have e6 := b1.cell 6
                          have n7 := b0.cell 7; have e7 := b1.cell 7
                          have n8 := b0.cell 8; have e8 := b1.cell 8
                          have s0 := b2.cell 0
                          have s1 := b2.cell 1
                          have s2 := b2.cell 2
                          have s3 := b2.cell 3
                          have s4 := b2.cell 4
                          have fr0 := b0.frozen 0
                          have fr1 := b0.frozen 1
                          have fr2 := b0.frozen 2
                          have fr3 := b0.frozen 3
                          have fr4 := b0.frozen 4
                          have fr5 := b0.frozen 5
                          have fr6 := b0.frozen 6
                          have fr7 := b0.frozen 7
                          have fr8 := b0.frozen 8
                          simp only [List.getElem?_toArray, List.getElem?_cons_zero, List.getElem?_cons_succ] at n0 n1 n2 n3 n4 n5 n6 n7 n8 e0 e1 e2 e3 e4 e5 e6 e7 e8 s0 s1 s2 s3 s4
                          by_cases h1 : kd = 1
                          · subst h1
                            obtain rfl := hto rfl
                            replace H16 := H16.tail.tail.tail
                            go_wp2_with fail
                            go_roundw
                            case rel => exact ⟨i + 1, by omega, by go_num, H16⟩
                            case measure => simp [intOf]; omega
                          · have hk1 : (kd == 1) = false := by simpa using h1
                            replace H16 := H16.tail.tail.tail
                            go_wp2_with fail
                            go_roundw
                            case rel => exact ⟨i + 1, by omega, by go_num, H16⟩
                            case measure => simp [intOf]; omega
                      · obtain rfl : i = 8 := by omega
                        have hiz : ¬ (8 : Int) < 8 := by omega
                        go_wp2_with fail
                        go_roundw
                        case rel => exact ⟨f + 1, by omega, by go_num, H6⟩
                        case measure => simp [intOf]; omega
                · obtain rfl : f = 24 := by omega
                  have hfz : ¬ (24 : Int) < 24 := by omega
                  go_wp2_with fail
                  go_ret
                  exact ⟨rfl, H4.1⟩

end Go.Proofs.Ytpmfooeifhhfkaa
