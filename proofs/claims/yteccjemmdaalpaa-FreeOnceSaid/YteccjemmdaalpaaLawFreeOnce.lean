/-
  FreeOnce: the walk.
-/
import Derived.Test.YteccjemmdaalpaaFreeArg
namespace Go.Proofs.Yteccjemmdaalpaa
open Go.RowKit Go.Maps

theorem zero200 (w : World) : (zeroValue 35).run Try.prog w = .ok (.agg (bools 200 fun _ => false)) w := by kernel_rfl

/-- is f held? -/
def heldB (a n : Nat) (L : List Int) (f : Int) : Bool := decide ((a : Int) ≤ f ∧ f < a + n) && !L.contains f
theorem heldB_give (a n : Nat) (L : List Int) (f : Int) : heldB a n L f = giveB a n L f := rfl
theorem heldB_full (a n : Nat) (f : Int) : heldB a n (dnk a n) f = false := by
  unfold heldB
  by_cases h : (a : Int) ≤ f ∧ f < a + n
  · rw [List.contains_iff_mem.2 ((mem_dnk a f n).2 h)]; simp
  · rw [decide_eq_false h]; rfl
theorem heldB_app (a n : Nat) (L : List Int) (x y : Int) : heldB a n (L ++ [x]) y = if y = x then false else heldB a n L y := by
  unfold heldB
  by_cases h : y = x
  · subst h; simp
  · simp [h]
theorem heldB_drop (a n : Nat) (L : List Int) (x y : Int) (hx : (a : Int) ≤ x ∧ x < a + n) (hn : x ∉ L) : heldB a n L y = if y = x then true else heldB a n (L ++ [x]) y := by
  rw [heldB_app]
  by_cases h : y = x
  · subst h; simp [heldB, hx, hn]
  · simp [h]

theorem FLeft_val (S : List Nat) (p a n : Nat) (L : List Int) (v : Int) (w : World) (h : FAt w S p a n L) (hv : v ≤ L.length ∧ L.length ≤ v) :
    Calls Try.prog 16 #[.pointer (some ⟨p, 0, none⟩)] w fun e w' => e = .returned (.int .i64 v) ∧ Chg [] w w' :=
  (FLeft_is S p a n L w h).mono fun _ _ ⟨he, hc⟩ => ⟨he.trans (ret_int (by omega)), hc⟩

set_option maxRecDepth 100000 in
set_option maxHeartbeats 8000000 in
theorem FreeOnce_walk (first many : Int) (A : Option Addr) (len c : Nat) (w : World) (h1 : 0 ≤ first ∧ first ≤ 255) (h2 : 0 ≤ many ∧ many ≤ 255) (hl : SlOp w A len) :
    Calls Try.prog 4 #[.int .u8 first, .int .u8 many, .slice A len c] w fun e w' => e = .returned (.bool true) ∧ Chg [] w w' := by
  obtain ⟨a, ha⟩ := Int.eq_ofNat_of_zero_le (show 0 ≤ first % 100 by omega)
  obtain ⟨n, hn⟩ := Int.eq_ofNat_of_zero_le (show 0 ≤ many % 100 by omega)
  have ha1 : a < 100 := by omega
  have hn1 : n < 100 := by omega
  have hlen := hl.le
  by_cases hbig : 600 < len
  · go_enter Try.func4, Try.ntmps4
    go_wp2_with fail
    refine (Fhead_any _).mono ?_; rintro e w1 ⟨rfl, hc1⟩
    go_wp2_with fail
    refine (FNew_at a n _ (by omega)).mono ?_; rintro e w2 ⟨p, S, rfl, hc2, hf2, hS⟩
    go_wp2_with fail
    go_ret
    exact ⟨rfl, hc1.trans hc2 (by simp)⟩
  · have hz := zero200
    go_enter Try.func4, Try.ntmps4
    go_wp2_with fail
    refine (Fhead_any _).mono ?_; rintro e w1 ⟨rfl, hc1⟩
    go_wp2_with fail
    refine (FNew_at a n _ (by omega)).mono ?_; rintro e w2 ⟨p, S, rfl, hc2, hf2, hS2⟩
    have hc := hc1.trans hc2 (by simp)
    have hS : ∀ i ∈ S, w.heap.size ≤ i := fun i hi => Nat.le_trans hc1.size (hS2 i hi)
    clear hc1 hc2 hS2
    go_wp2_with fail
    have hcs : Chg [] w2 (w2.alloc (.cells (bools 200 fun _ => false) 35)) := (Chg.refl _ _).alloc _
    have hbs := Blk.new w2 35 (bools 200 fun _ => false)
    have hfs := hf2.self hcs
    have hcw := hc.trans hcs (by simp)
    have hzS : ∀ i ∈ S, i ≠ w2.heap.size := fun i hi => Nat.ne_of_lt (hf2.lt i hi)
    have hzw := hc.size
    clear hc hf2 hcs hz
    generalize w2.alloc (.cells (bools 200 fun _ => false) 35) = ws at *
    generalize w2.heap.size = z at *
    go_loopw [12, 13] (fun o i w' => ∃ (k q : Nat) (S : List Nat) (L : List Int), k ≤ len ∧ i = .int .i64 k ∧ o = .int .i64 q ∧ (q + L.length ≤ n ∧ n ≤ q + L.length) ∧ Chg [] w w' ∧ FAt w' S p a n L ∧ Blk w' z 35 (bools 200 (heldB a n L)) ∧ (∀ i ∈ S, w.heap.size ≤ i) ∧ (∀ i ∈ S, i ≠ z)) (fun _ i _ => len - (intOf i).toNat)
    case atStart => exact ⟨0, 0, S, _, by omega, rfl, rfl, by rw [dnk_len]; omega, hcw, hfs, by rw [bools_congr 200 (heldB a n (dnk a n)) (fun _ => false) (fun j _ => heldB_full a n j)]; exact hbs, hS, hzS⟩
    case round =>
      clear hcw hfs hbs hS hzS
      obtain ⟨k, q, S, L, hk, rfl, rfl, hq, hck, hfk, hbk, hS, hzS⟩ := hrel
      by_cases hlt : k < len
      · obtain ⟨ob, off, rfl, hob, g, y, ho0⟩ := hl.get hlt
        have hop := ho0.chg hck hob
        have c0 := hop.c0; have c1 := hop.c1; have hwf := hop.wf
        clear hop
        cases g with
        | true =>
          by_cases hneg : y < 0
          · have hg : giveB a n L y = false := by
              unfold giveB; rw [decide_eq_false (show ¬ ((a : Int) ≤ y ∧ y < a + n) by omega)]; rfl
            have HG := Lib.hid hg; clear hg
            go_wp2_with fail
            refine (FGive_not S p a n L _ _ hfk hwf HG.out).mono ?_; rintro e w4 ⟨rfl, S4, hc5, hf5, hG5⟩
            have hc6 := hck.trans hc5 (fun i hi hm => absurd (hS i hm) (by omega))
            have hb6 := hc5.blk hbk (fun h => hzS z h rfl)
            have hS4 := grew_base hG5 hck.size hS
            have hzl := hbk.lt
            have hz4 : ∀ i ∈ S4, i ≠ z := fun i hi => (hG5 i hi).elim (hzS i) (fun h => by omega)
            clear hck hfk hbk hS hzS hc5 hG5 c0 c1
            go_wp2_with fail
            refine (FLeft_val S4 p a n L ((n : Int) - q) _ hf5 (by omega)).mono ?_; rintro e w5 ⟨rfl, hc7⟩
            have hf7 := hf5.self hc7; have hc8 := hc6.trans hc7 (by simp); have hb7 := hc7.blk hb6 (by simp)
            clear hf5 hc7 hc6 hb6
            go_wp2_with fail
            go_roundw
            case rel => exact ⟨k + 1, q, S4, L, by omega, by go_num, rfl, hq, hc8, hf7, hb7, hS4, hz4⟩
            case measure => simp [intOf]; omega
          · by_cases hbig2 : 200 ≤ y
            · have hg : giveB a n L y = false := by
                unfold giveB; rw [decide_eq_false (show ¬ ((a : Int) ≤ y ∧ y < a + n) by omega)]; rfl
              have HG := Lib.hid hg; clear hg
              go_wp2_with fail
              refine (FGive_not S p a n L _ _ hfk hwf HG.out).mono ?_; rintro e w4 ⟨rfl, S4, hc5, hf5, hG5⟩
              have hc6 := hck.trans hc5 (fun i hi hm => absurd (hS i hm) (by omega))
              have hb6 := hc5.blk hbk (fun h => hzS z h rfl)
              have hS4 := grew_base hG5 hck.size hS
              have hzl := hbk.lt
              have hz4 : ∀ i ∈ S4, i ≠ z := fun i hi => (hG5 i hi).elim (hzS i) (fun h => by omega)
              clear hck hfk hbk hS hzS hc5 hG5 c0 c1
              go_wp2_with fail
              refine (FLeft_val S4 p a n L ((n : Int) - q) _ hf5 (by omega)).mono ?_; rintro e w5 ⟨rfl, hc7⟩
              have hf7 := hf5.self hc7; have hc8 := hc6.trans hc7 (by simp); have hb7 := hc7.blk hb6 (by simp)
              clear hf5 hc7 hc6 hb6
              go_wp2_with fail
              go_roundw
              case rel => exact ⟨k + 1, q, S4, L, by omega, by go_num, rfl, hq, hc8, hf7, hb7, hS4, hz4⟩
              case measure => simp [intOf]; omega
            · obtain ⟨j, rfl⟩ := Int.eq_ofNat_of_zero_le (show 0 ≤ y by omega)
              have hj : j < 200 := by omega
              have d := hbk.cell j
              rw [bools_get 200 _ j hj] at d
              have hgv : heldB a n L j = giveB a n L j := rfl
              cases hg : giveB a n L j with
              | true =>
                rw [hgv, hg] at d
                have HG := Lib.hid hg; clear hg hgv
                go_wp2_with fail
                refine (FGive_is S p a n L j _ hfk hwf HG.out).mono ?_; rintro e w4 ⟨rfl, S4, hc5, hf5, hG5⟩
                have hc6 := hck.trans hc5 (fun i hi hm => absurd (hS i hm) (by omega))
                have hb6 := hc5.blk hbk (fun h => hzS z h rfl)
                have hS4 := grew_base hG5 hck.size hS
                have hzl := hbk.lt
                have hz4 : ∀ i ∈ S4, i ≠ z := fun i hi => (hG5 i hi).elim (hzS i) (fun h => by omega)
                have hln := hf5.len_le
                rw [List.length_append, List.length_singleton] at hln
                have c1' := (ho0.chg hc6 hob).c1
                have d6 := hb6.cell j
                rw [bools_get 200 _ j hj] at d6
                have fz6 := hb6.frozen j
                have hobz : ob ≠ z := by omega
                clear hck hfk hbk hS hzS hc5 hG5 c0 c1 d
                obtain ⟨q, rfl⟩ : ∃ q', q = q' + 1 := ⟨q - 1, by omega⟩
                go_wp2_with fail
                have hcz : Chg [z] w4 (w4.setCell ⟨z, j, none⟩ (.bool false)) := (Chg.refl _ _).setCell (by simp) _
                have hf6 := hf5.chg hcz (by simpa using hz4)
                have hc7 := hc6.trans hcz (by intro i hi hm; simp at hm; omega)
                have hb7 : Blk (w4.setCell ⟨z, j, none⟩ (.bool false)) z 35 (bools 200 (heldB a n (L ++ [(j : Int)]))) := by
                  rw [bools_congr 200 (heldB a n (L ++ [(j : Int)])) (fun y => if y = (j : Int) then false else heldB a n L y) (fun y _ => heldB_app a n L j y), ← bools_set]
                  exact hb6.set_ j _
                clear hcz hf5 hc6 hb6
                generalize w4.setCell ⟨z, j, none⟩ (.bool false) = w6 at *
                refine (FLeft_val S4 p a n _ ((n : Int) - q) _ hf6 (by rw [List.length_append, List.length_singleton]; omega)).mono ?_; rintro e w5 ⟨rfl, hc8⟩
                have hf9 := hf6.self hc8; have hc9 := hc7.trans hc8 (by simp); have hb9 := hc8.blk hb7 (by simp)
                clear hf6 hc7 hb7 hc8
                go_wp2_with fail
                go_roundw
                case rel => exact ⟨k + 1, q, S4, _, by omega, by go_num, by go_num, by rw [List.length_append, List.length_singleton]; omega, hc9, hf9, hb9, hS4, hz4⟩
                case measure => simp [intOf]; omega
              | false =>
                rw [hgv, hg] at d
                have HG := Lib.hid hg; clear hg hgv
                go_wp2_with fail
                refine (FGive_not S p a n L _ _ hfk hwf HG.out).mono ?_; rintro e w4 ⟨rfl, S4, hc5, hf5, hG5⟩
                have hc6 := hck.trans hc5 (fun i hi hm => absurd (hS i hm) (by omega))
                have hb6 := hc5.blk hbk (fun h => hzS z h rfl)
                have hS4 := grew_base hG5 hck.size hS
                have hzl := hbk.lt
                have hz4 : ∀ i ∈ S4, i ≠ z := fun i hi => (hG5 i hi).elim (hzS i) (fun h => by omega)
                clear hck hfk hbk hS hzS hc5 hG5 c0 c1
                go_wp2_with fail
                refine (FLeft_val S4 p a n L ((n : Int) - q) _ hf5 (by omega)).mono ?_; rintro e w5 ⟨rfl, hc7⟩
                have hf7 := hf5.self hc7; have hc8 := hc6.trans hc7 (by simp); have hb7 := hc7.blk hb6 (by simp)
                clear hf5 hc7 hc6 hb6
                go_wp2_with fail
                go_roundw
                case rel => exact ⟨k + 1, q, S4, L, by omega, by go_num, rfl, hq, hc8, hf7, hb7, hS4, hz4⟩
                case measure => simp [intOf]; omega
        | false =>
          have hnd := hfk.nodup
          have hmem := hfk.mem
          rcases List.eq_nil_or_concat L with rfl | ⟨M, f, rfl⟩
          · have hqn : ¬ ((q : Int) < n) := by simp at hq; omega
            clear hnd hmem
            go_wp2_with fail
            refine (FTake_none S p a n _ hfk).mono ?_; rintro e w4 ⟨rfl, hc5, hf5⟩
            have hc6 := hck.trans hc5 (fun i hi hm => absurd (hS i hm) (by omega))
            have hb6 := hc5.blk hbk (fun h => hzS z h rfl)
            clear hck hfk hbk hc5 c0 c1
            go_wp2_with fail
            refine (FLeft_val S p a n _ ((n : Int) - q) _ hf5 (by simp at hq ⊢; omega)).mono ?_; rintro e w5 ⟨rfl, hc7⟩
            have hf7 := hf5.self hc7; have hc8 := hc6.trans hc7 (by simp); have hb7 := hc7.blk hb6 (by simp)
            clear hf5 hc7 hc6 hb6
            go_wp2_with fail
            go_roundw
            case rel => exact ⟨k + 1, q, S, _, by omega, by go_num, rfl, hq, hc8, hf7, hb7, hS, hzS⟩
            case measure => simp [intOf]; omega
          · rw [List.concat_eq_append] at *
            rw [List.length_append, List.length_singleton] at hq
            have hqn : (q : Int) < n := by omega
            have hfm := hmem f (by simp)
            have hfM : f ∉ M := by rw [List.nodup_append] at hnd; exact fun hm => hnd.2.2 f hm f (by simp) rfl
            obtain ⟨j, rfl⟩ := Int.eq_ofNat_of_zero_le (show 0 ≤ f by omega)
            have hj : j < 200 := by omega
            have hj1 : a ≤ j ∧ j < a + n := by omega
            have hh : heldB a n (M ++ [(j : Int)]) j = false := by rw [heldB_app]; simp
            have HD := Lib.hid (fun y => heldB_drop a n M j y (by omega) hfM)
            clear hnd hmem hfM
            go_wp2_with fail
            refine (FTake_is S p a n _ _ _ hfk).mono ?_; rintro e w4 ⟨rfl, hc5, hf5⟩
            have hc6 := hck.trans hc5 (fun i hi hm => absurd (hS i hm) (by omega))
            have hb6 := hc5.blk hbk (fun h => hzS z h rfl)
            have d6 := hb6.cell j
            rw [bools_get 200 _ j hj, hh] at d6
            have fz6 := hb6.frozen j
            clear hck hfk hbk hc5 c0 c1 hh
            go_wp2_with fail
            have hcz : Chg [z] w4 (w4.setCell ⟨z, j, none⟩ (.bool true)) := (Chg.refl _ _).setCell (by simp) _
            have hf6 := hf5.chg hcz (by simpa using hzS)
            have hc7 := hc6.trans hcz (by intro i hi hm; simp at hm; omega)
            have hb7 : Blk (w4.setCell ⟨z, j, none⟩ (.bool true)) z 35 (bools 200 (heldB a n M)) := by
              rw [bools_congr 200 (heldB a n M) (fun y => if y = (j : Int) then true else heldB a n (M ++ [(j : Int)]) y) (fun y _ => HD.out y), ← bools_set]
              exact hb6.set_ j _
            clear hcz hf5 hc6 hb6
            generalize w4.setCell ⟨z, j, none⟩ (.bool true) = w6 at *
            refine (FLeft_val S p a n _ ((n : Int) - (q + 1)) _ hf6 (by omega)).mono ?_; rintro e w5 ⟨rfl, hc8⟩
            have hf9 := hf6.self hc8; have hc9 := hc7.trans hc8 (by simp); have hb9 := hc8.blk hb7 (by simp)
            clear hf6 hc7 hb7 hc8
            go_wp2_with fail
            go_roundw
            case rel => exact ⟨k + 1, q + 1, S, _, by omega, by go_num, by go_num, by omega, hc9, hf9, hb9, hS, hzS⟩
            case measure => simp [intOf]; omega
      · go_wp2_with fail
        go_loopw [17] (fun i w' => ∃ k : Nat, k ≤ 200 ∧ i = .int .i64 k ∧ Chg [] w w' ∧ FAt w' S p a n L ∧ Blk w' z 35 (bools 200 (heldB a n L))) (fun i _ => 200 - (intOf i).toNat)
        case atStart => exact ⟨0, by omega, rfl, hck, hfk, hbk⟩
        case round =>
          have hmem := hfk.mem
          clear hck hfk hbk hk hlt
          obtain ⟨k, hk, rfl, hck, hfk, hbk⟩ := hrel
          by_cases hlt : k < 200
          · have d := hbk.cell k
            rw [bools_get 200 _ k hlt] at d
            by_cases hr : a ≤ k ∧ k < a + n
            · have hr1 : (a : Int) ≤ k ∧ (k : Int) < a + n := by omega
              generalize hB : freeB L k = B
              have hheld : heldB a n L k = !B := by
                rw [← hB]; unfold heldB freeB; simp [hr1]
              rw [hheld] at d
              have HB := Lib.hid hB
              clear hB hheld hmem
              go_wp2_with fail
              refine (FHas_is S p a n L k B _ hfk (by omega) HB.out).mono ?_; rintro e w4 ⟨rfl, hc4⟩
              have hf5 := hfk.self hc4; have hc5 := hck.trans hc4 (by simp); have hb5 := hc4.blk hbk (by simp)
              have d5 := (World.cell?_of_block (a := ⟨z, k, none⟩) (hc4.block z hbk.lt (by simp))).trans d
              clear hck hfk hbk hc4 d HB
              cases B
              all_goals
                simp only [Bool.not_false, Bool.not_true] at d5
                go_wp2_with fail
                go_roundw
                case rel => exact ⟨k + 1, by omega, by go_num, hc5, hf5, hb5⟩
                case measure => simp [intOf]; omega
            · have hB : freeB L k = false := by
                rw [← Bool.not_eq_true]; unfold freeB
                intro h
                have := hmem k (List.contains_iff_mem.1 h)
                omega
              have HB := Lib.hid hB
              clear hB hmem
              by_cases hr1 : a ≤ k
              · have hr2 : ¬ ((k : Int) < a + n) := by omega
                go_wp2_with fail
                refine (FHas_is S p a n L k false _ hfk (by omega) HB.out).mono ?_; rintro e w4 ⟨rfl, hc4⟩
                have hf5 := hfk.self hc4; have hc5 := hck.trans hc4 (by simp); have hb5 := hc4.blk hbk (by simp)
                clear hck hfk hbk hc4 d HB
                go_wp2_with fail
                go_roundw
                case rel => exact ⟨k + 1, by omega, by go_num, hc5, hf5, hb5⟩
                case measure => simp [intOf]; omega
              · go_wp2_with fail
                refine (FHas_is S p a n L k false _ hfk (by omega) HB.out).mono ?_; rintro e w4 ⟨rfl, hc4⟩
                have hf5 := hfk.self hc4; have hc5 := hck.trans hc4 (by simp); have hb5 := hc4.blk hbk (by simp)
                clear hck hfk hbk hc4 d HB
                go_wp2_with fail
                go_roundw
                case rel => exact ⟨k + 1, by omega, by go_num, hc5, hf5, hb5⟩
                case measure => simp [intOf]; omega
          · go_wp2_with fail
            go_ret
            exact ⟨rfl, hck⟩

end Go.Proofs.Yteccjemmdaalpaa
