/-
  FreeLast: the walk.
-/
import Derived.Test.YteccjemmdaalpaaFreeHead
namespace Go.Proofs.Yteccjemmdaalpaa
open Go.RowKit Go.Maps

set_option maxRecDepth 100000 in
set_option maxHeartbeats 8000000 in
theorem FreeLast_walk (many : Int) (A : Option Addr) (len c : Nat) (xs : List Int) (w : World) (h1 : 0 ≤ many ∧ many ≤ 255) (hl : SlK .u8 w A len xs) :
    Calls Try.prog 6 #[.int .u8 many, .slice A len c] w fun e w' => e = .returned (.bool true) ∧ Chg [] w w' := by
  obtain ⟨m, hm⟩ := Int.eq_ofNat_of_zero_le (show 0 ≤ many % 100 by omega)
  have hm100 : m < 100 := by omega
  have hlen := hl.le
  by_cases hbig : 300 < len
  · go_enter Try.func6, Try.ntmps6
    go_wp2_with fail
    refine (Fhead_any _).mono ?_; rintro e w1 ⟨rfl, hc1⟩
    go_wp2_with fail
    refine (FNew_at 7 (1 + m) _ (by omega)).mono ?_; rintro e w2 ⟨p, S, rfl, hc2, hf2, hS⟩
    go_wp2_with fail
    go_ret
    exact ⟨rfl, hc1.trans hc2 (by simp)⟩
  · obtain ⟨i0, hi0, hz0, hz1, hz2⟩ := info_parts int_info
    go_enter Try.func6, Try.ntmps6
    go_wp2_with fail
    refine (Fhead_any _).mono ?_; rintro e w1 ⟨rfl, hc1⟩
    go_wp2_with fail
    refine (FNew_at 7 (1 + m) _ (by omega)).mono ?_; rintro e w2 ⟨p, S, rfl, hc2, hf2, hS2⟩
    have hc := hc1.trans hc2 (by simp)
    have hS : ∀ i ∈ S, w.heap.size ≤ i := fun i hi => Nat.le_trans hc1.size (hS2 i hi)
    clear hc1 hc2 hS2
    go_wp2_with fail
    go_loopw [8] (fun i w' => ∃ k : Nat, k ≤ 1 + m ∧ i = .int .i64 k ∧ Chg [] w w' ∧ FAt w' S p 7 (1 + m) (dnk (7 + k) (1 + m - k))) (fun i _ => 1 + m - (intOf i).toNat)
    case atStart => exact ⟨0, by omega, rfl, hc, hf2⟩
    case round =>
      obtain ⟨k, hk, rfl, hck, hfk⟩ := hrel
      clear hc hf2
      by_cases hlt : k < 1 + m
      · have hlt' : (k : Int) < 1 + m := by omega
        go_wp2_with fail
        refine (FTake_at S p 7 (1 + m) _ _ hfk).mono ?_; rintro e w3 ⟨rfl, hc3, hf3⟩
        have hc4 := hck.trans hc3 (fun i hi hm => absurd (hS i hm) (by omega))
        have hX : dnk (7 + k) (1 + m - k) = dnk (7 + (k + 1)) (1 + m - (k + 1)) ++ [(7 : Int) + k] := by
          rw [show 1 + m - k = 1 + m - (k + 1) + 1 by omega, dnk_snoc]; rfl
        rw [hX, List.dropLast_concat] at hf3
        clear hck hc3 hfk hX
        go_wp2_with fail
        go_roundw
        case rel => exact ⟨k + 1, by omega, by go_num, hc4, hf3⟩
        case measure => simp [intOf]; omega
      · obtain rfl : k = 1 + m := by omega
        rw [Nat.sub_self] at hfk
        have hge : ¬ (((1 + m : Nat) : Int) < 1 + m) := by omega
        have hfk' : FAt wr S p 7 (1 + m) [] := hfk
        clear hfk hk hlt
        go_wp2_with fail
        go_loopw [9, 10, 11] (fun v i _ w' => ∃ (k : Nat) (S : List Nat) (L : List Int), k ≤ len ∧ i = .int .i64 k ∧ Chg [] w w' ∧ FAt w' S p 7 (1 + m) L ∧ OwnI w' 3 .i64 v L ∧ (∀ i ∈ S, w.heap.size ≤ i) ∧ (∀ i ∈ v.ownBlock.toList, w.heap.size ≤ i) ∧ (∀ i ∈ v.ownBlock.toList, i ∉ S)) (fun _ i _ _ => len - (intOf i).toNat)
        case atStart => exact ⟨0, S, [], by omega, rfl, hck, hfk', OwnI.none_ _ _ _, hS, by simp [Value.ownBlock], by simp [Value.ownBlock]⟩
        case round =>
          clear hck hfk' hS
          obtain ⟨k, S, L, hk, rfl, hck, hfk, hov, hS, hV, hd⟩ := hrel
          by_cases hlt : k < len
          · obtain ⟨ob, off, rfl, hob, c0', hx0, hx1⟩ := hl.get hlt
            have c0 := (hck.cell (p := ⟨ob, off + k, none⟩) hob (by simp)).trans c0'
            clear c0'
            generalize xs.getD k 0 = x at *
            simp [IntKind.min, IntKind.max, IntKind.signed, IntKind.bits] at hx0 hx1
            have hr0 : 0 ≤ x % (1 + (m : Int)) := Int.emod_nonneg _ (by omega)
            have hr1 : x % (1 + (m : Int)) < 1 + m := Int.emod_lt_of_pos _ (by omega)
            have hpos : 0 < 1 + (m : Int) := by omega
            have hLn := hfk.len_le
            obtain ⟨A2, c2, rfl⟩ := hov.form
            go_wp2_with fail
            generalize x % (1 + (m : Int)) = y at *
            have hlv := hov.lt
            cases hg : giveB 7 (1 + m) L (7 + y) with
            | false =>
              refine (FGive_not S p 7 (1 + m) L (7 + y) _ hfk (by omega) hg).mono ?_; rintro e w4 ⟨rfl, S4, hc5, hf5, hG5⟩
              have hc6 := hck.trans hc5 (fun i hi hm => absurd (hS i hm) (by omega))
              have ho6 := hov.chg hc5 hd
              have hS4 := grew_base hG5 hck.size hS
              have hd4 : ∀ i ∈ (Value.slice A2 L.length c2).ownBlock.toList, i ∉ S4 := fun i hi hm => (hG5 i hm).elim (hd i hi) (fun h => by have := hlv i hi; omega)
              clear hck hfk hov hS hd hc5 hG5 hg
              go_wp2_with fail
              go_roundw
              case rel => exact ⟨k + 1, S4, L, by omega, by go_num, hc6, hf5, ho6, hS4, hV, hd4⟩
              case measure => simp [intOf]; omega
            | true =>
              refine (FGive_is S p 7 (1 + m) L (7 + y) _ hfk (by omega) hg).mono ?_; rintro e w4 ⟨rfl, S4, hc5, hf5, hG5⟩
              have hc6 := hck.trans hc5 (fun i hi hm => absurd (hS i hm) (by omega))
              have ho6 := hov.chg hc5 hd
              have hS4 := grew_base hG5 hck.size hS
              have hd4 : ∀ i ∈ (Value.slice A2 L.length c2).ownBlock.toList, i ∉ S4 := fun i hi hm => (hG5 i hm).elim (hd i hi) (fun h => by have := hlv i hi; omega)
              have hlS := hf5.lt
              have hws := hc6.size
              clear hck hfk hov hS hd hc5 hG5 hg
              go_wp2_with (at_builtin
                           refine wpList_append_src rfl _ _ 39 rfl 0 3 i0 _ 1 8 Try.underlying39 hi0 hz0 hz1 hz2 rfl (by omega) (.slice A2 L.length c2) L.length (vals .i64 L) rfl (World.ownsRow.alloc ho6 _) (some ⟨w4.heap.size, 0, none⟩) 1 1 [.int .i64 (7 + y)] rfl ⟨by simp, by simp [Value.oneCell'], by simp, cell_src _ w4⟩ (by simp [maxLen]; omega) (by omega) (by simp) ?_
                           intro v3 w3 hown3 hc3 hv3)
              go_roundw
              have hc43 : Chg (Value.slice A2 L.length c2).ownBlock.toList w4 w3 := ((Chg.refl _ _).alloc _).trans hc3 (by simp)
              have hb3 : ∀ i ∈ v3.ownBlock.toList, i ∈ (Value.slice A2 L.length c2).ownBlock.toList ∨ w4.heap.size ≤ i := fun i hi => by
                rcases hv3 with e | e
                · left; rw [← e]; exact hi
                · right; rw [e] at hi; simp at hi; omega
              case rel =>
                refine ⟨k + 1, S4, L ++ [7 + y], by omega, by go_num, hc6.trans hc43 (fun i hi hm => absurd (hV i hm) (by omega)), hf5.chg hc43 (fun i hi hm => hd4 i hm hi), ?_, hS4, fun i hi => (hb3 i hi).elim (hV i) (fun h => by omega), fun i hi hm => (hb3 i hi).elim (fun h => hd4 i h hm) (fun h => by have := hlS i hm; omega)⟩
                unfold OwnI
                rw [vals_app, vals_one, List.length_append]
                exact hown3
              case measure => simp [intOf]; omega
          · have hLn := hfk.len_le
            obtain ⟨A2, c2, rfl⟩ := hov.form
            go_wp2_with fail
            go_loopw [12, 13, 14] (fun i _ _ w' => ∃ (j : Int) (q : Nat), (j + 1 ≤ q ∧ q ≤ j + 1) ∧ q ≤ L.length ∧ i = .int .i64 j ∧ Chg [] w w' ∧ FAt w' S p 7 (1 + m) (L.take q) ∧ OwnI w' 3 .i64 (.slice A2 L.length c2) L) (fun i _ _ _ => (intOf i + 1).toNat)
            case atStart => exact ⟨_, L.length, by omega, by omega, rfl, hck, by rw [List.take_length]; exact hfk, hov⟩
            case round =>
              clear hck hfk hov hk hlt
              obtain ⟨j, q, hj, hq, rfl, hck, hfk, hov⟩ := hrel
              cases q with
              | zero =>
                have hj0 : j < 0 := by omega
                go_wp2_with fail
                refine (FTake_none S p 7 (1 + m) _ hfk).mono ?_; rintro e w3 ⟨rfl, hc3, hf3⟩
                have hc4 := hck.trans hc3 (fun i hi hm => absurd (hS i hm) (by omega))
                go_wp2_with fail
                go_ret
                exact ⟨rfl, hc4⟩
              | succ q =>
                have hj0 : 0 ≤ j := by omega
                have hjl : j < L.length := by omega
                obtain ⟨g, c', hA, hcl, hcm⟩ := hov.pos_ (by omega)
                injection hA with hA hA2 hA3
                subst hA; subst hA3
                have hX : L.take (q + 1) = L.take q ++ [L.getD q 0] := by
                  rw [List.take_succ_eq_append_getElem (by omega)]
                  simp only [List.getD_eq_getElem?_getD, List.getElem?_eq_getElem (show q < L.length by omega), Option.getD_some]
                rw [hX] at hfk
                clear hX
                obtain rfl : j = (q : Int) := by omega
                go_wp2_with fail
                refine (FTake_is S p 7 (1 + m) _ _ _ hfk).mono ?_; rintro e w3 ⟨rfl, hc3, hf3⟩
                have hc4 := hck.trans hc3 (fun i hi hm => absurd (hS i hm) (by omega))
                have ho3 := hov.chg hc3 hd
                have ck := ho3.cell q (by omega)
                generalize L.getD q 0 = y at *
                clear hck hfk hov hc3
                go_wp2_with fail
                go_roundw
                case rel => exact ⟨_, q, by omega, by omega, rfl, hc4, hf3, ho3⟩
                case measure => simp [intOf]

end Go.Proofs.Yteccjemmdaalpaa
