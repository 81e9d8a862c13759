/-
  FreeBack: the walk.
-/
import Derived.Test.YteccjemmdaalpaaFreeArg
namespace Go.Proofs.Yteccjemmdaalpaa
open Go.RowKit Go.Maps

theorem zero70 (w : World) : (zeroValue 41).run Try.prog w = .ok (.agg (bools 70 fun _ => false)) w := by kernel_rfl

/-- is f among the last ones from place m on? -/
def lastB (L : List Int) (m : Nat) (f : Int) : Bool := (L.drop m).contains f
theorem lastB_len (L : List Int) (m : Nat) (hm : L.length ≤ m) (f : Int) : lastB L m f = false := by
  rw [lastB, List.drop_of_length_le hm]; rfl
theorem lastB_succ (L : List Int) (m : Nat) (hm : m < L.length) (f : Int) : lastB L m f = if f = L.getD m 0 then true else lastB L (m + 1) f := by
  unfold lastB
  rw [List.drop_eq_getElem_cons hm, Bool.eq_iff_iff]
  simp only [List.contains_iff_mem, List.mem_cons, List.getD_eq_getElem?_getD, List.getElem?_eq_getElem hm, Option.getD_some]
  by_cases h : f = L[m]
  · simp [h]
  · simp [h]
theorem lastB_not (L : List Int) (m : Nat) (hm : m < L.length) (hn : L.Nodup) : lastB L (m + 1) (L.getD m 0) = false := by
  unfold lastB
  rw [← Bool.not_eq_true, List.contains_iff_mem]
  have h := List.Pairwise.sublist (List.drop_sublist m L) hn
  rw [List.drop_eq_getElem_cons hm, List.pairwise_cons] at h
  simp only [List.getD_eq_getElem?_getD, List.getElem?_eq_getElem hm, Option.getD_some]
  exact fun hm' => h.1 _ hm' rfl

set_option maxRecDepth 100000 in
set_option maxHeartbeats 8000000 in
theorem FreeBack_walk (many : Int) (A : Option Addr) (len c : Nat) (w : World) (h1 : 0 ≤ many ∧ many ≤ 255) (hl : SlOp w A len) :
    Calls Try.prog 7 #[.int .u8 many, .slice A len c] w fun e w' => e = .returned (.bool true) ∧ Chg [] w w' := by
  obtain ⟨n, hn⟩ := Int.eq_ofNat_of_zero_le (show 0 ≤ many % 60 by omega)
  have hn60 : n < 60 := by omega
  have hlen := hl.le
  by_cases hbig : 600 < len
  · go_enter Try.func7, Try.ntmps7
    go_wp2_with fail
    refine (Fhead_any _).mono ?_; rintro e w1 ⟨rfl, hc1⟩
    go_wp2_with fail
    refine (FNew_at 3 n _ (by omega)).mono ?_; rintro e w2 ⟨p, S, rfl, hc2, hf2, hS⟩
    go_wp2_with fail
    go_ret
    exact ⟨rfl, hc1.trans hc2 (by simp)⟩
  · go_enter Try.func7, Try.ntmps7
    go_wp2_with fail
    refine (Fhead_any _).mono ?_; rintro e w1 ⟨rfl, hc1⟩
    go_wp2_with fail
    refine (FNew_at 3 n _ (by omega)).mono ?_; rintro e w2 ⟨p, S, rfl, hc2, hf2, hS2⟩
    have hc := hc1.trans hc2 (by simp)
    have hS : ∀ i ∈ S, w.heap.size ≤ i := fun i hi => Nat.le_trans hc1.size (hS2 i hi)
    clear hc1 hc2 hS2
    go_wp2_with fail
    go_loopw [8] (fun i w' => ∃ (k : Nat) (S : List Nat) (L : List Int), k ≤ len ∧ i = .int .i64 k ∧ Chg [] w w' ∧ FAt w' S p 3 n L ∧ (∀ i ∈ S, w.heap.size ≤ i)) (fun i _ => len - (intOf i).toNat)
    case atStart => exact ⟨0, S, _, by omega, rfl, hc, hf2, hS⟩
    case round =>
      clear hc hf2 hS S
      obtain ⟨k, S, L, hk, rfl, hck, hfk, hS⟩ := hrel
      by_cases hlt : k < len
      · obtain ⟨ob, off, rfl, hob, g, f, ho0⟩ := hl.get hlt
        have hop := ho0.chg hck hob
        have c0 := hop.c0; have c1 := hop.c1; have hwf := hop.wf
        clear hop ho0
        cases g with
        | true =>
          go_wp2_with fail
          refine (FGive_at S p 3 n L f _ hfk hwf).mono ?_; rintro e w3 ⟨S3, rfl, hc3, hf3, hG3⟩
          have hc4 := hck.trans hc3 (fun i hi hm => absurd (hS i hm) (by omega))
          have hS3 : ∀ i ∈ S3, w.heap.size ≤ i := fun i hi => (hG3 i hi).elim (hS i) (fun h => Nat.le_trans hck.size h)
          clear hck hc3 hfk hG3 hS c0 c1
          go_wp2_with fail
          go_roundw
          case rel => exact ⟨k + 1, S3, _, by omega, by go_num, hc4, hf3, hS3⟩
          case measure => simp [intOf]; omega
        | false =>
          go_wp2_with fail
          refine (FTake_at S p 3 n L _ hfk).mono ?_; rintro e w3 ⟨rfl, hc3, hf3⟩
          have hc4 := hck.trans hc3 (fun i hi hm => absurd (hS i hm) (by omega))
          clear hck hc3 hfk c0 c1
          go_wp2_with fail
          go_roundw
          case rel => exact ⟨k + 1, S, _, by omega, by go_num, hc4, hf3, hS⟩
          case measure => simp [intOf]; omega
      · skip
        go_wp2_with fail
        go_loopw [9, 10] (fun i mine w' => ∃ (k : Nat) (S : List Nat) (L : List Int), k ≤ 70 ∧ i = .int .i64 k ∧ Chg [] w w' ∧ FAt w' S p 3 n L ∧ (∀ i ∈ S, w.heap.size ≤ i) ∧ (∀ j : Nat, j < k → 3 ≤ j → j < 3 + n → (j : Int) ∈ L)) (fun i _ _ => 70 - (intOf i).toNat)
        case atStart => exact ⟨0, S, L, by omega, rfl, hck, hfk, hS, by omega⟩
        case round =>
          clear hck hfk hS hk hlt
          obtain ⟨k, S, L, hk, rfl, hck, hfk, hS, hall⟩ := hrel
          by_cases hlt : k < 70
          · by_cases hr : 3 ≤ k ∧ k < 3 + n
            · have hnl : ¬ ((k : Int) < 3) := by omega
              have hnr : (k : Int) < 3 + n := by omega
              generalize ht : freeB L k = t
              have HT := Lib.hid ht
              cases t
              all_goals
                clear ht
                go_wp2_with fail
                refine (FHas_is S p 3 n L k _ _ hfk (by omega) HT.out).mono ?_; rintro e w3 ⟨rfl, hc3⟩
                have hc4 := hck.trans hc3 (by simp)
                have hf4 := hfk.self hc3
                clear hck hfk hc3
                go_wp2_with fail
              · have hg : giveB 3 n L k = true := by
                  have := HT.out
                  unfold freeB at this
                  rw [giveB, this]; simp; omega
                refine (FGive_is S p 3 n L k _ hf4 (by omega) hg).mono ?_; rintro e w4 ⟨rfl, S4, hc5, hf5, hG5⟩
                have hc6 := hc4.trans hc5 (fun i hi hm => absurd (hS i hm) (by omega))
                have hS4 : ∀ i ∈ S4, w.heap.size ≤ i := fun i hi => (hG5 i hi).elim (hS i) (fun h => Nat.le_trans hc4.size h)
                clear hc4 hf4 hc5 hG5 hS hg
                go_wp2_with fail
                go_roundw
                case rel =>
                  refine ⟨k + 1, S4, _, by omega, by go_num, hc6, hf5, hS4, fun j h1 h2 h3 => ?_⟩
                  by_cases e : j = k
                  · subst e; simp
                  · simp [hall j (by omega) h2 h3]
                case measure => simp [intOf]; omega
              · have hg : giveB 3 n L k = false := by
                  have := HT.out
                  unfold freeB at this
                  rw [giveB, this]; simp
                refine (FGive_not S p 3 n L k _ hf4 (by omega) hg).mono ?_; rintro e w4 ⟨rfl, S4, hc5, hf5, hG5⟩
                have hc6 := hc4.trans hc5 (fun i hi hm => absurd (hS i hm) (by omega))
                have hS4 : ∀ i ∈ S4, w.heap.size ≤ i := fun i hi => (hG5 i hi).elim (hS i) (fun h => Nat.le_trans hc4.size h)
                clear hc4 hf4 hc5 hG5 hS hg
                go_wp2_with fail
                go_roundw
                case rel =>
                  refine ⟨k + 1, S4, _, by omega, by go_num, hc6, hf5, hS4, fun j h1 h2 h3 => ?_⟩
                  by_cases e : j = k
                  · subst e
                    have := HT.out
                    unfold freeB at this
                    exact List.contains_iff_mem.1 this
                  · exact hall j (by omega) h2 h3
                case measure => simp [intOf]; omega
            · have hg : giveB 3 n L k = false := by
                have : decide (((3 : Nat) : Int) ≤ k ∧ (k : Int) < (3 : Nat) + n) = false := by simp; omega
                rw [giveB, this]; rfl
              have HG := Lib.hid hg
              clear hg
              by_cases hr3 : 3 ≤ k
              · have hr4 : ¬ ((k : Int) < 3 + n) := by omega
                go_wp2_with fail
                refine (FGive_not S p 3 n L k _ hfk (by omega) HG.out).mono ?_; rintro e w4 ⟨rfl, S4, hc5, hf5, hG5⟩
                have hc6 := hck.trans hc5 (fun i hi hm => absurd (hS i hm) (by omega))
                have hS4 : ∀ i ∈ S4, w.heap.size ≤ i := fun i hi => (hG5 i hi).elim (hS i) (fun h => Nat.le_trans hck.size h)
                clear hck hfk hc5 hG5 hS
                go_wp2_with fail
                go_roundw
                case rel => exact ⟨k + 1, S4, _, by omega, by go_num, hc6, hf5, hS4, fun j h1 h2 h3 => hall j (by omega) h2 h3⟩
                case measure => simp [intOf]; omega
              · go_wp2_with fail
                refine (FGive_not S p 3 n L k _ hfk (by omega) HG.out).mono ?_; rintro e w4 ⟨rfl, S4, hc5, hf5, hG5⟩
                have hc6 := hck.trans hc5 (fun i hi hm => absurd (hS i hm) (by omega))
                have hS4 : ∀ i ∈ S4, w.heap.size ≤ i := fun i hi => (hG5 i hi).elim (hS i) (fun h => Nat.le_trans hck.size h)
                clear hck hfk hc5 hG5 hS
                go_wp2_with fail
                go_roundw
                case rel => exact ⟨k + 1, S4, _, by omega, by go_num, hc6, hf5, hS4, fun j h1 h2 h3 => hall j (by omega) h2 h3⟩
                case measure => simp [intOf]; omega
          · have hmem := hfk.mem
            have hnd := hfk.nodup
            have hperm : L.Perm (dnk 3 n) := by
              rw [List.perm_ext_iff_of_nodup hnd (dnk_nodup 3 n)]
              intro f
              rw [mem_dnk]
              refine ⟨fun h => hmem f h, fun h => ?_⟩
              obtain ⟨j, rfl⟩ := Int.eq_ofNat_of_zero_le (show 0 ≤ f by omega)
              exact hall j (by omega) (by omega) (by omega)
            have hLn : L.length = n := by rw [hperm.length_eq, dnk_len]
            have HLN := Lib.hid hLn
            clear hLn hall
            have hz := zero70
            go_wp2_with fail
            have hcs : Chg [] wr (wr.alloc (.cells (bools 70 fun _ => false) 41)) := (Chg.refl _ _).alloc _
            have hbs := Blk.new wr 41 (bools 70 fun _ => false)
            have hfs := hfk.self hcs
            have hcw := hck.trans hcs (by simp)
            have hzS : ∀ i ∈ S, i < wr.heap.size := hfk.lt
            have hzw := hck.size
            clear hck hfk hcs hz
            generalize wr.alloc (.cells (bools 70 fun _ => false) 41) = ws at *
            generalize wr.heap.size = z at *
            refine (FLeft_is S p 3 n L _ hfs).mono ?_; rintro e w5 ⟨rfl, hc5⟩
            have hf5 := hfs.self hc5
            have hb5 := hc5.blk hbs (by simp)
            have hcx := hcw.trans hc5 (by simp)
            clear hfs hbs hcw hc5
            rw [HLN.out]
            go_wp2_with fail
            go_loopw [12, 13, 14] (fun i _ _ w' => ∃ (k : Nat), k ≤ n ∧ i = .int .i64 k ∧ Chg [] w w' ∧ FAt w' S p 3 n (L.take (n - k)) ∧ Blk w' z 41 (bools 70 (lastB L (n - k)))) (fun i _ _ _ => n - (intOf i).toNat)
            case atStart => exact ⟨0, by omega, rfl, hcx, by rw [List.take_of_length_le (by have := HLN.out; omega)]; exact hf5, by
              rw [bools_congr 70 (lastB L (n - 0)) (fun _ => false) (fun j _ => lastB_len L _ (by have := HLN.out; omega) j)]; exact hb5⟩
            case round =>
              clear hcx hf5 hb5 hk hlt
              obtain ⟨k, hk, rfl, hck, hfk, hbk⟩ := hrel
              by_cases hlt : k < n
              · have hm : n - (k + 1) < L.length := by have := HLN.out; omega
                have e1 : n - k = n - (k + 1) + 1 := by omega
                have hX : L.take (n - k) = L.take (n - (k + 1)) ++ [L.getD (n - (k + 1)) 0] := by
                  rw [e1, List.take_succ_eq_append_getElem hm]
                  simp only [List.getD_eq_getElem?_getD, List.getElem?_eq_getElem hm, Option.getD_some]
                have hin := hmem _ (show L.getD (n - (k + 1)) 0 ∈ L by
                  simp only [List.getD_eq_getElem?_getD, List.getElem?_eq_getElem hm, Option.getD_some]
                  exact List.getElem_mem hm)
                have hnot := lastB_not L _ hm hnd
                have hsucc := lastB_succ L _ hm
                rw [hX] at hfk
                rw [← e1] at hnot hsucc
                clear hX hm e1
                have HM := Lib.hid hmem; have HSU := Lib.hid hsucc
                clear hmem hsucc
                generalize L.getD (n - (k + 1)) 0 = f at *
                obtain ⟨j, rfl⟩ := Int.eq_ofNat_of_zero_le (show 0 ≤ f by omega)
                have hj : 3 ≤ j ∧ j < 3 + n := by omega
                go_wp2_with fail
                refine (FTake_is S p 3 n _ _ _ hfk).mono ?_; rintro e w6 ⟨rfl, hc6, hf6⟩
                have hb6 := hc6.blk hbk (fun h => absurd (hzS _ h) (by omega))
                have hc7 := hck.trans hc6 (fun i hi hm => absurd (hS i hm) (by omega))
                have d := hb6.cell j
                rw [bools_get 70 _ j (by omega), hnot] at d
                have fz := hb6.frozen j
                clear hck hfk hbk hc6 hnot
                go_wp2_with fail
                have hcs : Chg [z] w6 (w6.setCell ⟨z, j, none⟩ (.bool true)) := (Chg.refl _ _).setCell (by simp) _
                go_roundw
                case rel =>
                  refine ⟨k + 1, by omega, by go_num, hc7.trans hcs (by intro i hi hm; simp at hm; omega), hf6.chg hcs (by intro i hi hm; simp at hm; have := hzS i hi; omega), ?_⟩
                  rw [bools_congr 70 (lastB L (n - (k + 1))) (fun y => if y = (j : Int) then true else lastB L (n - k) y) (fun y _ => HSU.out y), ← bools_set]
                  exact hb6.set_ j _
                case measure => simp [intOf]; omega
              · obtain rfl : k = n := by omega
                rw [Nat.sub_self] at hfk
                go_wp2_with fail
                refine (FLeft_is S p 3 _ _ _ hfk).mono ?_; rintro e w6 ⟨rfl, hc6⟩
                go_wp2_with fail
                go_ret
                exact ⟨rfl, hck.trans hc6 (by simp)⟩

end Go.Proofs.Yteccjemmdaalpaa
