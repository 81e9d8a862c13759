/-
  GmapBack: the walk.
-/
import Derived.Test.YtmnlbolnphcpmaaGmapHead
namespace Go.Proofs.Ytmnlbolnphcpmaa
open Go.RowKit Go.Maps

theorem zero256 (w : World) : (zeroValue 32).run Try.prog w = .ok (.agg (bools 256 fun _ => false)) w := by kernel_rfl

theorem atV_nat (L : List Int) (k : Nat) (hk : k < L.length) : atV L k = L.getD k 0 ∧ atB L.length k = true := by
  have hb : atB L.length k = true := by simp [atB]; omega
  exact ⟨by unfold atV; rw [hb, if_pos rfl]; simp, hb⟩

/-- is y among the first k? -/
def seenB (L : List Int) (k : Nat) (y : Int) : Bool := (L.take k).contains y
theorem seenB_succ (L : List Int) (k : Nat) (hk : k < L.length) (y : Int) : seenB L (k + 1) y = if y = L.getD k 0 then true else seenB L k y := by
  unfold seenB
  rw [take_snoc L k hk, Bool.eq_iff_iff]
  by_cases e : y = L.getD k 0
  · rw [if_pos e, e, List.contains_iff_mem]; simp
  · rw [if_neg e, List.contains_iff_mem, List.contains_iff_mem, List.mem_append, List.mem_singleton]; simp only [e, or_false]
theorem seenB_not (L : List Int) (k : Nat) (hk : k < L.length) (hn : L.Nodup) : seenB L k (L.getD k 0) = false := by
  unfold seenB
  rw [Bool.eq_false_iff]
  intro hm
  have hs := List.Pairwise.sublist (List.take_sublist (k + 1) L) hn
  rw [take_snoc L k hk, ← List.nodup_iff_pairwise_ne, List.nodup_append] at hs
  exact hs.2.2 _ (List.contains_iff_mem.1 hm) _ (List.mem_singleton.2 rfl) rfl

set_option maxRecDepth 100000 in
set_option maxHeartbeats 8000000 in
theorem GmapBack_walk (A : Option Addr) (n c : Nat) (L : List Int) (fr : Int) (w : World) (h : SlK .i64 w A n L) :
    Calls Try.prog 4 #[.slice A n c, .int .i64 fr] w fun e w' => e = .returned (.bool true) ∧ Chg [] w w' := by
  have hl := h.le
  by_cases hok : OkL L fr
  · have hlen := h.len
    have hn : n ≤ 64 := hlen ▸ hok.2.1
    have hfr : fr ≤ 256 := hok.2.2.2.1
    have hz := zero256
    go_enter Try.func4, Try.ntmps4
    go_wp2_with fail
    refine (Ghead_any _).mono ?_; rintro e w1 ⟨rfl, hc1⟩
    go_wp2_with fail
    refine (GNew_ok A n c L fr _ (h.chg hc1) hok).mono ?_; rintro e w2 ⟨p, S, rfl, hc2, hg2, hS⟩
    have hca := hc1.trans hc2 (by simp)
    have hs1 := hc1.size
    clear hc1 hc2
    go_wp2_with fail
    have hcs : Chg [] w2 (w2.alloc (.cells (bools 256 fun _ => false) 32)) := (Chg.refl _ _).alloc _
    have hbs := Blk.new w2 32 (bools 256 fun _ => false)
    have hgs := hg2.self hcs
    have hcw := hca.trans hcs (by simp)
    have hzS : ∀ i ∈ S, i < w2.heap.size := hg2.lt
    have hzw := hca.size
    clear hca hg2 hcs hz hS
    generalize w2.alloc (.cells (bools 256 fun _ => false) 32) = ws at *
    generalize w2.heap.size = z at *
    go_loopw [8] (fun i w' => ∃ k : Nat, k ≤ n ∧ i = .int .i64 k ∧ Chg [] w w' ∧ GAt w' S p L ∧ Blk w' z 32 (bools 256 (seenB L k))) (fun i _ => n - (intOf i).toNat)
    case atStart => exact ⟨0, by omega, rfl, hcw, hgs, by rw [bools_congr 256 (seenB L 0) (fun _ => false) (fun j _ => rfl)]; exact hbs⟩
    case round =>
      clear hcw hgs hbs
      obtain ⟨k, hk, rfl, hck, hgk, hbk⟩ := hrel
      by_cases hlt : k < n
      · have hkl : k < L.length := by omega
        have hin := hok.2.2.2.2.1 (L.getD k 0) (by simp only [List.getD_eq_getElem?_getD, List.getElem?_eq_getElem hkl, Option.getD_some]; exact List.getElem_mem hkl)
        obtain ⟨b, off, rfl, hb, d, _⟩ := (h.chg hck).get hlt
        obtain ⟨hv, hvb⟩ := atV_nat L k hkl
        have hnot := seenB_not L k hkl hok.2.2.2.2.2
        have hsucc := seenB_succ L k hkl
        have hloc := locO_at L k hkl hok.2.2.2.2.2
        have HSU := Lib.hid hsucc
        clear hsucc
        generalize L.getD k 0 = x at *
        obtain ⟨j, rfl⟩ := Int.eq_ofNat_of_zero_le hin.1
        have hj : j < 256 := by omega
        have hfj : (j : Int) < fr := hin.2
        have fz := hbk.frozen j
        have dz := hbk.cell j
        rw [bools_get 256 _ j hj, hnot] at dz
        clear hnot hin
        go_wp2_with fail
        refine (GHost_is S p L k _ _ _ hgk hv hvb).mono ?_; rintro e w' ⟨rfl, rfl⟩
        clear hv hvb
        go_wp2_with fail
        have hcs : Chg [z] wr (wr.setCell ⟨z, j, none⟩ (.bool true)) := (Chg.refl _ _).setCell (by simp) _
        have hg5 := hgk.chg hcs (by intro i hi hm; simp at hm; have := hzS i hi; omega)
        have hc5 := hck.trans hcs (by intro i hi hm; simp at hm; omega)
        have hb5 := hbk.set_ j (.bool true)
        clear hck hgk hbk hcs
        refine (GGuest_is S p L j k true _ hg5 (by omega) (by rw [hloc]; rfl) (by rw [hloc]; rfl)).mono ?_; rintro e w6 ⟨rfl, hc6⟩
        clear hloc d dz fz
        go_wp2_with fail
        go_roundw
        case rel =>
          refine ⟨k + 1, by omega, by go_num, hc5.trans hc6 (by simp), hg5.self hc6, ?_⟩
          rw [bools_congr 256 (seenB L (k + 1)) (fun y => if y = (j : Int) then true else seenB L k y) (fun y _ => HSU.out y), ← bools_set]
          exact hc6.blk hb5 (by simp)
        case measure => simp [intOf]; omega
      · obtain rfl : k = n := by omega
        have hall : seenB L k = fun y => L.contains y := by
          funext y; unfold seenB; rw [← hlen, List.take_length]
        rw [hall] at hbk
        go_wp2_with fail
        go_loopw [13] (fun i w' => ∃ q : Nat, q ≤ 256 ∧ i = .int .i64 q ∧ Chg [] w w' ∧ GAt w' S p L ∧ Blk w' z 32 (bools 256 fun y => L.contains y)) (fun i _ => 256 - (intOf i).toNat)
        case atStart => exact ⟨0, by omega, rfl, hck, hgk, hbk⟩
        case round =>
          clear hck hgk hbk
          obtain ⟨q, hq, rfl, hck, hgk, hbk⟩ := hrel
          by_cases hqlt : q < 256
          · have dz := hbk.cell q
            rw [bools_get 256 _ q hqlt] at dz
            generalize ht : L.contains (q : Int) = t at *
            have hsome : (locO L q).isSome = t := by rw [locO_some, ht]
            clear ht
            go_wp2_with fail
            refine (GGuest_is S p L q _ t _ hgk (by omega) rfl hsome).mono ?_; rintro e w6 ⟨rfl, hc6⟩
            have dz6 := (hc6.cell (p := ⟨z, q, none⟩) hbk.lt (by simp)).trans dz
            have hb6 := hc6.blk hbk (by simp)
            clear hbk dz hsome
            go_wp2_with fail
            go_roundw
            case rel => exact ⟨q + 1, by omega, by go_num, hck.trans hc6 (by simp), hgk.self hc6, hb6⟩
            case measure => simp [intOf]; omega
          · obtain rfl : q = 256 := by omega
            go_wp2_with fail
            refine (GMany_at S p L _ hgk).mono ?_; rintro e w' ⟨rfl, rfl⟩
            have hlen' : (L.length : Int) = k := by omega
            go_wp2_with fail
            go_ret
            exact ⟨rfl, hck⟩
  · go_enter Try.func4, Try.ntmps4
    go_wp2_with fail
    refine (Ghead_any _).mono ?_; rintro e w1 ⟨rfl, hc1⟩
    go_wp2_with fail
    refine (GNew_no A n c L fr _ (h.chg hc1) hok).mono ?_; rintro e w2 ⟨rfl, hc2⟩
    go_wp2_with fail
    go_ret
    exact ⟨rfl, hc1.trans hc2 (by simp)⟩

end Go.Proofs.Ytmnlbolnphcpmaa
