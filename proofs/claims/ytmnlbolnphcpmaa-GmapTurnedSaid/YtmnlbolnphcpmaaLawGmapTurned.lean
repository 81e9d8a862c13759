/-
  GmapTurned: the walk.
-/
import Derived.Test.YtmnlbolnphcpmaaGmapArg
import Derived.Test.YtmnlbolnphcpmaaLawGmapBack
namespace Go.Proofs.Ytmnlbolnphcpmaa
open Go.RowKit Go.Maps

theorem drop_rev_snoc (L : List Int) (k : Nat) (hk : k < L.length) : (L.drop k).reverse = (L.drop (k + 1)).reverse ++ [L.getD k 0] := by
  rw [List.drop_eq_getElem_cons hk, List.reverse_cons]
  simp [List.getD_eq_getElem?_getD, List.getElem?_eq_getElem hk]
theorem locO_rev (L : List Int) (k : Nat) (hk : k < L.length) (hn : L.Nodup) : locO L.reverse (L.getD k 0) = some ((L.length - 1 - k : Nat) : Int) := by
  have e : L.getD k 0 = L.reverse.getD (L.length - 1 - k) 0 := by
    simp only [List.getD_eq_getElem?_getD]
    rw [List.getElem?_reverse (by omega), show L.length - 1 - (L.length - 1 - k) = k by omega]
  rw [e]
  exact locO_at L.reverse _ (by rw [List.length_reverse]; omega) ((List.reverse_perm L).nodup_iff.2 hn)

set_option maxRecDepth 100000 in
set_option maxHeartbeats 8000000 in
theorem GmapTurned_walk (A : Option Addr) (n c : Nat) (L : List Int) (fr : Int) (w : World) (h : SlK .i64 w A n L) :
    Calls Try.prog 7 #[.slice A n c, .int .i64 fr] w fun e w' => e = .returned (.bool true) ∧ Chg [] w w' := by
  have hl := h.le
  have hlen := h.len
  have hwf := h.wf
  have HWF := Lib.hid hwf
  clear hwf
  obtain ⟨i0, hi0, hz0, hz1, hz2⟩ := info_parts int_info
  by_cases hbig : 2000 < n
  · go_enter Try.func7, Try.ntmps7
    go_wp2_with fail
    refine (Ghead_any _).mono ?_; rintro e w1 ⟨rfl, hc1⟩
    go_wp2_with fail
    go_ret
    exact ⟨rfl, hc1⟩
  · go_enter Try.func7, Try.ntmps7
    go_wp2_with fail
    refine (Ghead_any _).mono ?_; rintro e w1 ⟨rfl, hc1⟩
    go_wp2_with fail
    go_loopw [6, 7] (fun v i w' => ∃ (j : Int) (k : Nat), (j + 1 ≤ k ∧ k ≤ j + 1) ∧ k ≤ n ∧ i = .int .i64 j ∧ Chg [] w w' ∧ OwnI w' 3 .i64 v (L.drop k).reverse ∧ (∀ g ∈ v.ownBlock.toList, w.heap.size ≤ g)) (fun _ i _ => (intOf i + 1).toNat)
    case atStart => exact ⟨_, n, by omega, by omega, rfl, hc1, by rw [← hlen, List.drop_length]; exact OwnI.none_ _ _ _, by simp [Value.ownBlock]⟩
    case round =>
      clear hc1
      obtain ⟨j, k, hj, hk, rfl, hc, ho, hg⟩ := hrel
      obtain ⟨Av, cv, rfl⟩ := ho.form
      have hlv : (L.drop k).reverse.length = n - k := by rw [List.length_reverse, List.length_drop, hlen]
      rw [hlv] at ho hg ⊢
      cases k with
      | zero =>
        have hj0 : j < 0 := by omega
        rw [Nat.sub_zero] at ho hg ⊢
        rw [List.drop_zero] at ho
        clear hlv
        have hslB : SlK .i64 wr Av n L.reverse := OwnI.slk ho (fun x hx => HWF.out x (by simpa using hx)) (by rw [List.length_reverse]; omega)
        by_cases hok : OkL L fr
        · have hn64 : n ≤ 64 := hlen ▸ hok.2.1
          go_wp2_with fail
          refine (GNew_ok A n c L fr _ (h.chg hc) hok).mono ?_; rintro e w2 ⟨p, S, rfl, hc2, hg2, _⟩
          have hca := hc.trans hc2 (by simp)
          go_wp2_with fail
          refine (GNew_ok Av n cv L.reverse fr _ (hslB.chg hc2) hok.rev).mono ?_; rintro e w3 ⟨p2, S2, rfl, hc3, hr3, _⟩
          have hcb := hca.trans hc3 (by simp)
          have hg3 := hg2.self hc3
          clear hca hc3 hg2 hc2 hslB ho hg hc
          go_wp2_with fail
          go_loopw [10] (fun i w' => ∃ k : Nat, k ≤ n ∧ i = .int .i64 k ∧ Chg [] w w' ∧ GAt w' S p L ∧ GAt w' S2 p2 L.reverse) (fun i _ => n - (intOf i).toNat)
          case atStart => exact ⟨0, by omega, rfl, hcb, hg3, hr3⟩
          case round =>
            clear hcb hg3 hr3 hj0 hj
            obtain ⟨k, hk, rfl, hck, hgk, hrk⟩ := hrel
            by_cases hlt : k < n
            · have hkl : k < L.length := by omega
              obtain ⟨b, off, rfl, hb, d, _⟩ := (h.chg hck).get hlt
              have l1 := locO_at L k hkl hok.2.2.2.2.2
              have l2 := locO_rev L k hkl hok.2.2.2.2.2
              have hxw := getD_wf HWF.out k hkl
              generalize L.getD k 0 = x at *
              go_wp2_with fail
              refine (GGuest_is S p L x k true _ hgk hxw (by rw [l1]; rfl) (by rw [l1]; rfl)).mono ?_; rintro e w4 ⟨rfl, hc4⟩
              have hg4 := hgk.self hc4
              have hr4 := hrk.self hc4
              have hcc := hck.trans hc4 (by simp)
              have d4 := (hc4.cell (p := ⟨b, off + k, none⟩) hb (by simp)).trans d
              have hb4 := Nat.lt_of_lt_of_le hb hc4.size
              clear hgk hrk hck d hc4 l1
              go_wp2_with fail
              refine (GGuest_is S2 p2 L.reverse x ((L.length - 1 - k : Nat) : Int) true _ hr4 hxw (by rw [l2]; rfl) (by rw [l2]; rfl)).mono ?_; rintro e w5 ⟨rfl, hc5⟩
              have hg5 := hg4.self hc5
              have hr5 := hr4.self hc5
              have hcd := hcc.trans hc5 (by simp)
              clear hg4 hr4 hcc d4 hc5 l2
              have hkk : ((L.length - 1 - k : Nat) : Int) = (n : Int) - 1 - k := by omega
              rw [hkk]
              have hsum : (k : Int) + ((n : Int) - 1 - k) = (n : Int) - 1 := by omega
              clear hkk
              go_wp2_with fail
              go_roundw
              case rel => exact ⟨k + 1, by omega, by go_num, hcd, hg5, hr5⟩
              case measure => simp [intOf]; omega
            · go_wp2_with fail
              go_ret
              exact ⟨rfl, hck⟩
        · go_wp2_with fail
          refine (GNew_no A n c L fr _ (h.chg hc) hok).mono ?_; rintro e w2 ⟨rfl, hc2⟩
          have hca := hc.trans hc2 (by simp)
          go_wp2_with fail
          refine (GNew_no Av n cv L.reverse fr _ (hslB.chg hc2) (fun h => hok (OkL.rev_iff.1 h))).mono ?_; rintro e w3 ⟨rfl, hc3⟩
          have hcb := hca.trans hc3 (by simp)
          go_wp2_with fail
          go_ret
          exact ⟨rfl, hcb⟩
      | succ k =>
        have hj0 : 0 ≤ j := by omega
        obtain rfl : j = (k : Int) := by omega
        have hkl : k < L.length := by omega
        obtain ⟨b, off, rfl, hb, d, _⟩ := (h.chg hc).get (show k < n by omega)
        have hX := drop_rev_snoc L k hkl
        generalize L.getD k 0 = x at *
        have HX := Lib.hid hX
        have ho' : wr.ownsRow 0 3 1 (.slice Av (n - (k + 1)) cv) (n - (k + 1)) (vals .i64 (L.drop (k + 1)).reverse) := by
          have := ho
          unfold OwnI at this
          rw [hlv] at this
          exact this
        clear hX ho hlv
        go_wp2_with (at_builtin
                     refine wpList_append_src rfl _ _ 22 rfl 0 3 i0 _ 1 8 Try.underlying22 hi0 hz0 hz1 hz2 rfl (by omega) (.slice Av (n - (k + 1)) cv) _ _ rfl (World.ownsRow.alloc ho' _) (some ⟨wr.heap.size, 0, none⟩) 1 1 [.int .i64 x] rfl ⟨by simp, by simp [Value.oneCell'], by simp, cell_src _ wr⟩ (by simp [maxLen]; omega) (by omega) (by simp) ?_
                     intro v3 w3 hown3 hc3 hv3
                     obtain ⟨A3, k3, rfl, _, _⟩ := own_form hown3)
        go_roundw
        case rel =>
          refine ⟨_, k, by omega, by omega, rfl, (hc.alloc _).trans hc3 (by intro i hi hm; have := hg i hm; omega), ?_, ?_⟩
          · rw [HX.out]
            unfold OwnI
            rw [vals_app, vals_one, List.length_append, List.length_reverse, List.length_drop, hlen]
            exact hown3
          · intro i hi
            rcases hv3 with e | e
            · rw [e] at hi; exact hg i hi
            · rw [e] at hi; simp at hi; have := hc.size; omega
        case measure => simp [intOf]

end Go.Proofs.Ytmnlbolnphcpmaa
