/-
  GmapRefuses: the walk.
-/
import Derived.Test.YtmnlbolnphcpmaaGmapArg
import Derived.Test.YtmnlbolnphcpmaaLawGmapBack
namespace Go.Proofs.Ytmnlbolnphcpmaa
open Go.RowKit Go.Maps

theorem mem_set_at (L : List Int) (q : Nat) (hq : q < L.length) (y : Int) : y ∈ L.set q y := List.mem_iff_getElem?.2 ⟨q, by simp [hq]⟩

set_option maxRecDepth 100000 in
set_option maxHeartbeats 8000000 in
theorem GmapRefuses_walk (A : Option Addr) (n c : Nat) (L : List Int) (fr at0 : Int) (w : World) (h : SlK .i64 w A n L) (hnil : A = none → n = 0 ∧ c = 0) (ha : 0 ≤ at0 ∧ at0 ≤ 255) :
    Calls Try.prog 5 #[.slice A n c, .int .i64 fr, .int .u8 at0] w fun e w' => e = .returned (.bool true) ∧ Chg [] w w' := by
  have hl := h.le
  have hlen := h.len
  subst hlen
  obtain ⟨i0, hi0, hz0, hz1, hz2⟩ := info_parts int_info
  by_cases hn0 : L.length = 0
  · have e0 : ((L.length : Int) == 0) = true := by simp; exact List.eq_nil_of_length_eq_zero hn0
    go_enter Try.func5, Try.ntmps5
    go_wp2_with fail
    refine (Ghead_any _).mono ?_; rintro e w1 ⟨rfl, hc1⟩
    go_wp2_with fail
    go_ret
    exact ⟨rfl, hc1⟩
  · have e0 : ((L.length : Int) == 0) = false := by rw [Bool.eq_false_iff]; intro hh; exact hn0 (by have := eq_of_beq hh; omega)
    by_cases hbig : 2000 < L.length
    · go_enter Try.func5, Try.ntmps5
      go_wp2_with fail
      refine (Ghead_any _).mono ?_; rintro e w1 ⟨rfl, hc1⟩
      go_wp2_with fail
      go_ret
      exact ⟨rfl, hc1⟩
    · by_cases hok : OkL L fr
      · have hn : L.length ≤ 64 := hok.2.1
        have hfr : 1 ≤ fr ∧ fr ≤ 256 := ⟨hok.2.2.1, hok.2.2.2.1⟩
        obtain ⟨q, hq⟩ := Int.eq_ofNat_of_zero_le (show 0 ≤ Int.tmod at0 L.length by exact Int.tmod_nonneg _ ha.1)
        have hqn : q < L.length := by
          have := Int.tmod_lt_of_pos at0 (show (0 : Int) < L.length by omega)
          omega
        have hnz : ¬ (L.length : Int) = 0 := by omega
        go_enter Try.func5, Try.ntmps5
        go_wp2_with fail
        refine (Ghead_any _).mono ?_; rintro e w1 ⟨rfl, hc1⟩
        go_wp2_with fail
        refine (GNew_ok A L.length c L fr _ (h.chg hc1) hok).mono ?_; rintro e w2 ⟨p, S, rfl, hc2, _, _⟩
        have hca := hc1.trans hc2 (by simp)
        clear hc1 hc2
        have hs := ((h.chg hca).chg ((Chg.refl [] _).alloc (.cells #[] 3))).src (c := c) hnil
        go_wp2_with (at_builtin; refine wpList_append_src rfl _ _ 22 rfl 0 3 i0 _ 1 8 Try.underlying22 hi0 hz0 hz1 hz2 rfl (by omega) _ _ _ rfl (own_made0 (Blk.new w2 3 #[])) A L.length c (vals .i64 L) rfl hs (by simp [maxLen]; omega) (by omega) (by simp) ?_
                     intro v3 w3 hown3 hc3 hv3
                     obtain ⟨hcw3, hg3⟩ := step_one ((Chg.refl [] w2).alloc _) (Nat.le_refl _) hc3 hv3
                     simp only [List.nil_append, Nat.zero_add] at hown3
                     have ho3 := own_any hown3 rfl
                     obtain ⟨ga, ca, rfl, _, _⟩ := ho3.pos_ (by omega)
                     have d3 := ho3.cell q hqn
                     have f3 := ho3.frozen q)
        have hga := hg3 ga (by simp [Value.ownBlock])
        have hoa := ho3.set_ q hqn fr
        have hcs : Chg [ga] w3 (w3.setCell ⟨ga, q, none⟩ (.int .i64 fr)) := (Chg.refl _ _).setCell (by simp) _
        have hc4 : Chg [] w (w3.setCell ⟨ga, q, none⟩ (.int .i64 fr)) := (hca.trans hcw3 (by simp)).trans hcs (by intro i hi hm; simp at hm; have := hca.size; omega)
        clear hown3 hc3 hv3 hs hg3 d3 f3 hcs hcw3 ho3
        generalize w3.setCell ⟨ga, q, none⟩ (.int .i64 fr) = w4 at *
        obtain ⟨b, off, rfl, hb, d, hxw⟩ := (h.chg hc4).get hqn
        obtain ⟨x, hx⟩ : ∃ x, L.getD q 0 = x := ⟨_, rfl⟩
        rw [hx] at d hxw
        have HX := Lib.hid hx
        clear hx
        have h4 := h.chg hc4
        have hE1 : Chg [] w4 (w4.drew.alloc (.cells #[] 3)) := (Chg.refl [] w4).drew.alloc _
        have hE2 : Chg [] w4 ((w4.drew.alloc (.cells #[] 3)).alloc (.cells #[.int .i64 x] 3)) := hE1.alloc _
        have hE3 : Chg [] w4 ((w4.drew.alloc (.cells #[.int .i64 x] 3)).alloc (.cells #[] 3)) := ((Chg.refl [] w4).drew.alloc _).alloc _
        have hs1 := (h4.chg hE1).src (c := c) hnil
        have hs2 := (h4.chg hE2).src (c := c) hnil
        have hs3 := (h4.chg hE3).src (c := c) hnil
        go_region_held3 (fun w' => w'.cell? ⟨b, off + q, none⟩ = some (.int .i64 x))
          (first
            | exact d
            | exact d5
            | exact d6
            | go_keep)
          ((first
            | (refine step_append_src rfl (.tmp 40) (.tmp 41) 22 rfl 0 3 i0 _ 1 8 Try.underlying22 hi0 hz0 hz1 hz2 rfl (by omega) _ _ _ rfl (own_made0 (Blk.new w4.drew 3 #[])) (some ⟨b, off, none⟩) L.length c (vals .i64 L) rfl hs1 (by simp [maxLen]; omega) (by omega) (Nat.zero_le _) L.length (Nat.zero_add _) (vals .i64 L) rfl ?_; intro v5 w5 hown5 hc5 hv5; obtain ⟨hcw5, hg5⟩ := step_one hE1 (Nat.le_refl _) hc5 hv5; have d5 := (hcw5.cell (p := ⟨b, off + q, none⟩) hb (by simp)).trans d; obtain ⟨A5, c5, rfl, _, _⟩ := own_form hown5)
            | (refine step_append_src rfl (.tmp 40) (.tmp 41) 22 rfl 0 3 i0 _ 1 8 Try.underlying22 hi0 hz0 hz1 hz2 rfl (by omega) _ _ _ rfl (own_made0 ((Blk.new w4.drew 3 #[]).alloc _)) (some ⟨b, off, none⟩) L.length c (vals .i64 L) rfl hs2 (by simp [maxLen]; omega) (by omega) (Nat.zero_le _) L.length (Nat.zero_add _) (vals .i64 L) rfl ?_; intro v5 w5 hown5 hc5 hv5; obtain ⟨hcw5, hg5⟩ := step_one hE2 (Nat.le_refl _) hc5 hv5; have d5 := (hcw5.cell (p := ⟨b, off + q, none⟩) hb (by simp)).trans d; have hbx := hc5.blk (blk_second w4 (.cells #[] 3) 3 #[.int .i64 x]) (by rw [Option.mem_toList]; change ¬ (some w4.heap.size = some _); simp); obtain ⟨A5, c5, rfl, _, _⟩ := own_form hown5)
            | (refine step_append_src rfl (.tmp 40) (.tmp 41) 22 rfl 0 3 i0 _ 1 8 Try.underlying22 hi0 hz0 hz1 hz2 rfl (by omega) _ _ _ rfl (own_made0 (blk_second w4 (.cells #[.int .i64 x] 3) 3 #[])) (some ⟨b, off, none⟩) L.length c (vals .i64 L) rfl hs3 (by simp [maxLen]; omega) (by omega) (Nat.zero_le _) L.length (Nat.zero_add _) (vals .i64 L) rfl ?_; intro v5 w5 hown5 hc5 hv5; obtain ⟨hcw5, hg5⟩ := step_one hE3 (by simp) hc5 hv5; have d5 := (hcw5.cell (p := ⟨b, off + q, none⟩) hb (by simp)).trans d; have hbx := hc5.blk ((Blk.new w4.drew 3 #[.int .i64 x]).alloc _) (by rw [Option.mem_toList]; change ¬ (some _ = some w4.heap.size); simp); obtain ⟨A5, c5, rfl, _, _⟩ := own_form hown5)
            | (refine step_append_src rfl (.tmp 42) (.tmp 47) 22 rfl 0 3 i0 _ 1 8 Try.underlying22 hi0 hz0 hz1 hz2 rfl (by omega) _ _ _ rfl hown5 (some _) 1 1 [.int .i64 x] rfl (src_one hbx) (by simp [maxLen]; omega) (by omega) (Nat.zero_le _) (L.length + 1) rfl (vals .i64 (L ++ [x])) (vals_snoc L x) ?_; intro v6 w6 hown6 hc6 hv6; have hcw6 := step_two hcw5 hg5 hc6; have d6 := (hcw6.cell (p := ⟨b, off + q, none⟩) hb (by simp)).trans d; obtain ⟨A6, c6, rfl, _, _⟩ := own_form hown6)
            | (refine step_append_src rfl (.tmp 42) (.tmp 47) 22 rfl 0 3 i0 _ 1 8 Try.underlying22 hi0 hz0 hz1 hz2 rfl (by omega) _ _ _ rfl (World.ownsRow.alloc hown5 _) (some _) 1 1 [.int .i64 x] rfl (src_one (Blk.new w5 3 #[.int .i64 x])) (by simp [maxLen]; omega) (by omega) (Nat.zero_le _) (L.length + 1) rfl (vals .i64 (L ++ [x])) (vals_snoc L x) ?_; intro v6 w6 hown6 hc6 hv6; have hcw6 := step_two (hcw5.alloc _) hg5 hc6; have d6 := (hcw6.cell (p := ⟨b, off + q, none⟩) hb (by simp)).trans d; obtain ⟨A6, c6, rfl, _, _⟩ := own_form hown6)))
        all_goals
          have ho6 := own_any hown6 (by simp)
          have hoa6 := hoa.chg hcw6 (by simp)
          have hc7 := hc4.trans hcw6 (by simp)
          clear hown6 hc6 hv6 hcw6 hown5 hc5 hv5 hcw5 hg5 d5 d6 hs1 hs2 hs3 hE1 hE2 hE3 h4 d hoa hc4 hb
          try clear hbx
          have hs := ((h.chg hc7).chg ((Chg.refl [] _).alloc (.cells #[] 3))).src (c := c) hnil
          go_wp2_with (at_builtin; refine wpList_append_src rfl _ _ 22 rfl 0 3 i0 _ 1 8 Try.underlying22 hi0 hz0 hz1 hz2 rfl (by omega) _ _ _ rfl (own_made0 (Blk.new w6 3 #[])) (some ⟨b, off, none⟩) L.length c (vals .i64 L) rfl hs (by simp [maxLen]; omega) (by omega) (by simp) ?_
                       intro v3 w7 hown3 hc3 hv3
                       obtain ⟨hcw3, hg3⟩ := step_one ((Chg.refl [] w6).alloc _) (Nat.le_refl _) hc3 hv3
                       simp only [List.nil_append, Nat.zero_add] at hown3
                       have ho3 := own_any hown3 rfl
                       obtain ⟨gc, cc, rfl, _, _⟩ := ho3.pos_ (by omega)
                       have d3 := ho3.cell q hqn
                       have f3 := ho3.frozen q)
          have hgc := hg3 gc (by simp [Value.ownBlock])
          have hoc := ho3.set_ q hqn (-1)
          have hcs : Chg [gc] w7 (w7.setCell ⟨gc, q, none⟩ (.int .i64 (-1))) := (Chg.refl _ _).setCell (by simp) _
          have hoa8 := (hoa6.chg hcw3 (by simp)).chg hcs (by intro i hi hm; simp at hm; have := hoa6.lt i hi; omega)
          have hob8 := (ho6.chg hcw3 (by simp)).chg hcs (by intro i hi hm; simp at hm; have := ho6.lt i hi; omega)
          have hc8 : Chg [] w (w7.setCell ⟨gc, q, none⟩ (.int .i64 (-1))) := (hc7.trans hcw3 (by simp)).trans hcs (by intro i hi hm; simp at hm; have := hc7.size; omega)
          clear hown3 hc3 hv3 hs hg3 d3 f3 hcs hcw3 ho3 hoa6 ho6 hc7
          generalize w7.setCell ⟨gc, q, none⟩ (.int .i64 (-1)) = w8 at *
          have hwf := h.wf
          have hsa : SlK .i64 w8 (some ⟨ga, 0, none⟩) L.length (L.set q fr) := OwnI.slk hoa8 (fun y hy => by
            rcases List.mem_or_eq_of_mem_set hy with hy | rfl
            · exact hwf y hy
            · simp [IntKind.min, IntKind.max, IntKind.signed, IntKind.bits]; omega) (by rw [List.length_set]; exact hl)
          have hsb : SlK .i64 w8 A6 (L.length + 1) (L ++ [x]) := OwnI.slk hob8 (fun y hy => by
            rw [List.mem_append, List.mem_singleton] at hy
            rcases hy with hy | rfl
            · exact hwf y hy
            · exact hxw) (by simp; omega)
          have hsc : SlK .i64 w8 (some ⟨gc, 0, none⟩) L.length (L.set q (-1)) := OwnI.slk hoc (fun y hy => by
            rcases List.mem_or_eq_of_mem_set hy with hy | rfl
            · exact hwf y hy
            · decide) (by rw [List.length_set]; exact hl)
          have hnb : ¬ OkL (L ++ [x]) fr := fun hh => by
            have := hh.2.2.2.2.2
            rw [List.nodup_append] at this
            refine this.2.2 x ?_ x (by simp) rfl
            rw [← HX.out]; simp only [List.getD_eq_getElem?_getD, List.getElem?_eq_getElem hqn, Option.getD_some]; exact List.getElem_mem hqn
          clear hoa8 hob8 hoc hwf
          refine (GNew_no _ L.length ca (L.set q fr) fr _ hsa (fun hh => by have := hh.2.2.2.2.1 fr (mem_set_at L q hqn fr); omega)).mono ?_; rintro e w9 ⟨rfl, hc9⟩
          have hcb := hc8.trans hc9 (by simp)
          go_wp2_with fail
          refine (GNew_no _ (L.length + 1) c6 (L ++ [x]) fr _ (hsb.chg hc9) hnb).mono ?_; rintro e w10 ⟨rfl, hc10⟩
          have hcc := hcb.trans hc10 (by simp)
          go_wp2_with fail
          refine (GNew_no _ L.length cc (L.set q (-1)) fr _ ((hsc.chg hc9).chg hc10) (fun hh => by have := hh.2.2.2.2.1 (-1) (mem_set_at L q hqn (-1)); omega)).mono ?_; rintro e w11 ⟨rfl, hc11⟩
          go_wp2_with fail
          go_ret
          exact ⟨rfl, hcc.trans hc11 (by simp)⟩
      · go_enter Try.func5, Try.ntmps5
        go_wp2_with fail
        refine (Ghead_any _).mono ?_; rintro e w1 ⟨rfl, hc1⟩
        go_wp2_with fail
        refine (GNew_no A L.length c L fr _ (h.chg hc1) hok).mono ?_; rintro e w2 ⟨rfl, hc2⟩
        go_wp2_with fail
        go_ret
        exact ⟨rfl, hc1.trans hc2 (by simp)⟩

end Go.Proofs.Ytmnlbolnphcpmaa
