/-
  GuestSets: the walk.
-/
import Derived.Test.YtepbknndemlbcaaLawGuestLoads
namespace Go.Proofs.Ytepbknndemlbcaa
open Go.RowKit Go.Maps

set_option maxRecDepth 100000 in
set_option maxHeartbeats 8000000 in
theorem GuestSets_walk (A : Option Addr) (n c : Nat) (L : List Int) (B : Option Addr) (m d : Nat) (gi ii v : Int) (w : World) (h : SlK .i64 w A n L) (hop : SlOp w B m) (hg0 : 0 ≤ gi ∧ gi ≤ 255) (hi0 : 0 ≤ ii ∧ ii ≤ 255) :
    Calls Try.prog 7 #[.slice A n c, .slice B m d, .int .u8 gi, .int .u8 ii, .int .u64 v] w fun e w' => e = .returned (.bool true) ∧ Chg [] w w' := by
  have hl := h.le
  have hlen := h.len
  have hm := hop.le
  subst hlen
  go_enter Try.func7, Try.ntmps7
  go_wp2_with fail
  refine (Guhead_any _).mono ?_; rintro e w1 ⟨rfl, hc1⟩
  go_wp2_with fail
  refine (New_at 40 _ (by omega) (by omega)).mono ?_; rintro e w2 ⟨hp, b, rfl, hc2, hm2, hh, hb⟩
  have hca : Chg [] w w2 := hc1.trans hc2 (by simp)
  have hbw : w.heap.size ≤ b := by have := hc1.size; omega
  clear hc1 hc2 hh hb
  by_cases hok : OkL L 40
  · have hn64 : L.length ≤ 64 := hok.2.1
    have hn1 : 1 ≤ L.length := hok.1
    go_wp2_with fail
    refine (GNew_ok A L.length c L 40 _ (h.chg hca) hok).mono ?_; rintro e w3 ⟨p, S, rfl, hc3, h3, hS⟩
    have hm3 := hm2.chg hc3 (by simp) (by simp)
    have hcb : Chg [] w w3 := hca.trans hc3 (by simp)
    clear hca hc3 hm2 hS
    go_wp2_with fail
    refine (Great7_any B m d _ (hop.chg hcb)).mono ?_; rintro e w' ⟨⟨gr, rfl⟩, rfl⟩
    cases gr with
    | true =>
      go_wp2_with fail
      go_ret
      exact ⟨rfl, hcb⟩
    | false =>
      go_wp2_with fail
      refine (GuNew_at p hp _).mono ?_; rintro e w4 ⟨q, rfl, hc4, h4, hq⟩
      have g4 : GuIn w4 q S p L hp b 40 (zeros (8 * 40)) := ⟨h4, h3.self hc4, hm3.chg hc4 (by simp) (by simp), hok.inh⟩
      have hcc : Chg [] w w4 := hcb.trans hc4 (by simp)
      clear hcb hc4 h4 h3 hm3 hq
      generalize zeros (8 * 40) = W at *
      go_wp2_with fail
      go_loopw [15] (fun i w' => ∃ (k : Nat) (W : List Int), k ≤ m ∧ i = .int .i64 k ∧ Chg [] w w' ∧ GuIn w' q S p L hp b 40 W) (fun i _ => m - (intOf i).toNat)
      case atStart => exact ⟨0, W, by omega, rfl, hcc, g4⟩
      case round =>
        clear hcc g4 W
        obtain ⟨k, W, hk, rfl, hc, g⟩ := hrel
        by_cases hlt : k < m
        · obtain ⟨ob, off, rfl, what, f, i, x, LA, LN, LC, xs, ho⟩ := (hop.chg hc).get hlt
          have c1 := ho.c1; have c2 := ho.c2; have c3 := ho.c3
          clear ho
          have hset := GuSet_at q S p L hp b 40 W f i x wr.drew (g.self (Chg.refl [] wr).drew)
          go_wp2_with fail
          refine wp_region_still_tail 16 (by kernel_rfl) (by kernel_rfl) ?_
          simp only [List.take_succ_cons, List.take_zero, List.drop_succ_cons, List.drop_zero]
          change wpStill _ _ (World.drew _) _ _ _
          iterate 16 still_step
          refine wpStill_nil ?_
          change wpList _ _ _ _ _ (World.drew wr)
          go_wp2_with fail
          refine hset.mono ?_; rintro e w3 ⟨rfl, hc3, g3⟩
          clear hset c1 c2 c3
          have hcw : Chg [] w w3 := ((hc.trans (Chg.refl [] wr).drew (by simp)).trans hc3 (by intro i hi hm; simp at hm; omega))
          go_wp2_with fail
          go_roundw
          case rel => exact ⟨k + 1, _, by omega, by go_num, hcw, g3⟩
          case measure => simp [intOf]; omega
        · obtain rfl : k = m := by omega
          clear hlt hk
          obtain ⟨a, ha⟩ := Int.eq_ofNat_of_zero_le (show 0 ≤ Int.tmod gi L.length by exact Int.tmod_nonneg _ hg0.1)
          have han : a < L.length := by
            have := Int.tmod_lt_of_pos gi (show (0 : Int) < L.length by omega)
            omega
          have hnz : ¬ (L.length : Int) = 0 := by omega
          obtain ⟨bb, hbb⟩ := Int.eq_ofNat_of_zero_le (show 0 ≤ ii % 8 by omega)
          have hb8 : bb < 8 := by omega
          have hinn := hok.inh
          go_wp2_with fail
          refine (GuAll_at q S p L hp b 40 _ _ g).mono ?_; rintro e w5 ⟨A5, c5, rfl, hc5, ho5, hlow5⟩
          have g5 := g.self hc5
          have hcd : Chg [] w w5 := hc.trans hc5 (by simp)
          have hWl := g5.hm.len
          obtain ⟨gb, c', he, _, _⟩ := ho5.pos_ (by rw [allG_len]; omega)
          injection he with he1 he2 he3; subst he1; subst he3
          have hgb : w.heap.size ≤ gb := by have := hlow5 gb (by simp [Value.ownBlock]); have := hc.size; omega
          have hgbb : gb ≠ b := by have := hlow5 gb (by simp [Value.ownBlock]); have := g.hm.ws.lt; omega
          have hlo := hlow5 gb (by simp [Value.ownBlock])
          have hqs : q ≠ gb := by have := g.st.lt; omega
          have hps : hp ≠ gb := by have := g.hm.st.lt; omega
          have hSs : ∀ i ∈ S, i ∉ [gb] := fun i hi hm => by rw [List.mem_singleton] at hm; have := g.mp.lt i hi; omega
          clear hlo
          have HEQ := Lib.hid (allG_set (W := W) hinn hok.2.2.2.2.2 hWl han hb8 v)
          clear hc hc5 g hlow5 he2 hWl
          go_wp2_with fail
          refine (GuSet_is q S p L hp b 40 W a bb v true _ _ g5 (by rw [hasG_nat hinn]; simp; omega) rfl).mono ?_; rintro e w6 ⟨rfl, hc6, g6⟩
          have hce : Chg [] w w6 := hcd.trans hc6 (by intro i hi hm; simp at hm; omega)
          have ho6 := ho5.chg hc6 (by intro i hi hm; simp [Value.ownBlock] at hi hm; omega)
          clear hcd hc6 g5 ho5
          generalize setG 40 W L a bb v = W6 at *
          have e2 : (((8 * L.length : Nat) : Int) != 8 * ↑L.length) = false := by rw [show ((8 * L.length : Nat) : Int) = 8 * ↑L.length by omega]; simp
          have n1 : hasG 40 L L.length bb = false := by rw [hasG_nat hinn]; simp
          have n2 : hasG 40 L a 8 = false := by rw [hasG_nat hinn]; simp
          have n3 : hasG 40 L (-1) bb = false := by rw [hasG_nat hinn]; simp
          have s1 := setG_no (W := W6) hinn n1 v
          have s2 := setG_no (W := W6) hinn n2 v
          have s3 := setG_no (W := W6) hinn n3 v
          go_wp2_with fail
          refine (GuSet_is q S p L hp b 40 W6 L.length bb v false W6 _ g6 n1 s1).mono ?_; rintro e w7 ⟨rfl, hc7, g7⟩
          go_wp2_with fail
          refine (GuSet_is q S p L hp b 40 W6 a 8 v false W6 _ g7 n2 s2).mono ?_; rintro e w8 ⟨rfl, hc8, g8⟩
          go_wp2_with fail
          refine (GuSet_is q S p L hp b 40 W6 (-1) bb v false W6 _ g8 n3 s3).mono ?_; rintro e w9 ⟨rfl, hc9, g9⟩
          have hc69 : Chg [b] w6 w9 := (hc7.trans hc8 (by simp)).trans hc9 (by simp)
          have hcf : Chg [] w w9 := hce.trans hc69 (by intro i hi hm; simp at hm; omega)
          have ho9 := ho6.chg hc69 (by intro i hi hm; simp [Value.ownBlock] at hi hm; omega)
          have d9 := ho9.cell (8 * a + bb) (by rw [allG_len]; omega)
          have f9 := ho9.frozen (8 * a + bb)
          have hoA := ho9.set_ (8 * a + bb) (by rw [allG_len]; omega) v
          have hcs : Chg [gb] w9 (w9.setCell ⟨gb, 8 * a + bb, none⟩ (.int .u64 v)) := (Chg.refl _ _).setCell (by simp) _
          have gA := g9.other hcs (by simpa using hqs) hSs (by simpa using hps) (by simpa using hgbb.symm)
          have hcg : Chg [] w (w9.setCell ⟨gb, 8 * a + bb, none⟩ (.int .u64 v)) := hcf.trans hcs (by intro i hi hm; simp at hm; omega)
          clear hce hc69 hc7 hc8 hc9 g6 g7 g8 n1 n2 n3 s1 s2 s3 ho6 hcf g9 hcs ho9 e2
          generalize (allG W L).getD (8 * a + bb) 0 = y at *
          go_wp2_with fail
          refine (GuAll_at q S p L hp b 40 _ _ gA).mono ?_; rintro e w10 ⟨A10, c10, rfl, hc10, ho10, hlow10⟩
          have hsA := hoA.slu
          rw [← HEQ.out] at hsA
          go_wp2_with fail
          refine (SameWords_any A10 (some ⟨gb, 0, none⟩) _ _ c10 c5 _ _ _ ho10.slu (hsA.chg hc10 (by simp)) (by omega) (by omega)).mono ?_; rintro e w11 ⟨rfl, k, rfl⟩
          rw [eqL_self]
          go_wp2_with fail
          go_ret
          exact ⟨rfl, (hcg.trans hc10 (by simp)).drewN k⟩
  · go_wp2_with fail
    refine (GNew_no A L.length c L 40 _ (h.chg hca) hok).mono ?_; rintro e w3 ⟨rfl, hc3⟩
    go_wp2_with fail
    go_ret
    exact ⟨rfl, hca.trans hc3 (by simp)⟩

end Go.Proofs.Ytepbknndemlbcaa
