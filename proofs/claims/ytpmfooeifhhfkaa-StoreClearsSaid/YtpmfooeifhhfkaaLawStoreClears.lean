/-
  StoreClears: the law, walked from contracts.
-/
import Derived.Test.YtpmfooeifhhfkaaStoreW
import Derived.Deep.CutRange
namespace Go.Proofs.Ytpmfooeifhhfkaa
open Go.RowKit Go.Maps

theorem U64_info : ((Try.prog.info? 60).map (fun i => (i.zero, i.size, i.bytes))) = some (some (.int .u64 0), 1, 8) := by kernel_rfl
set_option maxRecDepth 100000 in
set_option maxHeartbeats 20000000 in
/-- a slot that is cleared is empty, its word 0; it is not cleared twice; all other slots are as they were -/
theorem lawStoreClears_any (A : Option Addr) (n c : Nat) (L : List Ost) (at_ ix : Nat) (w : World) (hat_ : at_ ≤ 255) (hix : ix ≤ 255) (hl : OpsIn w A n L) :
    Calls Try.prog 8 #[.slice A n c, .int .u8 at_, .int .u8 ix] w fun e w' => e = .returned (.bool true) ∧ Chg [] w w' := by
  have hNew := fun w' => New_at 24 w' (by omega) (by omega)
  have hHd := fun w' => SThead_any w'
  have hn9 := hl.sl.le
  have hnn := hl.sl.len
  replace hnn := Lib.hid hnn
  have H0 := SepC.nil w
  by_cases h200 : (200 : Int) < n
  · have hgt : decide ((n : Int) > 200) = true := by simpa using h200
    go_enter Try.func8, Try.ntmps8
    go_wp2_with fail
    refine (hHd _).mono ?_; rintro e z1 ⟨rfl, y1⟩
    have H1 := H0.new y1
    clear H0 y1 hHd
    go_wp2_with fail
    refine (hNew _).mono ?_; rintro e z2 ⟨hp, hb, rfl, y2, hm, hg1, hg2⟩
    have H2 := H1.new y2
    clear hm hg1 hg2 H1 hNew
    go_wp2_with fail
    go_ret
    exact ⟨rfl, H2.1⟩
  have hgt : decide ((n : Int) > 200) = false := by simpa using h200
  go_enter Try.func8, Try.ntmps8
  go_wp2_with fail
  refine (hHd _).mono ?_; rintro e z1 ⟨rfl, y1⟩
  have H1 := H0.new y1
  clear H0 y1 hHd
  go_wp2_with fail
  refine (hNew _).mono ?_; rintro e z2 ⟨hp, hb, rfl, y2, hm, hg1, hg2⟩
  have H2 := H1.lay (P := hoT hp hb 24 (zeros 192)) (S := [hb, hp]) y2 ⟨rfl, hm⟩ (by intro i hi; simp only [List.mem_cons, List.not_mem_nil, or_false] at hi; rcases hi with rfl | rfl <;> assumption)
  clear hm hg1 hg2 H1 hNew
  have hn200 : n ≤ 200 := by omega
  change SepC w z2 (hoT hp hb 24 (zeros 192) :: []) at H2
  go_wp2_with fail
  refine (H2.sNew (a := 6) (m := 9) (by omega)).mono ?_; rintro e z3 ⟨q, rfl, H3⟩
  change SepC w z3 (stT q hp hb 24 6 9 (st0 9) :: _) at H3
  clear H2
  go_wp2_with fail
  go_loopw [10] (fun s_ wr => ∃ k : Nat, k ≤ n ∧ s_ = .int .i64 k ∧ SepC w wr (stT q hp hb 24 6 9 (runP 24 (st0 9) (L.take k)) :: [])) (fun s_ _ => n - (intOf s_).toNat)
  case atStart => exact ⟨0, Nat.zero_le _, rfl, by simpa [runP] using H3⟩
  case round =>
    obtain ⟨k, hk, rfl, H⟩ := hrel
    clear H3
    by_cases hlt : k < n
    · have hltz : (k : Int) < (n : Int) := by omega
      obtain ⟨b, off, o, rfl, ho, c0, c1, c2, c3, c4, c5, c6, c7, c8, c9, c10⟩ := opE_cells (hl.new H.1).sl hlt
      have hP := H.sPlay o (hl.at_ ho)
      rw [← runP_take ho] at hP
      simp only [Ost.cs] at hP
      clear H
      go_wp2_with fail
      refine hP.mono ?_; rintro e w2 ⟨rfl, H2⟩
      clear hP c0 c1 c2 c3 c4 c5 c6 c7 c8 c9 c10
      go_wp2_with fail
      go_roundw
      case rel => exact ⟨k + 1, by omega, by go_num, H2⟩
      case measure => simp [intOf]; omega
    · obtain rfl : k = n := by omega
      have hltz : ¬ (k : Int) < (k : Int) := by omega
      rw [List.take_of_length_le (Nat.le_of_eq hnn.out)] at H
      obtain ⟨s, hs⟩ : ∃ s, runP 24 (st0 9) L = s := ⟨_, rfl⟩
      rw [hs] at H
      have hok := H.sok
      clear hs hltz
      have hN := hok.le256
      have hpl := fun j (hj : j < s.L.length) => hok.place hj
      have hcl := fun q_ (hq_ : q_ ∈ s.L) i (hi : i < 8) => hok.cleared hq_ hi
      have h0L := fun (h0 : s.L.length = 0) => clear_none (List.eq_nil_of_length_eq_zero h0) 6 0
      have hlen := hok.len
      have cA := H.sAll
      rw [List.length_map] at cA
      obtain ⟨F7, hF7⟩ : ∃ F7, s.L.map Pg.f = F7 := ⟨_, rfl⟩
      rw [hF7] at cA hpl
      clear hF7
      obtain ⟨N7, hN7⟩ : ∃ N7, s.L.length = N7 := ⟨_, rfl⟩
      rw [hN7] at cA hpl hN h0L
      clear hN7
      clear hok
      go_wp2_with fail
      refine (cA).mono ?_; rintro e z7 ⟨A7, c7, rfl, H7⟩
      have H8 := H7.swap
      clear H H7 cA
      by_cases hN0 : N7 = 0
      · subst hN0
        have hd6 := h0L rfl
        have cD := H8.sClear 6 0 (by omega)
        rw [hd6] at cD
        clear hd6 h0L
        go_wp2_with fail
        refine (cD).mono ?_; rintro e z8 ⟨rfl, H9⟩
        go_wp2_with fail
        go_ret
        exact ⟨rfl, H9.1⟩
      clear h0L
      have hNi : ¬ (N7 : Int) = 0 := by omega
      have hNb : ((N7 : Int) == 0) = false := by simpa using hNi
      obtain ⟨J, hJ⟩ : ∃ J, at_ % N7 = J := ⟨_, rfl⟩
      have hJN : J < N7 := by rw [← hJ]; exact Nat.mod_lt _ (by omega)
      have hJz : (J : Int) < (N7 : Int) := by omega
      have hrem : ((at_ : Nat) : Int) % (N7 : Int) = (J : Int) := by rw [← hJ]; rfl
      replace hJ := Lib.hid hJ
      obtain ⟨KI, hKI⟩ : ∃ KI, ix % 8 = KI := ⟨_, rfl⟩
      have hK8 : KI < 8 := by omega
      have hrem2 : ((ix : Nat) : Int) % 8 = (KI : Int) := by omega
      replace hKI := Lib.hid hKI
      obtain ⟨qJ, _, hqmJ, _, _, hqrJ, hqFJ⟩ := hpl J hJN
      obtain ⟨ab, aoff, ax, rfl, _, hax, hac⟩ := SlN.get (H8.pick 1 rfl).own.slg hJN
      rw [hqFJ] at hax; cases hax
      obtain ⟨x, F, hqf, hF24, hx1, hc1, hc2, hc3, hc4⟩ := hcl qJ hqmJ KI hK8
      clear hqrJ hqFJ hqmJ hcl
      rw [hqf] at hac hx1 hc1 hc2 hc3 hc4
      clear hqf
      have hpr : -9223372036854775808 ≤ (F : Int) ∧ (F : Int) ≤ 9223372036854775807 := by omega
      have cS := H8.sSlot (F : Int) (KI : Int) hpr
      rw [slotV_at hx1, hx1] at cS
      clear hx1
      obtain ⟨kd, t_, ⟨rw_, ru, rx⟩⟩ := x
      simp only [Option.isSome_some, Slt.cl] at cS
      simp only at hc1
      go_wp2_with fail
      refine (cS).mono ?_; rintro e z12 ⟨rfl, y12⟩
      clear cS hac
      have H12 := (H8.new y12).alloc #[.int .i64 kd, .int .i64 t_, .bool rw_, .bool ru, .bool rx] 45
      clear H8 y12
      go_wp2_with fail
      clear hrem hrem2
      generalize z12.alloc (.cells #[.int .i64 kd, .int .i64 t_, .bool rw_, .bool ru, .bool rx] 45) = z13 at *
      generalize z12.heap.size = sb at *
      have H13 := H12.ownNil (numE .u64) 60
      clear H12
      replace H13 : SepC w z13 (stT q hp hb 24 6 9 s :: ownT (numE .i64) 3 (.slice (some ⟨ab, aoff, none⟩) N7 c7) F7 :: ownT (numE .u64) 60 (.slice none 0 0) [] :: blkT sb 45 #[.int .i64 kd, .int .i64 t_, .bool rw_, .bool ru, .bool rx] :: []) := ((H13.pick 3 rfl).pick 3 rfl)
      go_loopw [16, 17] (fun sr sc wr => ∃ (f : Nat) (Aw : Option Addr) (cw : Nat), f ≤ 24 ∧ sc = .int .i64 f ∧ sr = .slice Aw (8 * f) cw ∧ SepC w wr (stT q hp hb 24 6 9 s :: ownT (numE .i64) 3 (.slice (some ⟨ab, aoff, none⟩) N7 c7) F7 :: ownT (numE .u64) 60 (.slice Aw (8 * f) cw) (s.W.take (8 * f)) :: blkT sb 45 #[.int .i64 kd, .int .i64 t_, .bool rw_, .bool ru, .bool rx] :: [])) (fun _ sc _ => 24 - (intOf sc).toNat)
      case atStart => exact ⟨0, none, 0, by omega, rfl, rfl, by simpa using H13⟩
      case round =>
        obtain ⟨f, Aw, cw, hf, rfl, rfl, H⟩ := hrel
        clear H13
        by_cases hf24 : f < 24
        · have hfz : (f : Int) < 24 := by omega
          obtain ⟨htk, hfl⟩ := frameW_take (n := 24) hlen hf24
          have cF := Frame_at hp hb 24 s.W (f : Int) wr H.smem
          rw [hfl] at cF
          replace htk := Lib.hid htk
          go_wp2_with fail
          refine cF.mono ?_; rintro e z15 ⟨A15, c15, rfl, y15, hu15, _, hn15⟩
          clear cF
          have H15 := H.new y15
          clear H
          have hown := (H15.pick 2 rfl).own
          have hlt_ : (s.W.take (8 * f)).length = 8 * f := by rw [List.length_take, hlen]; omega
          have hsrc : Src z15 (numE .u64).k A15 8 c15 ((numE .u64).all (frameW 24 s.W (f : Int))) := by rw [numE_all]; exact hu15.src hn15
          go_wp2_with (at_builtin; (refine wpList_append_G (E := numE .u64) rfl _ _ 57 rfl 60 (.int .u64 0) 8 Try.underlying57 U64_info rfl (.slice Aw (8 * f) cw) (s.W.take (8 * f)) rfl hown A15 8 c15 (frameW 24 s.W (f : Int)) rfl hsrc hfl (by rw [hlt_]; omega) ?_); (intro v5 w5 ho5 hc5 hb5); (obtain ⟨A5, c5, rfl, _, _⟩ := ho5.form); (rw [← htk.out] at ho5 hb5); (have hl5 : (s.W.take (8 * (f + 1))).length = 8 * f + 8 := by (rw [List.length_take, hlen]; omega)); (rw [hl5] at ho5 hb5); (rw [List.length_append, hlt_, hfl]))
          have H16 := (H15.pick 2 rfl).app ho5 hc5 hb5
          clear H15 hown hsrc ho5 hc5 hb5 hu15 y15
          replace H16 : SepC w w5 (stT q hp hb 24 6 9 s :: ownT (numE .i64) 3 (.slice (some ⟨ab, aoff, none⟩) N7 c7) F7 :: ownT (numE .u64) 60 (.slice A5 (8 * f + 8) c5) (s.W.take (8 * (f + 1))) :: blkT sb 45 #[.int .i64 kd, .int .i64 t_, .bool rw_, .bool ru, .bool rx] :: []) := ((H16.pick 2 rfl).pick 2 rfl)
          go_roundw
          case rel => exact ⟨f + 1, A5, c5, by omega, by go_num, by first | rfl | go_num, H16⟩
          case measure => simp [intOf]; omega
        · obtain rfl : f = 24 := by omega
          have hfz : ¬ (24 : Int) < 24 := by omega
          rw [show 8 * 24 = 192 from rfl] at H
          rw [List.take_of_length_le (by rw [hlen]; omega)] at H
          have cC := H.sClear (F : Int) (KI : Int) hpr
          obtain ⟨s1, hs1⟩ : ∃ s1, clearS 24 s (F : Int) (KI : Int) = s1 := ⟨_, rfl⟩
          rw [hc1, hs1] at cC
          rw [hs1] at hc2 hc3 hc4
          clear hs1 hc1
          obtain ⟨cb, hcb⟩ : ∃ cb, decide (kd ≠ 0) = cb := ⟨_, rfl⟩
          rw [hcb] at cC
          replace hcb := Lib.hid hcb
          have hl1 : s1.W.length = 192 := by rw [hc4, List.length_set, hlen]
          go_wp2_with fail
          refine (cC).mono ?_; rintro e z20 ⟨rfl, H20⟩
          clear cC H
          have cS := H20.sSlot (F : Int) (KI : Int) hpr
          rw [slotV_at hc2, hc2] at cS
          simp only [Option.isSome_some, Slt.cl, Slt.no] at cS
          clear hc2
          go_wp2_with fail
          refine (cS).mono ?_; rintro e z21 ⟨rfl, y21⟩
          clear cS
          have H21 := (H20.new y21).alloc #[.int .i64 0, .int .i64 0, .bool false, .bool false, .bool false] 45
          clear H20 y21
          go_wp2_with fail
          generalize z21.alloc (.cells #[.int .i64 0, .int .i64 0, .bool false, .bool false, .bool false] 45) = z22 at *
          generalize z21.heap.size = nb at *
          have H22 := H21.ownNil (numE .u64) 60
          clear H21
          replace H22 : SepC w z22 (stT q hp hb 24 6 9 s1 :: ownT (numE .i64) 3 (.slice (some ⟨ab, aoff, none⟩) N7 c7) F7 :: ownT (numE .u64) 60 (.slice Aw 192 cw) (s.W) :: blkT sb 45 #[.int .i64 kd, .int .i64 t_, .bool rw_, .bool ru, .bool rx] :: ownT (numE .u64) 60 (.slice none 0 0) [] :: blkT nb 45 #[.int .i64 0, .int .i64 0, .bool false, .bool false, .bool false] :: []) := ((((H22.pick 5 rfl).pick 5 rfl).pick 5 rfl).pick 5 rfl)
          replace hc4 := Lib.hid hc4
          skip
          go_loopw [21, 22] (fun sr sc wr => ∃ (f : Nat) (Ar : Option Addr) (cr : Nat), f ≤ 24 ∧ sc = .int .i64 f ∧ sr = .slice Ar (8 * f) cr ∧ SepC w wr (stT q hp hb 24 6 9 s1 :: ownT (numE .i64) 3 (.slice (some ⟨ab, aoff, none⟩) N7 c7) F7 :: ownT (numE .u64) 60 (.slice Aw 192 cw) (s.W) :: blkT sb 45 #[.int .i64 kd, .int .i64 t_, .bool rw_, .bool ru, .bool rx] :: ownT (numE .u64) 60 (.slice Ar (8 * f) cr) (s1.W.take (8 * f)) :: blkT nb 45 #[.int .i64 0, .int .i64 0, .bool false, .bool false, .bool false] :: [])) (fun _ sc _ => 24 - (intOf sc).toNat)
          case atStart => exact ⟨0, none, 0, by omega, rfl, rfl, by simpa using H22⟩
          case round =>
            obtain ⟨f, Ar, cr, hf, rfl, rfl, H⟩ := hrel
            clear H22
            by_cases hf24 : f < 24
            · have hfz : (f : Int) < 24 := by omega
              obtain ⟨htk, hfl⟩ := frameW_take (n := 24) hl1 hf24
              have cF := Frame_at hp hb 24 s1.W (f : Int) wr H.smem
              rw [hfl] at cF
              replace htk := Lib.hid htk
              go_wp2_with fail
              refine cF.mono ?_; rintro e z15 ⟨A15, c15, rfl, y15, hu15, _, hn15⟩
              clear cF
              have H15 := H.new y15
              clear H
              have hown := (H15.pick 4 rfl).own
              have hlt_ : (s1.W.take (8 * f)).length = 8 * f := by rw [List.length_take, hl1]; omega
              have hsrc : Src z15 (numE .u64).k A15 8 c15 ((numE .u64).all (frameW 24 s1.W (f : Int))) := by rw [numE_all]; exact hu15.src hn15
              go_wp2_with (at_builtin; (refine wpList_append_G (E := numE .u64) rfl _ _ 57 rfl 60 (.int .u64 0) 8 Try.underlying57 U64_info rfl (.slice Ar (8 * f) cr) (s1.W.take (8 * f)) rfl hown A15 8 c15 (frameW 24 s1.W (f : Int)) rfl hsrc hfl (by rw [hlt_]; omega) ?_); (intro v5 w5 ho5 hc5 hb5); (obtain ⟨A5, c5, rfl, _, _⟩ := ho5.form); (rw [← htk.out] at ho5 hb5); (have hl5 : (s1.W.take (8 * (f + 1))).length = 8 * f + 8 := by (rw [List.length_take, hl1]; omega)); (rw [hl5] at ho5 hb5); (rw [List.length_append, hlt_, hfl]))
              have H16 := (H15.pick 4 rfl).app ho5 hc5 hb5
              clear H15 hown hsrc ho5 hc5 hb5 hu15 y15
              replace H16 : SepC w w5 (stT q hp hb 24 6 9 s1 :: ownT (numE .i64) 3 (.slice (some ⟨ab, aoff, none⟩) N7 c7) F7 :: ownT (numE .u64) 60 (.slice Aw 192 cw) (s.W) :: blkT sb 45 #[.int .i64 kd, .int .i64 t_, .bool rw_, .bool ru, .bool rx] :: ownT (numE .u64) 60 (.slice A5 (8 * f + 8) c5) (s1.W.take (8 * (f + 1))) :: blkT nb 45 #[.int .i64 0, .int .i64 0, .bool false, .bool false, .bool false] :: []) := ((((H16.pick 4 rfl).pick 4 rfl).pick 4 rfl).pick 4 rfl)
              go_roundw
              case rel => exact ⟨f + 1, A5, c5, by omega, by go_num, by first | rfl | go_num, H16⟩
              case measure => simp [intOf]; omega
            · obtain rfl : f = 24 := by omega
              have hfz : ¬ (24 : Int) < 24 := by omega
              rw [show 8 * 24 = 192 from rfl] at H
              rw [List.take_of_length_le (by rw [hl1]; omega)] at H
              have hX : 8 * F + KI < 192 := by omega
              have hXz : 8 * (F : Int) + (KI : Int) < 192 := by omega
              obtain ⟨gw, rfl, hgl, ⟨uw, hth⟩, hfr⟩ := own_spot (H.pick 2 rfl).own hX
              have hset := OwnN.set_ (H.pick 2 rfl).own (8 * F + KI) 0
              rw [← hc4.out] at hset
              go_upto_region 32 with fail
              go_upto_region 33 with fail
              have H40 : SepC w (wr.setCell ⟨gw, 8 * F + KI, none⟩ (.int .u64 0)) (ownT (numE .u64) 60 (.slice (some ⟨gw, 0, none⟩) 192 cw) (s1.W) :: stT q hp hb 24 6 9 s1 :: ownT (numE .i64) 3 (.slice (some ⟨ab, aoff, none⟩) N7 c7) F7 :: blkT sb 45 #[.int .i64 kd, .int .i64 t_, .bool rw_, .bool ru, .bool rx] :: ownT (numE .u64) 60 (.slice Ar 192 cr) (s1.W) :: blkT nb 45 #[.int .i64 0, .int .i64 0, .bool false, .bool false, .bool false] :: []) := (H.pick 2 rfl).step (S := [gw]) (S' := [gw]) (fun _ h => by rw [h.1]; simp [Value.ownBlock]) ((Chg.refl _ _).setCell (p := ⟨gw, 8 * F + KI, none⟩) (by simp) _) ⟨by simp [Value.ownBlock], hset⟩ (fun _ hi => .inl hi)
              clear H hset hgl hth hfr
              generalize wr.setCell ⟨gw, 8 * F + KI, none⟩ (.int .u64 0) = z40 at *
              have b1 := (H40.pick 3 rfl).blk; have b2 := (H40.pick 5 rfl).blk
              have e0 := b1.cell 0
              have f0 := b2.cell 0; have f1 := b2.cell 1; have f2 := b2.cell 2; have f3 := b2.cell 3; have f4 := b2.cell 4
              simp only [List.getElem?_toArray, List.getElem?_cons_zero, List.getElem?_cons_succ] at e0 f0 f1 f2 f3 f4
              have hns := run_eqSl Slt.no Slt.no
              rw [decide_eq_true (rfl : Slt.no = Slt.no)] at hns
              simp only [Slt.cl, Slt.no] at hns
              have H41 := H40.swap
              have cC := H41.sClear (F : Int) (KI : Int) hpr
              rw [hc3] at cC
              have hkb : (kd != 0) = cb := by rw [← hcb.out]; by_cases h : kd = 0 <;> simp [h]
              replace hcb := Lib.hid hcb
              cases cb
              · go_wp2_with fail
                refine (cC).mono ?_; rintro e z41 ⟨rfl, H42⟩
                have cW := SameWords_any (some ⟨gw, 0, none⟩) Ar 192 192 cw cr s1.W s1.W z41 (H42.pick 1 rfl).own.slg.slu (H42.pick 4 rfl).own.slg.slu (by omega) (by omega)
                rw [eqL_self] at cW
                go_wp2_with fail
                refine cW.mono ?_; rintro e z42 ⟨rfl, qd, rfl⟩
                have H43 := H42.new ((Chg.refl [] z41).drewN qd)
                go_wp2_with fail
                go_ret
                exact ⟨rfl, H43.1⟩
              · go_wp2_with fail
                refine (cC).mono ?_; rintro e z41 ⟨rfl, H42⟩
                have cW := SameWords_any (some ⟨gw, 0, none⟩) Ar 192 192 cw cr s1.W s1.W z41 (H42.pick 1 rfl).own.slg.slu (H42.pick 4 rfl).own.slg.slu (by omega) (by omega)
                rw [eqL_self] at cW
                go_wp2_with fail
                refine cW.mono ?_; rintro e z42 ⟨rfl, qd, rfl⟩
                have H43 := H42.new ((Chg.refl [] z41).drewN qd)
                go_wp2_with fail
                go_ret
                exact ⟨rfl, H43.1⟩

theorem StoreClears_walk (A : Option Addr) (n c : Nat) (L : List Ost) (at_ ix : Int) (w : World) (hl : OpsIn w A n L) (hat_ : 0 ≤ at_ ∧ at_ ≤ 255) (hix : 0 ≤ ix ∧ ix ≤ 255) :
    Calls Try.prog 8 #[.slice A n c, .int .u8 at_, .int .u8 ix] w fun e w' => e = .returned (.bool true) ∧ Chg [] w w' := by
  obtain ⟨k, rfl⟩ := Int.eq_ofNat_of_zero_le hat_.1
  obtain ⟨i, rfl⟩ := Int.eq_ofNat_of_zero_le hix.1
  exact lawStoreClears_any A n c L k i w (by omega) (by omega) hl

end Go.Proofs.Ytpmfooeifhhfkaa
